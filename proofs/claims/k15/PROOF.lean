import PyProof.Rows.All
import Wide.All
import OpenK.AllK
import Wide.FinOn
import HandS.ForMost
import HandS.IsInst
import HandS.Style
import HandS.StrMore
import HandS.Wide
import PyProof.ReprRoads
import PyProof.StrOps2
import PyProof.StrLawsRepr
import HandS.ForExc
import HandS.ExcIs
import HandS.ExcInit
import HandS.ExcField
import HandS.HotCalls
import HandS.DeepEq
import HandS.More
import HandS.Walk
import HandS.Set
import PyProof.SetRoads
import HandS.SetBool
import PyProof.FactsAll.set_1
import PyProof.Draws
import HandS.Zip0
import HandS.DictComp
import HandS.Defaults
import HandS.Iter
import KE.GoesZip
import KE.KDictWalk
import PyProof.Tail
import KE.SortCalls
import KE.KDictCopyH
import HandS.Conv
import HandS.Sort
import KE.KEqDict
import PyProof.DictFindH
import HandS.DictEq
import HandS.ExcOwn
import HandS.TupAny
import HandS.Property
import PyProof.ReprLen
import PySem.Challenge.RW_farapart_k15_whole_starts_found
set_option Elab.async false
set_option linter.all false
set_option maxRecDepth 100000
set_option maxHeartbeats 1000000
/-! what the laws of this program share: defs that are called while no repr is under way -/
namespace Fv
open PySem PySem.Spec PyProof.Rows L2
structure FnG (P : Program) (w : World) (K : PySem.W.Frag) (mg : Str → Option Value) (base : Heap) (k : Nat) (f : Addr) (fd : FuncData) (ps : List Str) (sp : Sp) : Prop where
  wide : ∀ xs H Q E, sp xs H Q E → xs.length = ps.length
  go : ∀ (A : Around) (fr : List Env) (s : Shared) (H : Hp) (us : List Value) (xs : List V) (Q : VK) (E : XK), A.guards = some [] → Room k A → Env0 P w K mg base A fr s H →
    (∀ t : Shared, BindsTo t fd ⟨us, []⟩ (ps.zip us)) → Vals xs us → sp xs H Q E → codeAny (model P w) A (.call (.ref f) ⟨us, []⟩) (CR CX0 fr P w H s Q E) s
def BindG (fd : FuncData) (ps : List Str) : Prop := ∀ us : List Value, us.length = ps.length → ∀ t : Shared, BindsTo t fd ⟨us, []⟩ (ps.zip us)
theorem bindG_of {K : PySem.W.Frag} {x qual : Str} {st : Stmt} {f : Addr} {fd : FuncData} {ps : List Str} (F : Fun K x qual st f fd)
    (h : ∀ (kV doc pm : Value) (an : Option Addr) (cdv ct : Value) (us : List Value), us.length = ps.length → bindArgs (PySem.W.fnOf x qual (defArgs st) (defBody st) (defScope st) .none kV doc pm an cdv ct) ⟨us, []⟩ = pure (ps.zip us)) : BindG fd ps := by
  obtain ⟨oc, od, kV, doc, pm, an, cdv, ct, osl, rfl, lk, hcd⟩ := F.ex
  exact fun us hl t => BindsTo.of_eq (h kV doc pm an cdv ct us hl)
section
variable {P : Program} {w : World} {K : PySem.W.Frag} {mg : Str → Option Value} {base : Heap}
/-- every plain promise holds so, too -/
theorem FnG.of {k : Nat} {f : Addr} {fd : FuncData} {ps : List Str} {sp : Sp} (F : FnOk P w K mg base CX0 k f fd ps sp) : FnG P w K mg base k f fd ps sp :=
  ⟨F.len, fun A fr s H us xs Q E _ hr e0 hb r h => F.run A fr s H ⟨us, []⟩ us xs Q E hr e0 (hb s) r h⟩
theorem okG {x qual : Str} {st : Stmt} {f : Addr} {fd : FuncData} {N ps : List Str} {k : Nat} {sp : Sp} (F : Fun K x qual st f fd) (S : FnScope N ps (defScope st)) (wide : ∀ xs H Q E, sp xs H Q E → xs.length = ps.length)
    (body : ∀ (cdv : Value) (A : Around) (fr : List Env) (s : Shared) (H : Hp) (xs : List V) (Q : VK) (E : XK), A.guards = some [] → Room k (A.deeper (envOfC qual (defScope st) s.heap.objs.size f cdv)) → sp xs H Q E →
      ∃ t, PSs (cxOf CX0 P w K mg base N qual (defScope st) f cdv A fr s H E).nox (defBody st) t ∧ t { nx := fun _ H' => Q .non H', rt := Q } (start N xs) H) : FnG P w K mg base (k + 1) f fd ps sp := by
  obtain ⟨oc, od, kV, doc, pm, an, cdv, ct, osl, rfl, lk, hcd⟩ := F.ex
  refine ⟨wide, fun A fr s H us xs Q E hg hr e0 hb r hs => ?_⟩
  have old : ∀ b o, base.get? b = some o → s.heap.get? b = some o := fun b o e => (e0.bs b o e).1
  have inK : K.In s.heap := e0.mod.kin.keeps old
  have kinds : ∀ y ∈ ps.zip us, (defScope st).names.lookup y.1 = some .local ∨ ((defScope st).names.lookup y.1 = some .cell ∧ ((cellsFrom (s.heap.objs.size + 1) (defScope st).names []).lookup y.1).isSome = true) := by
    rintro ⟨n, v⟩ hy
    rcases S.par n (List.of_mem_zip hy).1 with q | q
    · exact Or.inl q
    · exact Or.inr ⟨q, PySem.W.cellsFrom_some _ _ _ (Or.inl q)⟩
  refine codeAny_call_function hr.depth (inK _ _ lk) rfl S.co S.gen rfl (PySem.W.codeRec_of inK hcd) (hb _ _ _ _ _ ?_)
  refine wpAny_newFunctionEnv_cells S.kind kinds fun env he s1 ic => ?_
  subst he
  refine ⟨(e0.mod.nolimit.keeps old).keeps ic.toInCall.keep, codeAny_func ?_⟩
  obtain ⟨t, ht, hq⟩ := body cdv A fr s H xs Q E hg (hr.deeper _) hs
  have I := inv_start (CX := CX0) (E := E) S hr.hd e0 (wide _ _ _ _ hs) r ic
  refine wpAny_mono (ht.nox.run [] s1 (start N xs) H _ I hq) (fun fl s' z => ?_) fun _ _ z => z
  cases fl with
  | ret u =>
    obtain ⟨v, σ', H', J, rv, q⟩ := z
    exact ⟨v, H', J.os, J.bare, J.base, J.hok, rv, q⟩
  | next =>
    obtain ⟨σ', H', J, q⟩ := z
    exact ⟨V.non, H', J.os, J.bare, J.base, J.hok, rfl, q⟩
  | brk =>
    obtain ⟨_, _, _, q⟩ := z
    exact q.elim
  | cont =>
    obtain ⟨_, _, _, q⟩ := z
    exact q.elim
end
section
variable {X : Cx} {k : Nat} {f : Addr} {fd : FuncData} {ps : List Str} {sp : Sp} {x : Str} {p pos : Pos} {e : Expr} {es : List Expr} {t : TA}
/-- f(e, ..) where no repr is under way -/
theorem pe_callG (F : FnG X.prog X.w X.K X.mg X.base k f fd ps sp) (hgd : X.A.guards = some []) (hr : Room k X.A) (hg : Gl X x) (hm : X.mg x = some (.ref f)) (hk : PySem.W.keepIn X.K (.ref f) = true) (hbs : BindG fd ps)
    (ha : PA X (e :: es) t) (hdb : (x == ("__debug__" : Str)) = false := by decide) (he : starEach (e :: es) X.env = (false, eval e X.env) :: starEach es X.env := by rfl) (hpl : (backTo pos (starEach es X.env)).any (·.1) = false := by rfl) :
    PE X (.Call (.Name x p) (e :: es) [] pos) (fun σ H Q => t σ H fun vs H1 => sp vs H1 Q E0) := by
  refine ⟨fun pins s σ H Q I h => wpAny_Call_Name_kw (ld_glob I hg hm ?_ hdb)⟩
  refine PySem.W.callWith_K (h₀ := X.base) I.ok.mod.kin hk (thn (ha.run pos pins s σ H _ I h) fun us s1 ⟨vs, H1, I1, r, q⟩ => ⟨I1.kIn, ?_⟩) he hpl
  have hl : us.length = ps.length := by rw [← r.length]; exact F.wide _ _ _ _ q
  refine wpAny_call (codeAny_mono (F.go X.A X.stack s1 H1 us vs Q E0 hgd hr I1.env0 (hbs us hl) r q) fun res s' hq => ?_)
  cases res with
  | error e => exact False.elim hq
  | ok fl =>
    cases fl with
    | ret u => exact I1.after hq
    | next => exact False.elim hq
    | brk => exact False.elim hq
    | cont => exact False.elim hq
end
section
variable {P : Program} {w : World} {K : PySem.W.Frag} {mg mb : Str → Option Value} {k : Nat} {fa a : Addr} {fd : FuncData} {x : Str} {sp : Sp} {s1 : Shared} {vs : List Value} {ns : List Int}
/-- the law's call: nothing but the script is tracked at its entry -/
theorem law_callG (KX : K.In s1.heap) (hns : s1.heap.Ns mainGlobals mg) (hb : s1.heap.Ns builtinsNs mb) (hbb : ∀ x : Str, x ≠ "__name__" → mb x = bootBuiltins x) (hlim : s1.heap.NoLimit) (hg : s1.gens = #[])
    (ha : s1.heap.get? a = some { cls := .type "list", data := .seq vs.toArray }) (hi : IntsAre vs ns) (hl : ns.length ≤ sizeLine) (hr : Room k callerA)
    (F : ∀ base : Heap, K.In base → base.Ns mainGlobals mg → FnG P w K mg base k fa fd [x] sp) (hbind : ∀ (s : Shared) (u : Value), BindsTo s fd ⟨[u], []⟩ [(x, u)])
    (hsp : ∀ H : Hp, Only H → SqL K H a (ns.map V.int) → sp [.ref a] H (fun v _ => v = .bl true) E0) :
    codeAny (model P w) callerA (.call (.ref fa) ⟨[.ref a], []⟩) (fun r s' => r = .ok (.ret (.bool true)) ∧ OldK s1.heap s'.heap ∧ s'.os = s1.os ∧ AllBare s'.gens) s1 := by
  have rv := vals_ints hi
  have hlen := hi.length
  have go : ∀ H : Hp, Only H → SqL K H a (ns.map V.int) → HOk P w H s1.heap → (∀ b, H b ≠ none → b = a ∧ K.lookup a = none) →
      codeAny (model P w) callerA (.call (.ref fa) ⟨[.ref a], []⟩) (fun r s' => r = .ok (.ret (.bool true)) ∧ OldK s1.heap s'.heap ∧ s'.os = s1.os ∧ AllBare s'.gens) s1 := by
    intro H only hS hok hA
    have free : ∀ {b : Addr} {o : Obj}, s1.heap.get? b = some o → (∀ z, o.data ≠ .seq vs.toArray z) → H b = none := by
      intro b o e d
      cases q : H b with
      | none => rfl
      | some u =>
        obtain ⟨rfl, _⟩ := hA b (by rw [q]; exact fun z => nomatch z)
        rw [ha] at e
        cases e
        exact (d _ rfl).elim
    have ns : ∀ {b : Addr} {m : Str → Option Value}, s1.heap.Ns b m → (hidT s1.heap H).Ns b m := by
      rintro b m ⟨o, es, ep, e, d, r⟩
      exact ⟨o, es, ep, hidT_get e (free e fun z q => by rw [d] at q; exact nomatch q), d, r⟩
    have inB : K.In (hidT s1.heap H) := by
      intro b o e
      refine hidT_get (KX b o e) ?_
      cases q : H b with
      | none => rfl
      | some u =>
        obtain ⟨rfl, n⟩ := hA b (by rw [q]; exact fun z => nomatch z)
        rw [n] at e
        exact nomatch e
    obtain ⟨mc, c1, c2⟩ := hlim
    have e0 : Env0 P w K mg (hidT s1.heap H) callerA [] s1 H :=
      ⟨rfl, ⟨inB, ns hns, ⟨mb, ns hb, hbb⟩, ⟨mc, ns c1, c2⟩⟩, fun b o e => of_hidT e, Nat.le_of_eq (hidT_size _ _), trivial, fun b z => absurd (show b ∈ ([] : List Addr) from z) List.not_mem_nil, hok, .of_eq hg⟩
    refine codeAny_mono ((F _ inB (ns hns)).go callerA [] s1 H [.ref a] [.ref a] _ _ rfl hr e0 (fun t => hbind t (.ref a)) (.cons rfl .nil) (hsp H only hS)) fun r s' h => ?_
    cases r with
    | error e => exact False.elim h
    | ok fl =>
      cases fl with
      | next => exact False.elim h
      | brk => exact False.elim h
      | cont => exact False.elim h
      | ret u =>
        obtain ⟨v, H', os, bare, un, hok', rr, q⟩ := h
        obtain rfl : v = .bl true := q
        obtain rfl : u = Value.bool true := rr
        refine ⟨rfl, OldK.of_keep fun b o e => ?_, os, bare⟩
        rcases only b with z | ⟨ob, xs, z⟩
        · exact un.keep b o e z (fun z => absurd (show b ∈ ([] : List Addr) from z) List.not_mem_nil) List.not_mem_nil
        · obtain ⟨e1, _⟩ := hok b _ z
          obtain ⟨e2, _⟩ := hok' b _ (un.frzs b ob _ z)
          rw [e] at e1
          cases e1
          exact e2
  cases hk : K.lookup a with
  | some o =>
    have e := KX a o hk
    rw [ha] at e
    cases e
    exact go (fun _ => none) (fun _ => Or.inl rfl) (.inr ⟨_, vs.toArray, _, hk, rfl, rfl, rfl, by rw [List.size_toArray, hlen]; exact hl, by simpa using rv⟩) (fun b u z => nomatch z) fun b z => absurd rfl z
  | none =>
    refine go (fun b => if b = a then some (.frz { cls := .type "list", data := .seq vs.toArray } (.lst (ns.map V.int))) else none) (fun b => ?_) (.inl (.inr ⟨_, if_pos rfl⟩)) (fun b u z => ?_) fun b z => ?_
    · by_cases hb : b = a
      · exact Or.inr ⟨_, _, if_pos hb⟩
      · exact Or.inl (if_neg hb)
    · by_cases hb : b = a
      · subst hb
        simp only [if_true] at z
        cases z
        exact ⟨ha, by rw [List.length_map]; exact hl, vs, _, rv, ha⟩
      · simp only [if_neg hb] at z
        cases z
    · by_cases hb : b = a
      · exact ⟨hb, hk⟩
      · exact absurd (if_neg hb) z
end
theorem walk_G {l : PySem.W.OpenLaw} {n k : Nat} {q : Program} {loose : List Str} {XP : (Str → Option Value) → Heap → Prop} {YP : World → Heap → Prop} {d : DefRec} {K : Params → PySem.W.Frag} {sp : PySem.W.Frag → Sp} {x : Str}
    (hn : l.most = some n) (hn2 : n ≤ sizeLine) (hdf : d.params.defaults = []) (hr : Room k callerA) (hY : ∀ (w : World) (h : Heap), YP w h → (K w.params).In h)
    (F : ∀ (w : World) (mg : Str → Option Value) (fa : Addr) (h : Heap), (K w.params).In h → h.Ns mainGlobals mg → mg d.name = some (.ref fa) →
      ∃ fd : FuncData, (∀ (s : Shared) (u : Value), BindsTo s fd ⟨[u], []⟩ [(x, u)]) ∧ ∀ base : Heap, (K w.params).In base → base.Ns mainGlobals mg → FnG l.prog w (K w.params) mg base k fa fd [x] (sp (K w.params)))
    (hsp : ∀ (K : PySem.W.Frag) (H : Hp) (a : Addr) (ns : List Int), ns.length ≤ n → Only H → SqL K H a (ns.map V.int) → sp K [.ref a] H (fun v _ => v = .bl true) E0) :
    PySem.W.WalkO q loose XP YP l.row.toRowW d [] (fun f vs => PySem.call f vs) := by
  refine Att.attach_call hn hdf fun w s₀ s1 mg mb fa o pm cd doc a vs ns G Y ho hd hcd hmg hobj hints hlen hg => ?_
  obtain ⟨fd, hb, hF⟩ := F w mg fa _ (hY w _ Y) G.T.g hmg
  exact law_callG (hY w _ Y) G.T.g G.T.b G.T.builtins G.T.nolimit hg hobj hints (Nat.le_trans hlen hn2) hr hF hb fun H hO hS => hsp (K w.params) H a ns hlen hO hS
end Fv


set_option Elab.async false
set_option linter.all false
set_option maxRecDepth 100000
set_option maxHeartbeats 1000000
namespace Fv
open PySem PySem.Spec PyProof.Rows L2
/-! ### data at a value: own lists stand away from the bag (b) -/
mutual
inductive Dq (H : Hp) (b : Addr) : V → PyData → Prop
  | non : Dq H b .non .none
  | bl (x : Bool) : Dq H b (.bl x) (.bool x)
  | int (i : Int) : Dq H b (.int i) (.int i)
  | str (x : Str) : Dq H b (.str x) (.str x)
  | lst {a : Addr} {xs : List V} {ds : List PyData} : H a = some (.lst xs) → a ≠ b → a ≠ sysModules → DqAll H b xs ds → Dq H b (.ref a) (.list ds)
  | tup {a : Addr} {xs : List V} {ds : List PyData} : H a = some (.tup xs) → a ≠ b → DqAll H b xs ds → Dq H b (.ref a) (.tuple ds)
  | dct {a : Addr} {kvs : List (Key × V)} {ps : List (PyData × PyData)} : H a = some (.dK kvs) → a ≠ b → DqAll H b (kvs.map fun p => kV p.1) (ps.map (·.1)) → DqAll H b (kvs.map (·.2)) (ps.map (·.2)) → Dq H b (.ref a) (.dict ps)
inductive DqAll (H : Hp) (b : Addr) : List V → List PyData → Prop
  | nil : DqAll H b [] []
  | cons {v : V} {vs : List V} {d : PyData} {ds : List PyData} : Dq H b v d → DqAll H b vs ds → DqAll H b (v :: vs) (d :: ds)
end
mutual
theorem Dq.mono {H H' : Hp} {b : Addr} (k : ∀ a o, a ≠ b → H a = some o → H' a = some o) : ∀ {v : V} {d : PyData}, Dq H b v d → Dq H' b v d
  | _, _, .non => .non
  | _, _, .bl x => .bl x
  | _, _, .int i => .int i
  | _, _, .str x => .str x
  | _, _, .lst e n m h => .lst (k _ _ n e) n m (DqAll.mono k h)
  | _, _, .tup e n h => .tup (k _ _ n e) n (DqAll.mono k h)
  | _, _, .dct e n h h' => .dct (k _ _ n e) n (DqAll.mono k h) (DqAll.mono k h')
theorem DqAll.mono {H H' : Hp} {b : Addr} (k : ∀ a o, a ≠ b → H a = some o → H' a = some o) : ∀ {v : List V} {d : List PyData}, DqAll H b v d → DqAll H' b v d
  | _, _, .nil => .nil
  | _, _, .cons h t => .cons (Dq.mono k h) (DqAll.mono k t)
end
theorem kV_rel {k : Key} {v : Value} (h : keyIs k v = true) : RelV (kV k) v := by
  rcases keyIs_shape h with ⟨i, t, rfl, rfl⟩ | ⟨x, t, rfl, rfl⟩
  · exact ⟨t, rfl⟩
  · exact ⟨t, rfl⟩
theorem pairs_keys {P : Program} {w : World} : ∀ {kvs : List (Key × V)} {vs : List (Key × Value)} {es : List DictEntry}, KV kvs vs → Pairs (mixKind P w) es vs → Vals (kvs.map fun p => kV p.1) (es.map (·.key))
  | _, _, _, .nil, .nil => .nil
  | _, _, _, .cons r t, .cons h _ q => .cons (by
    have e := r.1
    show RelV (kV _) _
    rw [e]
    exact kV_rel h) (pairs_keys t q)
theorem pairs_vals {P : Program} {w : World} : ∀ {kvs : List (Key × V)} {vs : List (Key × Value)} {es : List DictEntry}, KV kvs vs → Pairs (mixKind P w) es vs → Vals (kvs.map (·.2)) (es.map (·.val))
  | _, _, _, .nil, .nil => .nil
  | _, _, _, .cons r t, .cons _ h q => .cons (by
    show RelV _ (DictEntry.val _)
    rw [h]
    exact r.2) (pairs_vals t q)
section
variable {X : Cx} {pins : List (Addr × Obj)} {σ : L2.St} {H : Hp} {s : Shared} {b : Addr}
mutual
theorem Dq.reads (I : Inv X pins σ H s) : ∀ {v : V} {d : PyData} {u : Value}, Dq H b v d → RelV v u → ∃ as, Reads s.heap u d as ∧ sysModules ∉ as
  | _, _, _, .non, r => by
    cases r
    exact ⟨_, .none, List.not_mem_nil⟩
  | _, _, _, .bl x, r => by
    cases r
    exact ⟨_, .bool x, List.not_mem_nil⟩
  | _, _, _, .int i, r => by
    obtain ⟨t, rfl⟩ := r
    exact ⟨_, .int i t, List.not_mem_nil⟩
  | _, _, _, .str x, r => by
    obtain ⟨t, rfl⟩ := r
    exact ⟨_, .str x t, List.not_mem_nil⟩
  | _, _, _, .lst (a := a) e _ m h, r => by
    cases r
    obtain ⟨_, its, n, rv, he⟩ := (show ObjOk X.prog X.w H s.heap a (.lst _) from I.hok a _ e)
    obtain ⟨as, q, z⟩ := DqAll.reads I h rv
    exact ⟨_, .list he rfl rfl (by simpa using q), fun y => (List.mem_cons.mp y).elim (fun w => m w.symm) z⟩
  | _, _, _, .tup (a := a) e _ h, r => by
    cases r
    obtain ⟨_, its, rv, o, he, hc, n, hd⟩ := (show ObjOk X.prog X.w H s.heap a (.tup _) from I.hok a _ e)
    obtain ⟨as, q, z⟩ := DqAll.reads I h rv
    exact ⟨_, .tuple he hc hd (by simpa using q), z⟩
  | _, _, _, .dct (a := a) e _ h h', r => by
    cases r
    obtain ⟨_, m, vs, rel, o, es, ep, he, hx, hd, _, hp, _⟩ := (show ObjOk X.prog X.w H s.heap a (.dK _) from I.hok a _ e)
    have k1 : Vals (_ : List V) (es.toList.map (·.key)) := pairs_keys rel hp
    have k2 : Vals (_ : List V) (es.toList.map (·.val)) := pairs_vals rel hp
    obtain ⟨as, q, z⟩ := DqAll.reads I h k1
    obtain ⟨bs, q', z'⟩ := DqAll.reads I h' k2
    exact ⟨_, .dict he hx.1 hd q q', fun y => by
      rcases List.mem_append.mp y with y | y
      · rcases List.mem_cons.mp y with w | w
        · rw [← w] at m
          simp at m
        · exact z w
      · exact z' y⟩
theorem DqAll.reads (I : Inv X pins σ H s) : ∀ {v : List V} {d : List PyData} {u : List Value}, DqAll H b v d → Vals v u → ∃ as, ReadsAll s.heap u d as ∧ sysModules ∉ as
  | _, _, _, .nil, r => by
    cases r
    exact ⟨_, .nil, List.not_mem_nil⟩
  | _, _, _, .cons h t, r => by
    cases r with
    | cons r1 r2 =>
      obtain ⟨as, q, z⟩ := Dq.reads I h r1
      obtain ⟨bs, q', z'⟩ := DqAll.reads I t r2
      exact ⟨_, .cons q q', fun y => (List.mem_append.mp y).elim z z'⟩
end
end
/-! ### rules -/
/-- repr of data -/
def rRepr : List V → Hp → VK → Prop := fun xs H Q => ∃ (b : Addr) (v : V) (d : PyData), xs = [v] ∧ Dq H b v d ∧ d.showable = true ∧ d.shown.length ≤ sizeLine ∧ d.depth ≤ 20 ∧ Q (.str d.shown) H
section
variable {X : Cx}
theorem call_reprD (hg : X.A.guards = some []) (hu : X.A.units + 64 < cLine) : CallR X (.builtin "repr") rRepr := by
  intro pins s σ H xs us Q I r h
  obtain ⟨b, v, d, rfl, hd, hs, hz, hdp, q⟩ := h
  cases r with
  | cons r rr =>
    cases rr
    rename_i u
    obtain ⟨as, rd, ns⟩ := Dq.reads I hd r
    cases rd with
    | none => exact PySem.P.repr_of_none ⟨.str _, H, I.tok _, ⟨_, rfl⟩, q⟩
    | bool x => exact PySem.P.repr_of_bool ⟨.str _, H, I.tok _, ⟨_, rfl⟩, q⟩
    | int i t => exact PySem.P.repr_of_int (by simpa [PyData.showable] using hs) ⟨.str _, H, I.tok _, ⟨_, rfl⟩, q⟩
    | str x t => exact PySem.P.repr_of_str ⟨.str _, H, I.tok _, ⟨_, rfl⟩, q⟩ (by simpa only [PyData.shown] using hz)
    | list a1 a2 a3 a4 => exact repr_of_reads' (.list a1 a2 a3 a4) hs (fun _ => ns) hg (by omega) (fun _ _ e => e) (fun h' u tk k => ⟨.str _, H, I.kept (h' := h') (t' := tk) k, ⟨_, rfl⟩, q⟩) hz
    | tuple a1 a2 a3 a4 => exact repr_of_reads' (.tuple a1 a2 a3 a4) hs (fun _ => ns) hg (by omega) (fun _ _ e => e) (fun h' u tk k => ⟨.str _, H, I.kept (h' := h') (t' := tk) k, ⟨_, rfl⟩, q⟩) hz
    | dict a1 a2 a3 a4 a5 => exact repr_of_reads' (.dict a1 a2 a3 a4 a5) hs (fun _ => ns) hg (by omega) (fun _ _ e => e) (fun h' u tk k => ⟨.str _, H, I.kept (h' := h') (t' := tk) k, ⟨_, rfl⟩, q⟩) hz
/-- xs[j] at a written or reckoned place, for op= -/
def rGetL (K : PySem.W.Frag) : V → V → Hp → VK → Prop := fun x y H Q => ∃ (p : Addr) (xs : List V) (j : Nat) (v : V), x = .ref p ∧ y = .int j ∧ SqL K H p xs ∧ xs[j]? = some v ∧ Q v H
theorem pget_list : PGet X (rGetL X.K) := by
  intro pins s σ H o i ov iv Q I ro ri h
  obtain ⟨p, xs, j, v, rfl, rfl, hq, he, q⟩ := h
  cases ro
  obtain ⟨t, rfl⟩ := ri
  obtain ⟨its, r, pl, hz⟩ := I.list hq
  obtain ⟨w, ew, rw'⟩ := r.get he
  have h1 : j < xs.length := (List.getElem?_eq_some_iff.mp he).1
  have h2 : sizeLine < 2 ^ 63 := by decide
  exact wpAny_getItem_list pl.isList (by omega) (by omega) (by simpa using ew) ⟨v, H, I, rw', q⟩
/-- '0' * n -/
def zeros (n : Nat) : Str := ⟨(List.replicate n #[48]).foldl (· ++ ·) #[]⟩
def rZeros : R2 := fun x y H Q => ∃ n : Nat, x = .str "0" ∧ y = .int n ∧ n < 64 ∧ Q (.str (zeros n)) H
theorem zeros_len : ∀ n : Nat, n < 64 → (zeros n).length = n := by decide +kernel
theorem op_zeros : OpR X (binaryOp .Mult) rZeros := by
  intro pins s σ H x y v u Q I rx ry h
  obtain ⟨n, rfl, rfl, hn, q⟩ := h
  obtain ⟨t, rfl⟩ := rx
  obtain ⟨t', rfl⟩ := ry
  have fin : EP X pins σ Q (.str (zeros n) s.toks) { s with toks := s.toks + 1 } := ⟨.str _, H, I.tok _, ⟨_, rfl⟩, q⟩
  refine PySem.P.mul_str (by rw [decide_eq_false (by omega), decide_eq_false (by omega)]; rfl) (fun _ _ => ?_) (fun _ _ => ?_) ?_
  · have : ("0" : Str).length = 1 := by decide +kernel
    rw [this]
    have h3 : (1 : Int) ≤ (2 ^ 63 - 1) / (n : Int) := by
      rename_i a b
      exact Int.le_ediv_of_mul_le (by omega) (by omega)
    omega
  · have : ("0" : Str).length = 1 := by decide +kernel
    rw [this]
    have hz := (by decide : 64 < sizeLine)
    simp only [Nat.one_mul, Int.toNat_natCast]
    unfold Builtin.Str.tooLong
    exact decide_eq_false (by omega)
  · by_cases h0 : n = 0
    · subst h0
      exact ⟨by decide, fin⟩
    · rw [if_neg (by omega)]
      by_cases h1 : n = 1
      · subst h1
        exact ⟨.str _, H, I, ⟨t, rfl⟩, q⟩
      · rw [if_neg (by
          have : ((n : Int) == 1) = false := by simpa using (by omega : ¬ ((n : Int) = 1))
          rw [this]
          decide)]
        exact ⟨by show (zeros n).length ≤ _; rw [zeros_len n hn]; have hz := (by decide : 64 < sizeLine); omega, fin⟩
end
/-! ### types of data -/
def tyN : PyData → String
  | .none => "NoneType"
  | .bool _ => "bool"
  | .int _ => "int"
  | .str _ => "str"
  | .list _ => "list"
  | .tuple _ => "tuple"
  | .dict _ => "dict"
theorem Dq.ty {K : PySem.W.Frag} {H : Hp} {b : Addr} {v : V} {d : PyData} (h : Dq H b v d) : TyX K H v (.type (tyN d)) := by
  cases h with
  | non => exact .base .non
  | bl x => exact .base (.bl x)
  | int i => exact .base (.int i)
  | str x => exact .base (.str x)
  | lst e _ _ _ => exact .base (.lst e)
  | tup e _ _ => exact .base (.tup e)
  | dct e _ _ _ => exact .base (.dK e)
def isStrD : PyData → Bool
  | .str _ => true
  | _ => false
def isBoolD : PyData → Bool
  | .bool _ => true
  | _ => false
def isIntD : PyData → Bool
  | .int _ => true
  | .bool _ => true
  | _ => false
theorem kit_str {K : PySem.W.Frag} (d : PyData) : PySem.W.kitOne K (.type (tyN d)) (.type "str") = some (isStrD d) := by
  cases d
  · exact kit_ty (a := "NoneType") (b := "str") (r := false) (by decide +kernel)
  · exact kit_ty (a := "bool") (b := "str") (r := false) (by decide +kernel)
  · exact kit_ty (a := "int") (b := "str") (r := false) (by decide +kernel)
  · exact kit_ty (a := "str") (b := "str") (r := true) (by decide +kernel)
  · exact kit_ty (a := "list") (b := "str") (r := false) (by decide +kernel)
  · exact kit_ty (a := "tuple") (b := "str") (r := false) (by decide +kernel)
  · exact kit_ty (a := "dict") (b := "str") (r := false) (by decide +kernel)
theorem kit_bool {K : PySem.W.Frag} (d : PyData) : PySem.W.kitOne K (.type (tyN d)) (.type "bool") = some (isBoolD d) := by
  cases d
  · exact kit_ty (a := "NoneType") (b := "bool") (r := false) (by decide +kernel)
  · exact kit_ty (a := "bool") (b := "bool") (r := true) (by decide +kernel)
  · exact kit_ty (a := "int") (b := "bool") (r := false) (by decide +kernel)
  · exact kit_ty (a := "str") (b := "bool") (r := false) (by decide +kernel)
  · exact kit_ty (a := "list") (b := "bool") (r := false) (by decide +kernel)
  · exact kit_ty (a := "tuple") (b := "bool") (r := false) (by decide +kernel)
  · exact kit_ty (a := "dict") (b := "bool") (r := false) (by decide +kernel)
theorem kit_int {K : PySem.W.Frag} (d : PyData) : PySem.W.kitOne K (.type (tyN d)) (.type "int") = some (isIntD d) := by
  cases d
  · exact kit_ty (a := "NoneType") (b := "int") (r := false) (by decide +kernel)
  · exact kit_ty (a := "bool") (b := "int") (r := true) (by decide +kernel)
  · exact kit_ty (a := "int") (b := "int") (r := true) (by decide +kernel)
  · exact kit_ty (a := "str") (b := "int") (r := false) (by decide +kernel)
  · exact kit_ty (a := "list") (b := "int") (r := false) (by decide +kernel)
  · exact kit_ty (a := "tuple") (b := "int") (r := false) (by decide +kernel)
  · exact kit_ty (a := "dict") (b := "int") (r := false) (by decide +kernel)
end Fv


set_option Elab.async false
set_option linter.all false
set_option maxRecDepth 100000
set_option maxHeartbeats 1000000
namespace Fv
open PySem PySem.Spec PyProof.Rows L2
section
variable {X : Cx} {es : List Expr} {t : TA} {pos : Pos}
/-- a written list; its place is none of the first ones -/
def tLstB (t : TA) : TE := fun σ H Q => t σ H fun xs H1 => xs.length ≤ sizeLine ∧ ∀ p, H1 p = none → p ≠ sysModules → Q (.ref p) (upd H1 p (.lst xs))
theorem pe_lstB (h : PA X es t) : PE X (.List es pos) (tLstB t) := by
  refine ⟨fun pins s σ H Q I hq => wpAny_List_spliced (thn (h.run pos pins s σ H _ I hq) fun us s1 e => ?_)⟩
  obtain ⟨xs, H1, I1, r, z, q⟩ := e
  have z' : us.length ≤ sizeLine := by rw [← r.length]; exact z
  have J : Inv X pins σ (upd H1 s1.heap.objs.size (.lst xs)) { s1 with heap := s1.heap.push { cls := .type "list", data := .seq us.toArray } } :=
    I1.laid (t' := s1.toks) (fun _ _ e => Heap.get?_push_of_some _ e) (Nat.le_refl _) ⟨z, us, 0, r, Heap.get?_push_size _ rfl⟩
  exact ⟨z', .ref _, _, J, rfl, q _ (I1.hok.fresh (Nat.le_refl _)) (Nat.ne_of_gt I1.big)⟩
end
theorem DqAll.get {H : Hp} {b : Addr} : ∀ {vs : List V} {ds : List PyData} {j : Nat} {v : V}, DqAll H b vs ds → vs[j]? = some v → ∃ d, d ∈ ds ∧ Dq H b v d
  | _, _, _, _, .nil, e => by simp at e
  | _, _, 0, _, .cons h _, e => by
    simp at e
    subst e
    exact ⟨_, List.mem_cons_self, h⟩
  | _, _, j + 1, _, .cons _ t, e => by
    obtain ⟨d, m, h⟩ := DqAll.get t (j := j) (by simpa using e)
    exact ⟨d, List.mem_cons_of_mem _ m, h⟩
/-! ### what is fine to be shown -/
structure Fine (d : PyData) : Prop where
  show_ : d.showable = true
  len : d.shown.length ≤ 20000
  deep : d.depth ≤ 3
def okS (z : Str) : Prop := z.length ≤ 1000 ∧ ∀ c ∈ z.cps.toList, c < 128
theorem okS.repr {z : Str} (h : okS z) : (reprText z).length ≤ 10010 := by
  have := StrLaws.reprText_len z fun c hc => Nat.lt_of_lt_of_le (h.2 c hc) (by decide)
  have := h.1
  omega
theorem Fine.str {z : Str} (h : okS z) : Fine (.str z) := ⟨by simp [PyData.showable], by simp only [PyData.shown]; have := h.repr; omega, by simp [PyData.depth]⟩
theorem Fine.one_tup {z : Str} (h : okS z) : Fine (.tuple [.str z]) := by
  refine ⟨by simp [PyData.showable, PyData.showableAll], ?_, by simp [PyData.depth, PyData.depthAll]⟩
  have e : (PyData.tuple [.str z]).shown = tupleText [reprText z] := by simp [PyData.shown, PyData.shownAll]
  rw [e]
  have hr := h.repr
  have e2 : ∀ x : Str, (tupleText [x]).length = 1 + x.length + 2 := fun x => by
    unfold tupleText
    rw [strLen_append, strLen_append]
    rfl
  rw [e2]
  omega
theorem Fine.one_lst {z : Str} (h : okS z) : Fine (.list [.str z]) := by
  refine ⟨by simp [PyData.showable, PyData.showableAll], ?_, by simp [PyData.depth, PyData.depthAll]⟩
  have e : (PyData.list [.str z]).shown = listText [reprText z] := by simp [PyData.shown, PyData.shownAll]
  rw [e]
  have hr := h.repr
  have e2 : ∀ x : Str, (listText [x]).length = 1 + x.length + 1 := fun x => by
    unfold listText
    rw [strLen_append]
    have e3 : textFrom 0 "[" [x] = ("[" : Str) ++ x := rfl
    rw [e3, strLen_append]
    rfl
  rw [e2]
  omega
theorem Fine.one_dct {z : Str} (h : okS z) : Fine (.dict [(.str z, .int 1)]) := by
  refine ⟨by simp only [PyData.showable, PyData.showableKv]; decide, ?_, by simp [PyData.depth, PyData.depthKv]⟩
  have e : (PyData.dict [(.str z, .int 1)]).shown = dictText [reprText z ++ ": " ++ (toString (1 : Int) : String)] := by simp [PyData.shown, PyData.shownKv]
  rw [e]
  have hr := h.repr
  have e2 : ∀ x : Str, (dictText [x]).length = 1 + x.length + 1 := fun x => by
    unfold dictText
    rw [strLen_append, strLen_append]
    rfl
  have e3 : ((toString (1 : Int) : String) : Str).length = 1 := by decide +kernel
  have e4 : ((": " : String) : Str).length = 2 := by decide +kernel
  rw [e2, strLen_append, strLen_append, e3, e4]
  omega
end Fv


set_option Elab.async false
set_option linter.all false
set_option maxRecDepth 100000
set_option maxHeartbeats 1000000
/-! own errors: what a caught one is an instance of, its fields; defs that are called with it in an except suite -/
namespace Fv
open PySem PySem.Spec PyProof.Rows L2
section
open PySem.W PySem.Calls
variable {prog : Program} {w : World} {A : Around} {E : Value → Shared → Prop} {s : Shared} {K : Frag} {x D : Addr} {ox : Obj} {od : Option Obj}
theorem bound_data {a g : Value} {name : Str} (c : (clsIn K D).isSome = true) (fa : findIn K (.ref D) name = some (some a)) (fg : specialIn K a "__get__" = some (some g)) (ft : takesIn K a = some true) : findObj K D od name = some (.bind g a) := by
  obtain ⟨cd, c⟩ := Option.isSome_iff_exists.mp c
  unfold findObj
  rw [c, Option.bind_some, fa, Option.bind_some]
  simp [fg, ft]
theorem class_of_exc {Q : Option Value → Shared → Prop} (T : ExcC K D) (X : K.In s.heap) (I : InstAt s.heap x ox D od) (h : Q (some (.ref D)) { s with toks := s.toks + 1 }) : wpAny (model prog w) A (getAttr? (.ref x) "__class__") Q E s := by
  have fo : findObj K D od "__class__" = some (.bind (.builtin "getset_descriptor.__get__") (.builtin "object.__class__")) :=
    bound_data (by obtain ⟨cd, e, _⟩ := any_some T.hd; rw [e]; rfl) T.ha T.hn T.ht
  obtain ⟨hp, g, d, t, os⟩ := s
  have M0 := I.type (M := model prog w)
  have M1 := looks_findIn (M := model prog w) X T.hg
  have M2 := looks_findIn (M := model prog w) X T.hk
  have M3 := looks_find (M := model prog w) X I fo
  have sb : Looks (model prog w) hp (isInstance (.ref x) (.type "BaseException")) true := M0.andThen (looks_subIn X T.hs)
  have n2 : (Value.builtin "BaseException.__getattribute__" == Value.builtin "object.__getattribute__") = false := by decide +kernel
  have n1 : (onTheHeap (Value.ref D) && Value.builtin "BaseException.__getattribute__" == Value.builtin "object.__getattribute__") = false := by rw [n2]; rfl
  have n0 : (false && onTheHeap (Value.builtin "BaseException.__getattribute__")) = false := rfl
  unfold getAttr? getAttrBy? getAttrBy
  refine wpAny_bind (wpAny_mkText (wpAny_bind (wpAny_attempt (wpAny_holding (wpAny_bind (M0.at (wpAny_bind (M1.at ?_))))))))
  show wpAny _ _ (ite ((onTheHeap (Value.ref D) && Value.builtin "BaseException.__getattribute__" == Value.builtin "object.__getattribute__") = true) _ _) _ _ _
  rw [n1, if_neg Bool.false_ne_true]
  unfold getAttrByItsOwn hookBefore
  refine wpAny_bind ?_
  have on : onTheHeap (Value.ref D) = true := rfl
  rw [if_pos on]
  refine M2.at (wpAny_bind (wpAny_attempt (wpAny_holding ?_)))
  unfold callGetattribute
  rw [n0, if_neg Bool.false_ne_true]
  unfold boundAndCalled
  rw [PySem.F.excAttr_ValueError.ga.bind (.ref x)]
  refine wpAny_bind (wpAny_pure ?_)
  show wpAny _ _ (call (.builtin "BaseException.__getattribute__") [.ref x, .str "__class__" t]) _ _ _
  refine wpAny_call (codeAny_call_builtin PySem.F.excAttr_ValueError.ga.plain PySem.F.entry_bexc_ga (@check_slot (model prog w) _ _ ⟨hp, g, d, t + 1, os⟩ "BaseException.__getattribute__" "BaseException" "__getattribute__" (.ref x) [.str "__class__" t] [] _ (by decide +kernel) (by decide +kernel) sb (PySem.F.args_bexc_ga (.ref x) (.str "__class__" t)) ?_))
  unfold Builtin.«object.__getattribute__»
  refine wpAny_bind (wpAny_of_eq (a := ((Value.ref x : Value), [Value.str "__class__" t])) (by first | rfl | (simp only [slotArgs]; rfl)) (wpAny_bind (wpAny_pure (wpAny_bind (M0.at (wpAny_bind (M3.at ?_)))))))
  show wpAny _ _ (holding [Value.builtin "object.__class__"] (call (.builtin "getset_descriptor.__get__") [.builtin "object.__class__", .ref x, .ref D]) >>= ret) _ _ _
  refine wpAny_bind (wpAny_holding (wpAny_call (class_get (s := ⟨hp, g, d, t + 1, os⟩) (ox := ox) (od := od) X I T.hm (wpAny_pure ?_))))
  show wpAny _ _ (handedOut (.ref D)) _ _ _
  rw [handedOut_of (v := .ref D) rfl]
  first
    | exact wpAny_pure (wpAny_pure h)
    | exact wpAny_pure h
    | exact wpAny_pure (wpAny_bind (wpAny_pure (wpAny_pure h)))
theorem kit_exc (T : ExcC K D) : KitX K (.ref x) (.ref D) (fun h => ∃ od, InstAt h x ox D od) where
  ty := fun _ _ _ I => I.elim fun _ I => I.type
  it := fun _ _ X _ => by
    obtain ⟨cd, e, _⟩ := any_some T.hd
    unfold clsIn at e
    split at e
    · rename_i ho
      intro A' Q' E' s' k q
      unfold isType loadHead
      exact wpAny_bind (wpAny_loadPart (k _ _ (X _ _ ho)) (wpAny_pure q))
    · cases e
  ne := fun h tp dd its n sl X htp => by
    obtain ⟨cd, e, _⟩ := any_some T.hd
    refine Bool.eq_false_iff.mpr fun q => ?_
    have eq : D = tp := Value.ref.inj (beq_iff_eq.mp q)
    subst eq
    unfold clsIn at e
    split at e
    · rename_i ho
      have z := (X _ _ ho).symm.trans htp
      cases z
    · cases e
  ca := fun X I k => I.elim fun _ I => class_of_exc T X I k
end
end Fv
namespace Fv
open PySem PySem.Spec PyProof.Rows L2
/-- called while an exception, p, is handled: it stands in the state, out of what is tracked -/
structure FnP (P : Program) (w : World) (K : PySem.W.Frag) (mg : Str → Option Value) (base : Heap) (k : Nat) (f : Addr) (fd : FuncData) (ps : List Str) (sp : Addr → Value → Option Addr → Sp) : Prop where
  wide : ∀ a c d xs H Q E, sp a c d xs H Q E → xs.length = ps.length
  go : ∀ (A : Around) (fr : List Env) (s : Shared) (H : Hp) (us : List Value) (xs : List V) (Q : VK) (E : XK) (p : Addr × Obj), L2H.RoomH k A → L2H.PinOk fr H s p → (∃ vs, p.2.data = .fields vs) → Env0 P w K mg base A fr s H →
    (∀ t : Shared, BindsTo t fd ⟨us, []⟩ (ps.zip us)) → Vals xs us → sp p.1 p.2.cls p.2.dict xs H Q E → codeAny (model P w) A (.call (.ref f) ⟨us, []⟩) (CR CX0 fr P w H s Q E) s
section
variable {P : Program} {w : World} {K : PySem.W.Frag} {mg : Str → Option Value} {base : Heap}
theorem okP {x qual : Str} {st : Stmt} {f : Addr} {fd : FuncData} {N ps : List Str} {k : Nat} {sp : Addr → Value → Option Addr → Sp} (F : Fun K x qual st f fd) (S : FnScope N ps (defScope st)) (wide : ∀ a c d xs H Q E, sp a c d xs H Q E → xs.length = ps.length)
    (body : ∀ (cdv : Value) (A : Around) (fr : List Env) (s : Shared) (H : Hp) (xs : List V) (Q : VK) (E : XK) (p : Addr × Obj), L2H.RoomH k (A.deeper (envOfC qual (defScope st) s.heap.objs.size f cdv)) → (∃ vs, p.2.data = .fields vs) → sp p.1 p.2.cls p.2.dict xs H Q E →
      ∃ t, PSs (L2H.cxH CX0 P w K mg base N qual (defScope st) f cdv A fr s H E p).nox (defBody st) t ∧ t { nx := fun _ H' => Q .non H', rt := Q } (start N xs) H) : FnP P w K mg base (k + 1) f fd ps sp := by
  obtain ⟨oc, od, kV, doc, pm, an, cdv, ct, osl, rfl, lk, hcd⟩ := F.ex
  refine ⟨wide, fun A fr s H us xs Q E p hr pin hf e0 hb r hs => ?_⟩
  have old : ∀ b o, base.get? b = some o → s.heap.get? b = some o := fun b o e => (e0.bs b o e).1
  have inK : K.In s.heap := e0.mod.kin.keeps old
  have kinds : ∀ y ∈ ps.zip us, (defScope st).names.lookup y.1 = some .local ∨ ((defScope st).names.lookup y.1 = some .cell ∧ ((cellsFrom (s.heap.objs.size + 1) (defScope st).names []).lookup y.1).isSome = true) := by
    rintro ⟨n, v⟩ hy
    rcases S.par n (List.of_mem_zip hy).1 with q | q
    · exact Or.inl q
    · exact Or.inr ⟨q, PySem.W.cellsFrom_some _ _ _ (Or.inl q)⟩
  refine codeAny_call_function hr.depth (inK _ _ lk) rfl S.co S.gen rfl (PySem.W.codeRec_of inK hcd) (hb _ _ _ _ _ ?_)
  refine wpAny_newFunctionEnv_cells S.kind kinds fun env he s1 ic => ?_
  subst he
  refine ⟨(e0.mod.nolimit.keeps old).keeps ic.toInCall.keep, codeAny_func ?_⟩
  obtain ⟨t, ht, hq⟩ := body cdv A fr s H xs Q E p (hr.deeper _) hf hs
  have I := L2H.inv_startH (CX := CX0) (E := E) S pin e0 (wide _ _ _ _ _ _ _ hs) r ic
  refine wpAny_mono (ht.nox.run [] s1 (start N xs) H _ I hq) (fun fl s' z => ?_) fun _ _ z => z
  cases fl with
  | ret u =>
    obtain ⟨v, σ', H', J, rv, q⟩ := z
    exact ⟨v, H', J.os, J.bare, J.base, J.hok, rv, q⟩
  | next =>
    obtain ⟨σ', H', J, q⟩ := z
    exact ⟨V.non, H', J.os, J.bare, J.base, J.hok, rfl, q⟩
  | brk =>
    obtain ⟨_, _, _, q⟩ := z
    exact q.elim
  | cont =>
    obtain ⟨_, _, _, q⟩ := z
    exact q.elim
end
section
variable {X : Cx} {k : Nat} {f : Addr} {fd : FuncData} {ps : List Str} {sp : Addr → Value → Option Addr → Sp} {x : Str} {q0 pos : Pos} {e : Expr} {es : List Expr} {t : TA} {a0 : Addr} {oe0 : Obj} {cls0 : Value} {d0 : Option Addr}
theorem pe_callP (F : FnP X.prog X.w X.K X.mg X.base k f fd ps sp) (hr : L2H.RoomH k X.A) (hp : (a0, oe0) ∈ X.pn) (hz : Zc cls0 d0 oe0) (hf : ∃ vs, oe0.data = .fields vs) (hg : Gl X x) (hm : X.mg x = some (.ref f)) (hk : PySem.W.keepIn X.K (.ref f) = true) (hbs : BindG fd ps)
    (ha : PA X (e :: es) t) (hdb : (x == ("__debug__" : Str)) = false := by decide) (he : starEach (e :: es) X.env = (false, eval e X.env) :: starEach es X.env := by rfl) (hpl : (backTo pos (starEach es X.env)).any (·.1) = false := by rfl) :
    PE X (.Call (.Name x q0) (e :: es) [] pos) (fun σ H Q => t σ H fun vs H1 => sp a0 cls0 d0 vs H1 Q E0) := by
  refine ⟨fun pins s σ H Q I h => wpAny_Call_Name_kw (ld_glob I hg hm ?_ hdb)⟩
  refine PySem.W.callWith_K (h₀ := X.base) I.ok.mod.kin hk (thn (ha.run pos pins s σ H _ I h) fun us s1 ⟨vs, H1, I1, r, q⟩ => ⟨I1.kIn, ?_⟩) he hpl
  have hl : us.length = ps.length := by rw [← r.length]; exact F.wide _ _ _ _ _ _ _ q
  have P1 := I1.pin (a0, oe0) (List.mem_append_left _ hp)
  have pin : L2H.PinOk X.stack H1 s1 (a0, oe0) := ⟨P1.1, P1.2.1, fun m => (List.mem_cons.mp (I1.stkSub a0 m)).elim P1.2.2.1 P1.2.2.2.1, P1.2.2.2.2⟩
  refine wpAny_call (codeAny_mono (F.go X.A X.stack s1 H1 us vs Q E0 (a0, oe0) hr pin hf I1.env0 (hbs us hl) r (by rw [hz.1, hz.2]; exact q)) fun res s' hq => ?_)
  cases res with
  | error e => exact False.elim hq
  | ok fl =>
    cases fl with
    | ret u => exact I1.after hq
    | next => exact False.elim hq
    | brk => exact False.elim hq
    | cont => exact False.elim hq
/-- what an exception bears: its class, its own dict (if any) tracked -/
def Bears (H : Hp) (oe : Obj) (D : Addr) (d : Option (Addr × List (Str × V))) : Prop :=
  oe.cls = .ref D ∧ (∃ vs, oe.data = .fields vs) ∧ match d with
    | none => oe.dict = none
    | some (dd, fs) => oe.dict = some dd ∧ H dd = some (.xd fs)
theorem bears_at {pins : List (Addr × Obj)} {σ : L2.St} {H : Hp} {s : Shared} {oe : Obj} {a D : Addr} {d : Option (Addr × List (Str × V))} (I : Inv X pins σ H s) (hp : (a, oe) ∈ X.pn) (B : Bears H oe D d) : ∃ od, PySem.W.InstAt s.heap a oe D od := by
  obtain ⟨c, ⟨vs, hv⟩, hd⟩ := B
  have g := (I.pin (a, oe) (List.mem_append_left _ hp)).1
  cases d with
  | none =>
    refine ⟨none, g, c, by unfold PySem.W.notCls; rw [hv] <;> rfl, ?_⟩
    have hd : oe.dict = none := hd
    rw [hd]
    trivial
  | some d =>
    obtain ⟨dd, fs⟩ := d
    obtain ⟨h1, h2⟩ := hd
    obtain ⟨mA, ⟨o, es, ep, ho, r⟩, _⟩ := (show ObjOk X.prog X.w H s.heap dd (.xd fs) from I.hok dd _ h2)
    exact ⟨some o, g, c, by unfold PySem.W.notCls; rw [hv] <;> rfl, by rw [h1]; exact ho⟩
/-- isinstance(e, c), e the pinned exception -/
def rIsP (K : PySem.W.Frag) (a : Addr) (oe : Obj) : List V → Hp → VK → Prop := fun xs H Q => ∃ (D : Addr) (d : Option (Addr × List (Str × V))) (c : V) (u : Value) (b : Bool), xs = [.ref a, c] ∧ Bears H oe D d ∧ ExcC K D ∧ ClsV c u ∧ PySem.W.kitOne K (.ref D) u = some b ∧ Q (.bl b) H
theorem call_isP {a : Addr} {oe : Obj} (hp : (a, oe) ∈ X.pn) : CallR X (.builtin "isinstance") (rIsP X.K a oe) := by
  intro pins s σ H xs us Q I r h
  obtain ⟨D, d, c, u, b, rfl, B, C, k, e, q⟩ := h
  cases r with
  | cons rx rr =>
    cases rr with
    | cons rt rr =>
      cases rr
      cases rx
      have ec := k.eq rt
      subst ec
      exact PySem.W.kia_one (kit_exc C) I.kIn (bears_at I hp B) e (fun z => nomatch z) fun tk => ⟨.bl b, H, I.tok tk, rfl, q⟩
/-- e.f, e the pinned exception -/
def tXfP (K : PySem.W.Frag) (a : Addr) (oe : Obj) (n : Str) (te : TE) : TE := fun σ H Q => te σ H fun x H1 => x = .ref a ∧ ∃ (C dd : Addr) (fs : List (Str × V)) (v : V), Bears H1 oe C (some (dd, fs)) ∧ XfC K C ∧ PySem.W.findIn K (.ref C) n = some none ∧ fs.lookup n = some v ∧ Q v H1
theorem pe_xfP {a : Addr} {oe : Obj} {n : Str} {te : TE} (hp : (a, oe) ∈ X.pn) (he : PE X e te) (hb : attributeBase e n X.env (eval e X.env) = eval e X.env := by rfl) : PE X (.Attribute e n pos) (tXfP X.K a oe n te) := by
  refine ⟨fun pins s σ H Q I h => attr_of hb (thn (he.run pins s σ H _ I h) fun u s1 hh => ?_)⟩
  obtain ⟨x, H1, I1, rx, rfl, C, dd, fs, v, ⟨c1, ⟨vs, c2⟩, c3, c4⟩, T, hno, l, q⟩ := hh
  obtain rfl : u = Value.ref a := rx
  have g := (I1.pin (a, oe) (List.mem_append_left _ hp)).1
  obtain ⟨mA, hns, hr⟩ := (show ObjOk X.prog X.w H1 s1.heap dd (.xd fs) from I1.hok dd _ c4)
  obtain ⟨od, ho, hl⟩ := lookIn_ns hns
  obtain ⟨u, hu, ru⟩ := RelO.some_of (v := v) (o := mA n) (by rw [← l]; exact hr n)
  have J : PySem.W.InstAt s1.heap a oe C (some od) := ⟨g, c1, by unfold PySem.W.notCls; rw [c2] <;> rfl, by rw [c3]; exact ho⟩
  exact HandSPX.exc_get I1.kIn J T.ga T.gg T.exC (PySem.W.findObj_own T.hdC hno rfl (by rw [hl, hu])) (handed_of ru) ⟨v, H1, I1.tok _, ru, q⟩
/-- X(), X an own class without __init__ -/
theorem pmk_bare {C : Addr} {bmB : List Value} {B newId initId : String} (F : ExcBaseFacts B newId initId bmB) (q : PySem.W.excIn X.K C bmB newId = true) (gC : X.mg x = some (.ref C)) (kC : PySem.W.keepIn X.K (.ref C) = true) (r : Raises X (.ref C)) (hg : Gl X x)
    (hdb : (x == ("__debug__" : Str)) = false := by decide) : PMk X (.Call (.Name x q0) [] [] pos) (fun _ H Q => Q (.ref C) none H) := by
  intro pins s σ H Q I h
  refine wpAny_Call_Name_kw (ld_glob I hg gC ?_ hdb)
  refine PySem.W.callWith_K0 I.kIn kC ?_
  obtain ⟨bm, N, nm, qn, bs, hdct, sn, sub, ab, col, dd, k0, k1, k2, k3, k5, mN, hC, hN, hni, T⟩ := exc_obj I.kIn q
  exact wpAny_call_exc_subT F T hC hN hni (fun h' e hm => mk_of I hm r h (I.hok.gone hm.new)) (by show 0 ≤ sizeLine; exact Nat.zero_le _)
end
end Fv


set_option Elab.async false
set_option linter.all false
set_option maxRecDepth 100000
set_option maxHeartbeats 1000000
namespace Fv
open PySem PySem.Spec PyProof.Rows L2
/-- a value that is compared at once: flat, or one object -/
def Plain (v : V) : Prop := flatB v = true ∨ ∃ c, v = .ref c
theorem same_items {P : Program} {w : World} {A : Around} {s : Shared} : ∀ {xs : List V} {us ws : List Value}, (∀ v ∈ xs, Plain v) → Vals xs us → Vals xs ws → ∀ j (h1 : j < us.length) (h2 : j < ws.length), SeqAt.EqAt A s us[j] ws[j] true
  | _, _, _, _, .nil, .nil, j, h1, _ => absurd h1 (Nat.not_lt_zero j)
  | v :: xs, _, _, h, .cons a t, .cons b u, 0, _, _ => by
    rcases h v List.mem_cons_self with f | ⟨c, rfl⟩
    · exact eqAt_same a b f
    · cases a
      cases b
      exact SeqAt.EqAt.same _
  | v :: xs, _, _, h, .cons a t, .cons b u, j + 1, h1, h2 => same_items (P := P) (w := w) (fun x hx => h x (List.mem_cons_of_mem _ hx)) t u j (Nat.lt_of_succ_lt_succ h1) (Nat.lt_of_succ_lt_succ h2)
def rNeSame (K : PySem.W.Frag) : R2 := fun x y H Q => ∃ (a b : Addr) (xs : List V), x = .ref a ∧ y = .ref b ∧ SqL K H a xs ∧ SqL K H b xs ∧ (∀ v ∈ xs, Plain v) ∧ Q (.bl false) H
section
variable {X : Cx}
theorem op_neSame (hu : X.A.units + 64 < cLine) : OpR X (compareOp .NotEq) (rNeSame X.K) := by
  intro pins s σ H x y v u Q I rx ry h
  obtain ⟨a, b, xs, rfl, rfl, ha, hb, hp, q⟩ := h
  cases rx
  cases ry
  obtain ⟨us, r1, p1, _⟩ := I.list ha
  obtain ⟨ws, r2, p2, _⟩ := I.list hb
  have hsz : us.toArray.size = ws.toArray.size := by rw [List.size_toArray, List.size_toArray, ← r1.length, ← r2.length]
  have he : ∀ j (j1 : j < us.toArray.size) (j2 : j < ws.toArray.size), SeqAt.EqAt X.A.in1 s us.toArray[j] ws.toArray[j] ((fun _ => true) j) := fun j j1 j2 => by
    have := same_items (P := X.prog) (w := X.w) (A := X.A.in1) (s := s) hp r1 r2 j (by simpa using j1) (by simpa using j2)
    simpa using this
  have ne := SeqAt.RcNeAt.lists p1.isList p2.isList hsz (by omega) he
  refine ne X.prog X.w _ _ ?_
  rw [show ((List.range us.toArray.size).all fun _ => true) = true from List.all_eq_true.mpr fun _ _ => rfl]
  exact ⟨.bl false, H, I, rfl, q⟩
/-- lists put together, cut: new lists at none of the first places -/
def rCatB : R2 := fun x y H Q => ∃ (l b : Addr) (xs zs : List V), x = .ref l ∧ y = .ref b ∧ H l = some (.lst xs) ∧ H b = some (.lst zs) ∧ xs.length + zs.length ≤ sizeLine ∧ ∀ p, H p = none → p ≠ sysModules → Q (.ref p) (upd H p (.lst (xs ++ zs)))
theorem op_catB : OpR X (binaryOp .Add) rCatB := by
  intro pins s σ H x y v u Q I rx ry h
  obtain ⟨l, b, xs, zs, rfl, rfl, e1, e2, hz, q⟩ := h
  cases rx
  cases ry
  obtain ⟨_, us, n, r, _, g⟩ := I.lstM e1
  obtain ⟨_, ws, m, r2, _, g2⟩ := I.lstM e2
  have hl := r.length
  have hl2 := r2.length
  refine PySem.P.add_list g g2 ?_ (by rw [List.size_toArray, List.size_toArray]; omega)
  rw [show us.toArray ++ ws.toArray = (us ++ ws).toArray from by simp]
  exact ⟨.ref _, _, I.lnew (t' := s.toks) (r.append r2) (by rw [List.length_append]; omega), rfl, q _ I.fresh (Nat.ne_of_gt I.big)⟩
def rSlB (K : PySem.W.Frag) : V → Option Int → Option Int → Hp → VK → Prop := fun x lo hi H Q => ∃ (a : Addr) (xs : List V), x = .ref a ∧ SqL K H a xs ∧ ∀ p, H p = none → p ≠ sysModules → Q (.ref p) (upd H p (.lst (cutV xs lo hi)))
theorem sl_listB : SlR X (rSlB X.K) := by
  intro pins s σ H x v vl vu lo hi sl Q I rx hs pl pu h
  obtain ⟨a, xs, rfl, hx, q⟩ := h
  cases rx
  obtain ⟨us, r, pt, hz⟩ := I.list hx
  have hlen := r.length
  refine ⟨"list", _, slot_list_getitem.lookup, pt.isList.typeIs, wpAny_getItem_list_slice pt.isList hs pl pu .none (by simp) ?_ (by rw [List.size_toArray]; omega)⟩
  rw [slicePick_cut, ← hlen]
  have J : Inv X pins σ (upd H s.heap.objs.size (.lst (cutV xs lo hi))) { s with heap := s.heap.push { cls := .type "list", data := .seq ((us.drop (HT.sIx xs.length 0 lo)).take (HT.sIx xs.length xs.length hi - HT.sIx xs.length 0 lo)).toArray } } :=
    I.laid (t' := s.toks) (fun b ob q => Heap.get?_push_of_some _ q) (Nat.le_refl _) ⟨Nat.le_trans (cutV_length xs lo hi) hz, _, 0, (r.drop _).take _, Heap.get?_push_size _ rfl⟩
  exact ⟨.ref _, _, J, rfl, q _ I.fresh (Nat.ne_of_gt I.big)⟩
end
end Fv


set_option Elab.async false
set_option linter.all false
set_option maxRecDepth 100000
set_option maxHeartbeats 1000000
namespace Fv
open PySem PySem.Spec PyProof.Rows L2
def top (i : Nat) : Stmt := PySem.Challenge.pw_farapart_k15_whole_starts_found.main.body.getD i (.Pass ⟨0, 0, 0, 0⟩)
abbrev sBag : Stmt := top 26
abbrev sTake : Stmt := top 27
/-! ### the bag -/
def bagV (p s : Int) (i : Nat) (c : Addr) : HO := .lst [.int p, .int s, .int i, .ref c]
structure BagIs (H : Hp) (b c : Addr) (cs : List Int) (p s : Int) (i : Nat) : Prop where
  at_ : H b = some (bagV p s i c)
  cells : H c = some (.lst (cs.map V.int))
  ne : c ≠ b
  p0 : 0 ≤ p
  s0 : 0 ≤ s
  cs0 : ∀ z ∈ cs, 0 ≤ z
def Bag (H : Hp) (b : Addr) : Prop := ∃ c cs p s i, BagIs H b c cs p s i
def BagAt (H : Hp) (b c : Addr) : Prop := ∃ cs p s i, BagIs H b c cs p s i
theorem BagAt.bag {H : Hp} {b c : Addr} (h : BagAt H b c) : Bag H b := ⟨c, h⟩
theorem BagIs.same {H : Hp} {b c d : Addr} {cs : List Int} {p s : Int} {i : Nat} (B : BagIs H b c cs p s i) (h : BagAt H b d) : d = c := by
  obtain ⟨cs', p', s', i', B'⟩ := h
  have e := B'.at_.symm.trans B.at_
  unfold bagV at e
  simp only [Option.some.injEq, HO.lst.injEq, List.cons.injEq, V.ref.injEq, and_true] at e
  exact e.2.2.2
theorem BagAt.put {H : Hp} {b c D : Addr} {o : HO} (h : BagAt H b c) (nb : D ≠ b) (nc : D ≠ c) : BagAt (upd H D o) b c := by
  obtain ⟨cs, p, s, i, B⟩ := h
  exact ⟨cs, p, s, i, by rw [upd_ne nb.symm]; exact B.at_, by rw [upd_ne nc.symm]; exact B.cells, B.ne, B.p0, B.s0, B.cs0⟩
theorem BagAt.new {H : Hp} {b c D : Addr} {o : HO} (h : BagAt H b c) (n : H D = none) : BagAt (upd H D o) b c ∧ D ≠ b ∧ D ≠ c := by
  obtain ⟨cs, p, s, i, B⟩ := id h
  have n1 := (ne_of_none B.at_ n).symm
  have n2 := (ne_of_none B.cells n).symm
  exact ⟨h.put n1 n2, n1, n2⟩
def Keep (b : Addr) (H H' : Hp) : Prop := ∀ a o, a ≠ b → H a = some o → H' a = some o
theorem Keep.refl {b : Addr} {H : Hp} : Keep b H H := fun _ _ _ e => e
theorem Keep.trans {b : Addr} {H H1 H2 : Hp} (h : Keep b H H1) (k : Keep b H1 H2) : Keep b H H2 := fun a o n e => k a o n (h a o n e)
theorem Keep.upd {b : Addr} {H : Hp} {o : HO} : Keep b H (upd H b o) := fun a u n e => by rw [upd_ne n]; exact e
theorem Keep.new {b p : Addr} {H : Hp} {o : HO} (n : H p = none) : Keep b H (L2.upd H p o) := fun a u _ e => by rw [upd_ne (ne_of_none e n)]; exact e
theorem Bag.new {b p : Addr} {H : Hp} {o : HO} (B : Bag H b) (n : H p = none) : Bag (upd H p o) b := by
  obtain ⟨c, cs, q, s, i, B⟩ := B
  exact ⟨c, cs, q, s, i, by rw [upd_ne (ne_of_none B.at_ n)]; exact B.at_, by rw [upd_ne (ne_of_none B.cells n)]; exact B.cells, B.ne, B.p0, B.s0, B.cs0⟩
theorem BagIs.set {H : Hp} {b c : Addr} {cs : List Int} {p s p' s' : Int} {i i' : Nat} (B : BagIs H b c cs p s i) (hp : 0 ≤ p') (hs : 0 ≤ s') : BagIs (upd H b (bagV p' s' i' c)) b c cs p' s' i' :=
  ⟨upd_same, by rw [upd_ne B.ne]; exact B.cells, B.ne, hp, hs, B.cs0⟩
theorem cutK {t u : TS} {D : Ends} {σ : L2.St} {H : Hp} (P : L2.St → Hp → Prop) (k : ∀ σ' H', P σ' H' → u D σ' H') (h : (∀ σ' H', P σ' H' → u D σ' H') → tSeq t u D σ H) : tSeq t u D σ H := h k
theorem asgC {v : V} {i : Nat} {u : TS} {D : Ends} {σ : L2.St} {H : Hp} (h : u D (σ.set i (some v)) H) : tSeq (tAsg (tC v) (gName i)) u D σ H := h
theorem nz1 : (1000000007 : Int) ≠ 0 := by decide
theorem nz2 : (998244353 : Int) ≠ 0 := by decide
theorem nz3 : (2147483647 : Int) ≠ 0 := by decide
theorem modN {a m : Int} (ha : 0 ≤ a) (hm : 0 < m) : ∃ r : Nat, a.fmod m = (r : Int) ∧ (r : Int) < m := by
  have e : a.fmod m = a % m := Int.fmod_eq_emod_of_nonneg a (by omega)
  have h0 : 0 ≤ a % m := Int.emod_nonneg a (by omega)
  have h1 : a % m < m := Int.emod_lt_of_pos a hm
  exact ⟨(a % m).toNat, by rw [e]; omega, by omega⟩
section
variable {P : Program} {w : World} {K : PySem.W.Frag} {mg : Str → Option Value} {base : Heap}
def spTake : Sp := fun vs H Q _ => ∃ (b : Addr) (m : Int), vs = [.ref b, .int m] ∧ Bag H b ∧ 0 < m ∧ m ≤ 1000000 ∧ ∀ (r : Nat) (H' : Hp), (r : Int) < m → Bag H' b → Keep b H H' → (∀ c, BagAt H b c → BagAt H' b c) → Q (.int r) H'
theorem scT : FnScope ["_law_bag_here", "_law_many", "_law_cell", "_law_mixed_here", "_law_value", "_law_begin", "_law_second"] ["_law_bag_here", "_law_many"] (defScope sTake) := ⟨rfl, rfl, rfl, by decide +kernel, rfl, by decide +kernel, by decide +kernel⟩
theorem ok_take {f : Addr} {fd : FuncData} (F : Fun K "_law_take" "_law_take" sTake f fd) (mi : mg "int" = none) (ml : mg "len" = none) : FnOk P w K mg base CX0 1 f fd ["_law_bag_here", "_law_many"] spTake := by
  refine F.ok scT (fun vs H Q E h => ?_) (fun cdv A outer s H vs Q E hr h => ?_)
  · obtain ⟨b, m, rfl, _⟩ := h
    rfl
  · obtain ⟨b, m, rfl, B, m0, m1, q⟩ := h
    refine ⟨_, pss_cons (ps_if (pt_cmpR op_eq (pe_ix ix_list (pv 0) pe_int (fun _ _ => rfl)) pe_int (nomark _))
        (pss_cons (ps_set (i := 2) scT.nd rfl (.inl rfl) pe_int)
        (pss_cons (ps_if (pt_cmpR op_lt (pe_ix ix_list (pv 0) pe_int (fun _ _ => rfl)) (pe_callB call_len_seq (by rfl) ml PySem.boot_len (pa_cons (pe_ix ix_list (pv 0) pe_int (fun _ _ => rfl)) pa_nil)) (nomark _))
          (pss_one (ps_set (i := 2) scT.nd rfl (.inl rfl) (pe_ix ix_list (pe_ix ix_list (pv 0) pe_int (fun _ _ => rfl)) (pe_ix ix_list (pv 0) pe_int (fun _ _ => rfl)) (fun _ _ => rfl)))) pss_nil)
        (pss_cons (ps_augS (pv 0) pe_int pget_list pe_int ip_add set_list)
        (pss_cons (ps_if (pt_cmpR op_ge (pv 2) pe_int (nomark _)) (pss_one (ps_asg (pv 2) (pg_sub (pv 0) pe_int set_list))) pss_nil)
        (pss_cons (ps_set (i := 3) scT.nd rfl (.inl rfl) (pe_op op_add (pe_op op_add (pe_op op_mul (pe_ix ix_list (pv 0) pe_int (fun _ _ => rfl)) pe_int) (pe_op op_modN (pe_callTy call_int1 (by rfl) mi (by decide +kernel) (pa_cons (pv 2) pa_nil)) pe_int))
          (pe_op op_mul pe_int (pe_ix ix_list (pv 0) pe_int (fun _ _ => rfl)))))
        (pss_one (ps_asg (pe_op op_modN (pe_callTy call_int1 (by rfl) mi (by decide +kernel) (pa_cons (pv 3) pa_nil)) pe_int) (pg_sub (pv 0) pe_int set_list)))))))) pss_nil)
      (pss_cons (ps_if (pt_cmpR op_gt (pe_ix ix_list (pv 0) pe_int (fun _ _ => rfl)) pe_int (nomark _))
        (pss_cons (ps_set (i := 4) scT.nd rfl (.inl rfl) (pe_op op_modN (pe_callTy call_int1 (by rfl) mi (by decide +kernel) (pa_cons (pe_ix ix_list (pv 0) pe_int (fun _ _ => rfl)) pa_nil)) (pv 1)))
        (pss_cons (ps_asg (pe_op op_fdivN (pe_ix ix_list (pv 0) pe_int (fun _ _ => rfl)) (pv 1)) (pg_sub (pv 0) pe_int set_list))
        (pss_one (ps_ret (pv 4))))) pss_nil)
      (pss_cons (ps_set (i := 5) scT.nd rfl (.inl rfl) (pe_op op_modN (pe_callTy call_int1 (by rfl) mi (by decide +kernel) (pa_cons (pe_op op_mul (pe_op op_add (pe_ix ix_list (pv 0) pe_int (fun _ _ => rfl)) pe_int) pe_int) pa_nil)) pe_int))
      (pss_cons (ps_set (i := 6) scT.nd rfl (.inl rfl) (pe_op op_modN (pe_callTy call_int1 (by rfl) mi (by decide +kernel) (pa_cons (pe_op op_mul (pe_op op_modN (pe_callTy call_int1 (by rfl) mi (by decide +kernel) (pa_cons (pe_op op_mul (pv 5) (pv 5)) pa_nil)) pe_int) pe_int) pa_nil)) pe_int))
      (pss_cons (ps_if (pt_cmpR op_gt (pv 1) pe_int (nomark _)) (pss_one ps_never) pss_nil)
      (pss_one (ps_ret (pe_op op_modN (pe_callTy call_int1 (by rfl) mi (by decide +kernel) (pa_cons (pe_op op_fdivN (pv 6) pe_int) pa_nil)) (pv 1)))))))), ?_⟩
    refine cutK (fun σ' H' => ∃ c x : Option V, σ' = [some (.ref b), some (.int m), c, x, none, none, none] ∧ Bag H' b ∧ Keep b H H' ∧ ∀ c, BagAt H b c → BagAt H' b c) ?_ (fun k => ?_)
    · rintro σ' H' ⟨c, x, rfl, B', kp, st⟩
      obtain ⟨cc, cs, p, s, i, B'⟩ := B'
      have hb : SqL K H' b [.int p, .int s, .int i, .ref cc] := SqL.of B'.at_
      have mne : m ≠ 0 := by omega
      refine ⟨_, rfl, b, _, _, _, rfl, rfl, hb, atI_nat (j := 0) rfl, _, _, rfl, rfl, _, rfl, ite2 (fun e => ?_) (fun e => ?_)⟩
      · obtain ⟨r, er, r1⟩ := modN B'.p0 m0
        refine ⟨_, rfl, b, _, _, _, rfl, rfl, hb, atI_nat (j := 0) rfl, .inl ⟨_, rfl, _, rfl, _, _, rfl, rfl, mne, ?_⟩⟩
        refine ⟨_, rfl, b, _, _, _, rfl, rfl, hb, atI_nat (j := 0) rfl, _, rfl, _, _, rfl, rfl, ⟨mne, by omega⟩, _, rfl, b, _, _, _, rfl, rfl, B'.at_, rfl, ?_⟩
        refine ⟨_, rfl, ?_⟩
        show Q (V.int (p.fmod m)) _
        rw [er]
        have Bd : BagIs (upd H' b (bagV (p.fdiv m) s i cc)) b cc cs (p.fdiv m) s i := B'.set (Int.fdiv_nonneg B'.p0 (by omega)) B'.s0
        refine q r _ r1 ⟨cc, cs, _, _, _, Bd⟩ (kp.trans Keep.upd) fun c hc => ?_
        rw [B'.same (st c hc)]
        exact ⟨cs, _, _, _, Bd⟩
      · obtain ⟨g, eg, g1⟩ := modN (a := (s + 1) * 39373) (m := 1000000007) (by have := B'.s0; omega) (by decide)
        refine ⟨_, rfl, b, _, _, _, rfl, rfl, hb, atI_nat (j := 1) rfl, _, _, rfl, rfl, _, _, rfl, rfl, .inr ⟨by decide, by decide⟩, .inl ⟨_, rfl, _, _, rfl, rfl, nz1, ?_⟩⟩
        dsimp only
        rw [eg]
        obtain ⟨g2, eg2, g3⟩ := modN (a := (g : Int) * g) (m := 998244353) (Int.mul_nonneg (by omega) (by omega)) (by decide)
        refine ⟨_, rfl, _, rfl, _, _, rfl, rfl, .inl ⟨by omega, by omega⟩, .inl ⟨_, rfl, _, _, rfl, rfl, nz2, ?_⟩⟩
        dsimp only
        rw [eg2]
        obtain ⟨g4, eg4, g5⟩ := modN (a := (g2 : Int) * 30011) (m := 998244353) (by omega) (by decide)
        refine ⟨_, _, rfl, rfl, .inr ⟨by decide, by decide⟩, .inl ⟨_, rfl, _, _, rfl, rfl, nz2, ?_⟩⟩
        dsimp only
        rw [eg4]
        refine ⟨_, rfl, _, _, rfl, rfl, _, rfl, ite2 (fun e => ?_) (fun e => ?_)⟩
        · exact absurd (of_decide_eq_true e) (by omega)
        · obtain ⟨r, er, r1⟩ := modN (a := (g4 : Int).fdiv 7) (m := m) (Int.fdiv_nonneg (by omega) (by decide)) m0
          refine ⟨_, rfl, _, _, rfl, rfl, ⟨by decide, by decide⟩, .inl ⟨_, rfl, _, rfl, _, _, rfl, rfl, mne, ?_⟩⟩
          show Q (V.int (((g4 : Int).fdiv 7).fmod m)) _
          rw [er]
          exact q r _ r1 ⟨cc, cs, p, s, i, B'⟩ kp st
    · obtain ⟨cc, cs, p, s, i, B⟩ := B
      have hb : SqL K H b [.int p, .int s, .int i, .ref cc] := SqL.of B.at_
      refine ⟨_, rfl, b, _, _, _, rfl, rfl, hb, atI_nat (j := 0) rfl, rfl, _, rfl, ite2 (fun e => ?_) (fun e => ?_)⟩
      · -- what follows the reading of the cell
        refine asgC ?_
        refine cutK (fun σ' H' => ∃ z : Int, 0 ≤ z ∧ σ' = [some (.ref b), some (.int m), some (.int z), none, none, none, none] ∧ H' = H) ?_ (fun k2 => ?_)
        · rintro σ' H' ⟨z, z0, rfl, rfl⟩
          refine ⟨_, rfl, b, _, 2, _, rfl, rfl, hb, rfl, _, _, rfl, rfl, b, _, _, _, rfl, rfl, B.at_, rfl, ?_⟩
          have B1 : BagIs (upd H' b (bagV p s (i + 1) cc)) b cc cs p s (i + 1) := B.set B.p0 B.s0
          dsimp only
          refine cutK (fun σ1 H1 => σ1 = [some (.ref b), some (.int m), some (.int z), none, none, none, none] ∧ Keep b H' H1 ∧ ∃ p', BagIs H1 b cc cs p' s (i + 1)) ?_ (fun k3 => ?_)
          · rintro σ1 H1 ⟨rfl, kp, p', B2⟩
            have hb2 : SqL K H1 b [.int p', .int s, .int ((i + 1 : Nat) : Int), .ref cc] := SqL.of B2.at_
            refine ⟨_, rfl, b, _, _, _, rfl, rfl, hb2, atI_nat (j := 1) rfl, _, _, rfl, rfl, .inr ⟨by decide, by decide⟩, _, rfl, .inl ⟨_, rfl, _, _, rfl, rfl, nz3, ?_⟩⟩
            obtain ⟨g, eg, g1⟩ := modN (a := z) (m := 2147483647) z0 (by decide)
            dsimp only
            rw [eg]
            refine ⟨_, _, rfl, rfl, _, rfl, b, _, _, _, rfl, rfl, hb2, atI_nat (j := 2) rfl, _, _, rfl, rfl, .inl ⟨by decide, by decide⟩, _, _, rfl, rfl, ?_⟩
            obtain ⟨g2, eg2, g3⟩ := modN (a := s * 48271 + (g : Int) + 7919 * ((i + 1 : Nat) : Int)) (m := 2147483647) (by have := B.s0; omega) (by decide)
            refine ⟨_, rfl, .inl ⟨_, rfl, _, _, rfl, rfl, nz3, ?_⟩⟩
            dsimp only
            rw [eg2]
            refine ⟨_, rfl, b, _, _, _, rfl, rfl, B2.at_, rfl, ?_⟩
            exact k _ _ ⟨_, _, rfl, ⟨cc, cs, p', _, i + 1, B2.set (i' := i + 1) B2.p0 (Int.natCast_nonneg g2)⟩, kp.trans Keep.upd, fun c hc => by
              rw [B.same hc]
              exact ⟨cs, p', _, i + 1, B2.set (i' := i + 1) B2.p0 (Int.natCast_nonneg g2)⟩⟩
          · refine ⟨_, rfl, _, _, rfl, rfl, _, rfl, ite2 (fun e => ?_) (fun e => ?_)⟩
            · exact ⟨_, rfl, _, rfl, b, _, _, _, rfl, rfl, B1.at_, rfl, k3 _ _ ⟨rfl, Keep.upd.trans Keep.upd, z, B1.set (i' := i + 1) z0 B1.s0⟩⟩
            · exact k3 _ _ ⟨rfl, Keep.upd, p, B1⟩
        · refine ⟨_, rfl, b, _, _, _, rfl, rfl, hb, atI_nat (j := 2) rfl, _, rfl, b, _, _, _, rfl, rfl, hb, atI_nat (j := 3) rfl, cc, cs.map V.int, rfl, .inl (SqL.of B.cells), _, _, rfl, rfl, _, rfl, ite2 (fun e => ?_) (fun e => ?_)⟩
          · have hi : i < cs.length := by
              have := of_decide_eq_true e
              rw [List.length_map] at this
              omega
            have gi : (cs.map V.int)[i]? = some (.int cs[i]) := by
              rw [List.getElem?_map, List.getElem?_eq_getElem hi]
              rfl
            refine ⟨_, rfl, b, _, _, _, rfl, rfl, hb, atI_nat (j := 3) rfl, _, rfl, b, _, _, _, rfl, rfl, hb, atI_nat (j := 2) rfl, cc, _, _, _, rfl, rfl, SqL.of B.cells, atI_nat gi, ?_⟩
            exact k2 _ _ ⟨cs[i], B.cs0 _ (List.getElem_mem hi), rfl, rfl⟩
          · exact k2 _ _ ⟨0, by decide, rfl, rfl⟩
      · exact k _ _ ⟨none, none, rfl, ⟨cc, cs, p, s, i, B⟩, Keep.refl, fun _ h => h⟩
end
end Fv


set_option Elab.async false
set_option linter.all false
set_option maxRecDepth 100000
set_option maxHeartbeats 1000000
namespace Fv
open PySem PySem.Spec PyProof.Rows L2
section
variable {P : Program} {w : World} {K : PySem.W.Frag} {mg : Str → Option Value} {base : Heap}
def spBag (K : PySem.W.Frag) : Sp := fun vs H Q _ => ∃ (a : Addr) (ns : List Int), vs = [.ref a] ∧ SqL K H a (ns.map V.int) ∧ ns.length ≤ 63 ∧ ∀ (b : Addr) (H' : Hp), Bag H' b → Same H H' → Q (.ref b) H'
theorem scB : FnScope ["_law_script", "_law_cell"] ["_law_script"] (defScope sBag) := ⟨rfl, rfl, rfl, by decide +kernel, rfl, by decide +kernel, by decide +kernel⟩
theorem ok_bag {f : Addr} {fd : FuncData} (F : Fun K "_law_bag" "_law_bag" sBag f fd) (ma : mg "abs" = none) : FnOk P w K mg base CX0 1 f fd ["_law_script"] (spBag K) := by
  refine F.ok scB (fun vs H Q E h => ?_) (fun cdv A outer s H vs Q E hr h => ?_)
  · obtain ⟨b, m, rfl, _⟩ := h
    rfl
  · obtain ⟨a, ns, rfl, hS, hlen, q⟩ := h
    refine ⟨_, pss_one (ps_ret (pe_lst (pa_cons pe_int (pa_cons pe_int (pa_cons pe_int (pa_cons
      (pe_lc (own := [("_law_cell", 1)]) (g := gName 1) (tt := tYes) rfl scB.nd (pi_list (pe_slice sl_list (pv 0) po_none (po_some pe_int))) (blkOk_by (N := ["_law_script", "_law_cell"]) (sc := defScope sBag) (by decide +kernel))
        (fun _ _ _ _ _ => pg_name (i := 1) scB.nd rfl (Or.inl rfl)) (fun _ _ _ _ _ => pts_nil) (fun _ _ _ _ _ => pe_callB call_abs (by rfl) ma (by decide +kernel) (pa_cons (pv 1) pa_nil))) pa_nil)))))), ?_⟩
    refine ⟨_, rfl, _, rfl, a, ns.map V.int, rfl, hS, fun p np => ?_⟩
    have cut : cutV (ns.map V.int) none (some 63) = ns.map V.int := by
      unfold cutV
      rw [HT.sIx_none, show HT.sIx (ns.map V.int).length (ns.map V.int).length (some 63) = min 63 (ns.map V.int).length from HT.sIx_nat _ _ 63, List.drop_zero, List.length_map, List.take_of_length_le (by rw [List.length_map]; omega)]
    rw [cut]
    refine ⟨p, rfl, ⟨_, SqL.of upd_same⟩, fun D hD => ?_⟩
    have pD : p ≠ D := fun e => by rw [← e, upd_same] at hD; cases hD
    refine lc_list (K := K) (a := p) (xs := ns.map V.int) (fun i H1 => (∀ b o, H b = some o → H1 b = some o) ∧ H1 p = some (.lst (ns.map V.int)) ∧ H1 D = some (.lst ((ns.take i).map fun z => V.int (if z < 0 then -z else z)))) ?_ (fun i H1 _ h => SqL.of h.2.1) ?_ ?_
    · exact ⟨fun b o e => by rw [upd_ne (ne_of_none (by rw [upd_ne (ne_of_none e np)]; exact e) hD), upd_ne (ne_of_none e np)]; exact e, by rw [upd_ne pD]; exact upd_same, upd_same⟩
    · rintro i y H1 hi ⟨s1, e1, e2⟩
      obtain ⟨z, hz, rfl⟩ : ∃ z, ns[i]? = some z ∧ y = V.int z := by
        rw [List.getElem?_map] at hi
        cases e : ns[i]? with
        | none => rw [e] at hi; cases hi
        | some z => rw [e] at hi; exact ⟨z, rfl, (Option.some.inj hi).symm⟩
      have hn : i < ns.length := (List.getElem?_eq_some_iff.mp hz).1
      refine ⟨rfl, _, rfl, z, rfl, _, e2, ?_, ?_⟩
      · rw [List.length_map, List.length_take]
        exact small1000 (by omega)
      · refine ⟨fun b o e => ?_, by rw [upd_ne pD]; exact e1, ?_⟩
        · have : b ≠ D := ne_of_none (H := upd H p (.lst (ns.map V.int))) (by rw [upd_ne (ne_of_none e np)]; exact e) hD
          rw [upd_ne this]
          exact s1 b o e
        · rw [upd_same, List.take_add_one, hz, List.map_append]
          rfl
    · rintro H1 ⟨s1, e1, e2⟩
      refine ⟨by show 4 ≤ sizeLine; decide, fun b nb => ?_⟩
      rw [List.length_map, List.take_length] at e2
      refine q b _ ⟨D, ns.map fun z => if z < 0 then -z else z, 0, 1234567891, 0, ?_⟩ fun c o e => by rw [upd_ne (ne_of_none (s1 c o e) nb)]; exact s1 c o e
      refine ⟨upd_same, ?_, ne_of_none e2 nb, by decide, by decide, fun z hz => ?_⟩
      · rw [upd_ne (ne_of_none e2 nb), e2, List.map_map]
        rfl
      · obtain ⟨x, _, rfl⟩ := List.mem_map.mp hz
        split <;> omega
end
end Fv


set_option Elab.async false
set_option linter.all false
set_option maxRecDepth 100000
set_option maxHeartbeats 1000000
namespace Fv
open PySem PySem.Spec PyProof.Rows L2
def shortD : PyData → Prop := fun _ => True
theorem same_upd {H : Hp} {p : Addr} {o : HO} (h : H p = none) : Same H (upd H p o) := fun b x e => by
  rw [upd_ne (ne_of_none e h)]
  exact e
theorem Dq.plain {H : Hp} {b : Addr} {v : V} {d : PyData} (h : Dq H b v d) : Plain v := by
  cases h <;> first | exact .inl rfl | exact .inr ⟨_, rfl⟩
theorem Fine.line {d : PyData} (h : Fine d) : d.shown.length ≤ sizeLine := Nat.le_trans h.len (by decide)
theorem Fine.low {d : PyData} (h : Fine d) : d.depth ≤ 20 := Nat.le_trans h.deep (by decide)
end Fv


set_option Elab.async false
set_option linter.all false
set_option maxRecDepth 100000
set_option maxHeartbeats 2000000
namespace Fv
open PySem PySem.Spec PyProof.Rows L2
abbrev sOdd : Stmt := top 9999
def ten (n : Nat) : Int := 10 ^ n
theorem int_zeros : ∀ n : Nat, n < 60 → PySem.intText? ("1" ++ zeros n) = some (ten n) ∧ (("1" : Str) ++ zeros n).length ≤ 640 := by decide +kernel
def oddD (n : Nat) (nm : Str) : List PyData := [.int 0, .int 1, .int (-1), .int (ten n), .int (-(ten n)), .bool true, .bool false, .none, .str "", .str "a", .str nm, .str (nm ++ "z"), .str "abcdefgh",
  .str "abcdefghi", .str "A", .str "a1", .str "a b",
  .str "plain", .str "high", .str "low", .str "Plain", .list [], .tuple [], .dict [], .list [.int 1], .tuple [.int 0], .tuple [.str nm], .dict [(.str nm, .int 1)], .list [.str nm], .tuple [.str "", .str "", .int 0]]
def NameOk (z : Str) : Prop := z.length ≤ 100 ∧ ∀ c ∈ z.cps.toList, c < 128
theorem NameOk.ok {z : Str} (h : NameOk z) : okS z := ⟨by have := h.1; omega, h.2⟩
theorem NameOk.more {z : Str} (h : NameOk z) : okS (z ++ "z") := by
  refine ⟨?_, ?_⟩
  · have e : ("z" : Str).length = 1 := by decide +kernel
    rw [strLen_append, e]
    have := h.1
    omega
  · intro c hc
    have e : (z ++ "z" : Str).cps.toList = z.cps.toList ++ ("z" : Str).cps.toList := by
      show (z.cps ++ _).toList = _
      simp
    rw [e] at hc
    rcases List.mem_append.mp hc with q | q
    · exact h.2 c q
    · have : ∀ c ∈ ("z" : Str).cps.toList, c < 128 := by decide +kernel
      exact this c q
def okB (z : Str) : Bool := decide (z.length ≤ 1000) && z.cps.toList.all fun c => decide (c < 128)
theorem okS_of {z : Str} (h : okB z = true) : okS z := by
  unfold okB at h
  simp only [Bool.and_eq_true, decide_eq_true_eq, List.all_eq_true] at h
  exact h
theorem fine_ten : ∀ n : Nat, n < 40 → (PyData.int (ten n)).showable = true ∧ (PyData.int (ten n)).shown.length ≤ 20000 ∧ (PyData.int (-(ten n))).showable = true ∧ (PyData.int (-(ten n))).shown.length ≤ 20000 := by decide +kernel
def Nice (d : PyData) : Prop := Fine d ∧ shortD d
theorem nice_str {z : Str} (h : okS z) : Nice (.str z) := ⟨Fine.str h, True.intro⟩
theorem fine_dec {d : PyData} (h : (d.showable && decide (d.shown.length ≤ 20000) && decide (d.depth ≤ 3)) = true) : Fine d := by
  simp only [Bool.and_eq_true, decide_eq_true_eq] at h
  exact ⟨h.1.1, h.1.2, h.2⟩
theorem odd_nice {n : Nat} {nm : Str} (hn : n < 40) (h : NameOk nm) : ∀ d ∈ oddD n nm, Nice d := by
  obtain ⟨t1, t2, t3, t4⟩ := fine_ten n hn
  intro d hd
  unfold oddD at hd
  simp only [List.mem_cons, List.not_mem_nil, or_false] at hd
  rcases hd with rfl | rfl | rfl | rfl | rfl | rfl | rfl | rfl | rfl | rfl | rfl | rfl | rfl | rfl | rfl | rfl | rfl | rfl | rfl | rfl | rfl | rfl | rfl | rfl | rfl | rfl | rfl | rfl | rfl | rfl
  · exact ⟨fine_dec (by decide +kernel), True.intro⟩
  · exact ⟨fine_dec (by decide +kernel), True.intro⟩
  · exact ⟨fine_dec (by decide +kernel), True.intro⟩
  · exact ⟨⟨t1, t2, by simp [PyData.depth]⟩, True.intro⟩
  · exact ⟨⟨t3, t4, by simp [PyData.depth]⟩, True.intro⟩
  · exact ⟨fine_dec (by decide +kernel), True.intro⟩
  · exact ⟨fine_dec (by decide +kernel), True.intro⟩
  · exact ⟨fine_dec (by decide +kernel), True.intro⟩
  · (refine nice_str (okS_of ?_); decide +kernel)
  · (refine nice_str (okS_of ?_); decide +kernel)
  · exact nice_str h.ok
  · exact nice_str h.more
  · (refine nice_str (okS_of ?_); decide +kernel)
  · (refine nice_str (okS_of ?_); decide +kernel)
  · (refine nice_str (okS_of ?_); decide +kernel)
  · (refine nice_str (okS_of ?_); decide +kernel)
  · (refine nice_str (okS_of ?_); decide +kernel)
  · (refine nice_str (okS_of ?_); decide +kernel)
  · (refine nice_str (okS_of ?_); decide +kernel)
  · (refine nice_str (okS_of ?_); decide +kernel)
  · (refine nice_str (okS_of ?_); decide +kernel)
  · exact ⟨fine_dec (by decide +kernel), True.intro⟩
  · exact ⟨fine_dec (by decide +kernel), True.intro⟩
  · exact ⟨fine_dec (by decide +kernel), True.intro⟩
  · exact ⟨fine_dec (by decide +kernel), True.intro⟩
  · exact ⟨fine_dec (by decide +kernel), True.intro⟩
  · exact ⟨Fine.one_tup h.ok, True.intro⟩
  · exact ⟨Fine.one_dct h.ok, True.intro⟩
  · exact ⟨Fine.one_lst h.ok, True.intro⟩
  · exact ⟨fine_dec (by decide +kernel), True.intro⟩
end Fv


set_option Elab.async false
set_option linter.all false
set_option maxRecDepth 100000
set_option maxHeartbeats 4000000
namespace Fv
open PySem PySem.Spec PyProof.Rows L2
def odd17 (n : Nat) (nm : Str) : List V := [.int 0, .int 1, .int (-1), .int (ten n), .int (-ten n), .bl true, .bl false, .non, .str "", .str "a", .str nm, .str (nm ++ "z"), .str "abcdefgh", .str "abcdefghi", .str "A", .str "a1", .str "a b"]
theorem item {H Hf : Hp} {p b a : Addr} {o : HO} (n : H a = none) (hp : ∃ u, H p = some u) (hb : ∃ u, H b = some u) (k : Keep p (upd H a o) Hf) : Hf a = some o ∧ a ≠ b := by
  obtain ⟨u, hp⟩ := hp
  obtain ⟨u', hb⟩ := hb
  exact ⟨k a o (ne_of_none hp n).symm upd_same, (ne_of_none hb n).symm⟩
theorem there {H H' : Hp} {a : Addr} (k : Same H H') (h : ∃ u, H a = some u) : ∃ u, H' a = some u := by
  obtain ⟨u, h⟩ := h
  exact ⟨u, k _ _ h⟩
theorem same_twice {H : Hp} {a : Addr} {o u : HO} (n : H a = none) : Same H (upd (upd H a o) a u) := fun c v e => by
  have z := ne_of_none e n
  rw [upd_ne z, upd_ne z]
  exact e
def odd30 (n : Nat) (nm : Str) (a1 a2 a3 a4 a5 a6 a7 a8 a9 : Addr) : List V := [.int 0, .int 1, .int (-1), .int (ten n), .int (-ten n), .bl true, .bl false, .non, .str "", .str "a", .str nm, .str (nm ++ "z"), .str "abcdefgh", .str "abcdefghi", .str "A", .str "a1", .str "a b",
  .str "plain", .str "high", .str "low", .str "Plain", .ref a1, .ref a2, .ref a3, .ref a4, .ref a5, .ref a6, .ref a7, .ref a8, .ref a9]
theorem odd_all {H : Hp} {b : Addr} {n : Nat} {nm : Str} {a1 a2 a3 a4 a5 a6 a7 a8 a9 : Addr} (g1 : H a1 = some (.lst [])) (b1 : a1 ≠ b) (m1 : a1 ≠ sysModules) (g2 : H a2 = some (.tup [])) (b2 : a2 ≠ b) (g3 : H a3 = some (.dK [])) (b3 : a3 ≠ b) (g4 : H a4 = some (.lst [.int 1])) (b4 : a4 ≠ b) (m4 : a4 ≠ sysModules)
    (g5 : H a5 = some (.tup [.int 0])) (b5 : a5 ≠ b) (g6 : H a6 = some (.tup [.str nm])) (b6 : a6 ≠ b) (g7 : H a7 = some (.dK [(Sum.inr nm, .int 1)])) (b7 : a7 ≠ b) (g8 : H a8 = some (.lst [.str nm])) (b8 : a8 ≠ b) (m8 : a8 ≠ sysModules) (g9 : H a9 = some (.tup [.str "", .str "", .int 0])) (b9 : a9 ≠ b) :
    DqAll H b (odd30 n nm a1 a2 a3 a4 a5 a6 a7 a8 a9) (oddD n nm) :=
  .cons (.int _) (.cons (.int _) (.cons (.int _) (.cons (.int _) (.cons (.int _) (.cons (.bl _) (.cons (.bl _) (.cons .non (.cons (.str _) (.cons (.str _) (.cons (.str _) (.cons (.str _) (.cons (.str _)
    (.cons (.str _) (.cons (.str _) (.cons (.str _) (.cons (.str _) (.cons (.str _) (.cons (.str _) (.cons (.str _) (.cons (.str _)
    (.cons (.lst g1 b1 m1 .nil) (.cons (.tup g2 b2 .nil) (.cons (.dct g3 b3 .nil .nil) (.cons (.lst g4 b4 m4 (.cons (.int _) .nil)) (.cons (.tup g5 b5 (.cons (.int _) .nil)) (.cons (.tup g6 b6 (.cons (.str _) .nil))
    (.cons (.dct g7 b7 (.cons (.str _) .nil) (.cons (.int _) .nil)) (.cons (.lst g8 b8 m8 (.cons (.str _) .nil)) (.cons (.tup g9 b9 (.cons (.str _) (.cons (.str _) (.cons (.int _) .nil)))) .nil)))))))))))))))))))))))))))))
theorem Keep.same {p : Addr} {H H' : Hp} (s : Same H H') : Keep p H H' := fun a o _ e => s a o e
theorem Bag.at_b {H : Hp} {b : Addr} (B : Bag H b) : ∃ o, H b = some o := by
  obtain ⟨c, cs, p, s, i, B⟩ := B
  exact ⟨_, B.at_⟩
theorem BagAt.same {H H' : Hp} {b c : Addr} (B : BagAt H b c) (k : Same H H') : BagAt H' b c := by
  obtain ⟨cs, p, s, i, B⟩ := B
  exact ⟨cs, p, s, i, k _ _ B.at_, k _ _ B.cells, B.ne, B.p0, B.s0, B.cs0⟩
theorem Bag.same {H H' : Hp} {b : Addr} (B : Bag H b) (k : Same H H') : Bag H' b := by
  obtain ⟨c, cs, p, s, i, B⟩ := B
  exact ⟨c, cs, p, s, i, k _ _ B.at_, k _ _ B.cells, B.ne, B.p0, B.s0, B.cs0⟩
section
variable {P : Program} {w : World} {K : PySem.W.Frag} {mg : Str → Option Value} {base : Heap}
end
end Fv


set_option Elab.async false
set_option linter.all false
set_option maxRecDepth 100000
set_option maxHeartbeats 2000000
namespace Fv
open PySem PySem.Spec PyProof.Rows L2
abbrev sMixed : Stmt := top 29
abbrev sNumber : Stmt := top 31
theorem list_cons_perm {α : Type} (i : Nat) (y : α) (xs : List α) : (xs.take i ++ [y] ++ xs.drop i).Perm (y :: xs) := by
  have h : (xs.take i ++ [y] ++ xs.drop i).Perm ([y] ++ xs.take i ++ xs.drop i) := List.Perm.append_right _ List.perm_append_comm
  have e : [y] ++ xs.take i ++ xs.drop i = y :: xs := by
    rw [List.append_assoc, List.take_append_drop]
    rfl
  exact e ▸ h
theorem BagAt.uniq {H : Hp} {b c d : Addr} (h : BagAt H b c) (g : BagAt H b d) : d = c := by
  obtain ⟨cs, p, s, i, B⟩ := h
  exact B.same g
/-- the items of a row, in another order -/
def spMixed (K : PySem.W.Frag) : Sp := fun vs H Q _ => ∃ (b a : Addr) (xs : List V), vs = [.ref b, .ref a] ∧ Bag H b ∧ a ≠ b ∧ H a = some (.lst xs) ∧ xs.length ≤ 60 ∧
  ∀ (p : Addr) (ys : List V) (H' : Hp), H p = none → p ≠ sysModules → H' p = some (.lst ys) → ys.Perm xs → Bag H' b → Keep b H H' → (∀ c, BagAt H b c → BagAt H' b c) → Q (.ref p) H'
section
variable {P : Program} {w : World} {K : PySem.W.Frag} {mg : Str → Option Value} {base : Heap}
theorem scMx : FnScope ["_law_bag_here", "_law_things", "_law_found", "_law_thing"] ["_law_bag_here", "_law_things"] (defScope sMixed) := ⟨rfl, rfl, rfl, by decide +kernel, rfl, by decide +kernel, by decide +kernel⟩
theorem ok_mixed {f fT : Addr} {fd fdT : FuncData} (F : Fun K "_law_mixed" "_law_mixed" sMixed f fd) (GT : FnOk P w K mg base CX0 1 fT fdT ["_law_bag_here", "_law_many"] spTake) (bT : Binds K fdT ["_law_bag_here", "_law_many"] []) (mT : mg "_law_take" = some (.ref fT)) (kT : PySem.W.keepIn K (.ref fT) = true)
    (ml : mg "len" = none) : FnOk P w K mg base CX0 2 f fd ["_law_bag_here", "_law_things"] (spMixed K) := by
  refine F.ok scMx (fun vs H Q E h => ?_) (fun cdv A outer s H vs Q E hr h => ?_)
  · obtain ⟨b, a, xs, rfl, _⟩ := h
    rfl
  · obtain ⟨b, a, xs, rfl, B, ab, ha, hl, q⟩ := h
    have hr1 : Room 1 _ := hr.mono (by decide)
    refine ⟨_, pss_cons (ps_set (i := 2) scMx.nd rfl (.inl rfl) (pe_lstB pa_nil))
      (pss_cons (ps_for PassesOwn.never rfl (pi_list (pv 1)) (pg_name (i := 3) scMx.nd rfl (.inl rfl))
        (pss_one (ps_expr (pe_bm PySem.F.plainAttrs_list PySem.F.slot_list_insert PySem.F.type_list_insert mt_insert (pv 2)
          (pa_cons (pe_call GT hr1 (by rfl) mT kT bT .nil pass0 (pa_cons (pv 0) (pa_cons (pe_op op_add (pe_callB call_len_seq (by rfl) ml PySem.boot_len (pa_cons (pv 2) pa_nil)) pe_int) pa_nil))) (pa_cons (pv 3) pa_nil))))))
      (pss_one (ps_ret (pv 2)))), ?_⟩
    obtain ⟨c0, B0⟩ := B
    refine ⟨Nat.zero_le _, fun p np mp => ?_⟩
    obtain ⟨B1, pb, pc⟩ := BagAt.new (o := .lst []) B0 np
    have ea : (upd H p (.lst [])) a = some (.lst xs) := by rw [upd_ne (ne_of_none ha np)]; exact ha
    have pa : a ≠ p := ne_of_none ha np
    refine ⟨_, rfl, a, rfl, ⟨_, SqL.of ea⟩, ?_⟩
    refine for_list (K := K) (a := a) (xs := xs) (fun i σ H' => ∃ y : Option V, σ = [some (.ref b), some (.ref a), some (.ref p), y] ∧ BagAt H' b c0 ∧ Keep b H H' ∧ H' a = some (.lst xs) ∧ ∃ ys : List V, H' p = some (.lst ys) ∧ ys.Perm (xs.take i))
      ⟨none, rfl, B1, Keep.new np, ea, [], upd_same, .nil⟩ (fun i σ H' _ h => ?_) ?_ ?_
    · obtain ⟨y, _, _, _, e, _⟩ := h
      exact SqL.of e
    · rintro i x σ H2 hx ⟨y, rfl, B2, k2, e2, ys, ep, pe⟩
      have hi : i < xs.length := (List.getElem?_eq_some_iff.mp hx).1
      have hys : ys.length = i := by rw [pe.length_eq, List.length_take]; omega
      refine ⟨_, rfl, .inl ⟨rfl, _, SqL.of ep⟩, _, rfl, _, rfl, p, ys, rfl, .inl (SqL.of ep), _, _, rfl, rfl, b, _, rfl, B2.bag, by omega, by omega, fun r H3 h3 B3 k3 g3 => ?_⟩
      refine ⟨_, rfl, p, ys, r, x, rfl, rfl, k3 _ _ pb ep, small1000 (by omega), by omega, by omega, ?_⟩
      refine ⟨some x, rfl, (g3 _ B2).put pb pc, fun c o n e => ?_, ?_, _, upd_same, ?_⟩
      · rw [upd_ne (ne_of_none e np)]
        exact k3 c o n (k2 c o n e)
      · rw [upd_ne pa]
        exact k3 _ _ ab e2
      · rw [List.take_add_one, hx]
        exact (list_cons_perm _ _ _).trans ((List.Perm.cons x pe).trans (List.perm_append_singleton x (xs.take i)).symm)
    · rintro σ H2 ⟨y, rfl, B2, k2, e2, ys, ep, pe⟩
      rw [List.take_length] at pe
      refine ⟨_, rfl, ?_⟩
      exact q p ys H2 np mp ep pe B2.bag k2 fun c hc => by rw [BagAt.uniq B0 hc]; exact B2
/-! ### a number -/
theorem ten_le : ∀ n : Nat, n < 60 → 2 ≤ ten n + 1 ∧ ten n ≤ 10 ^ 59 := by decide +kernel
def spNumber : Sp := fun vs H Q _ => ∃ b : Addr, vs = [.ref b] ∧ Bag H b ∧ ∀ (z : Int) (H' : Hp), -(10 ^ 59) ≤ z → z ≤ 10 ^ 59 → Bag H' b → Keep b H H' → (∀ c, BagAt H b c → BagAt H' b c) → Q (.int z) H'
theorem scNb : FnScope ["_law_bag_here", "_law_wide"] ["_law_bag_here"] (defScope sNumber) := ⟨rfl, rfl, rfl, by decide +kernel, rfl, by decide +kernel, by decide +kernel⟩
theorem ok_number {f fT : Addr} {fd fdT : FuncData} (F : Fun K "_law_number" "_law_number" sNumber f fd) (GT : FnOk P w K mg base CX0 1 fT fdT ["_law_bag_here", "_law_many"] spTake) (bT : Binds K fdT ["_law_bag_here", "_law_many"] []) (mT : mg "_law_take" = some (.ref fT)) (kT : PySem.W.keepIn K (.ref fT) = true)
    (mi : mg "int" = none) : FnOk P w K mg base CX0 2 f fd ["_law_bag_here"] spNumber := by
  refine F.ok scNb (fun vs H Q E h => ?_) (fun cdv A outer s H vs Q E hr h => ?_)
  · obtain ⟨b, rfl, _⟩ := h
    rfl
  · obtain ⟨b, rfl, B, q⟩ := h
    have hr1 : Room 1 _ := hr.mono (by decide)
    refine ⟨_, pss_cons (ps_if (pt_cmpR op_eq (pe_call GT hr1 (by rfl) mT kT bT .nil pass0 (pa_cons (pv 0) (pa_cons pe_int pa_nil))) pe_int (nomark _))
        (pss_cons (ps_set (i := 1) scNb.nd rfl (.inl rfl) (pe_op op_sub (pe_callTy call_int_str (by rfl) mi (by decide +kernel) (pa_cons (pe_op op_add_str pe_str (pe_op op_zeros pe_str (pe_op op_add pe_int (pe_call GT hr1 (by rfl) mT kT bT .nil pass0 (pa_cons (pv 0) (pa_cons pe_int pa_nil)))))) pa_nil)) (pe_call GT hr1 (by rfl) mT kT bT .nil pass0 (pa_cons (pv 0) (pa_cons pe_int pa_nil)))))
        (pss_one (ps_ret (pe_ifExp (pt_cmpR op_eq (pe_call GT hr1 (by rfl) mT kT bT .nil pass0 (pa_cons (pv 0) (pa_cons pe_int pa_nil))) pe_int (nomark _)) (pv 1) (pe_un un_neg (pv 1)))))) pss_nil)
      (pss_one (ps_ret (pe_op op_sub (pe_call GT hr1 (by rfl) mT kT bT .nil pass0 (pa_cons (pv 0) (pa_cons pe_int pa_nil))) pe_int))), ?_⟩
    refine ⟨_, rfl, b, 12, rfl, B, by decide, by decide, fun r H1 h1 B1 k1 g1 => ?_⟩
    refine ⟨rfl, _, rfl, ite2 (fun e => ?_) (fun e => ?_)⟩
    · refine ⟨_, rfl, b, 58, rfl, B1, by decide, by decide, fun n H2 h2 B2 k2 g2 => ?_⟩
      have hn : 1 + n < 60 := by omega
      obtain ⟨it, il⟩ := int_zeros (1 + n) hn
      obtain ⟨t0, t1⟩ := ten_le (1 + n) hn
      refine ⟨_, _, rfl, rfl, 1 + n, rfl, congrArg V.int (by omega), by omega, _, _, rfl, rfl, Nat.le_trans (by rw [← strLen_append]; exact il) (by decide), _, _, rfl, it, il, ?_⟩
      refine ⟨_, rfl, b, 2, rfl, B2, by decide, by decide, fun d H3 h3 B3 k3 g3 => ⟨_, _, rfl, rfl, ?_⟩⟩
      refine ⟨_, rfl, b, 2, rfl, B3, by decide, by decide, fun o H4 h4 B4 k4 g4 => ?_⟩
      have kk : Keep b H H4 := ((k1.trans k2).trans k3).trans k4
      have gg : ∀ c, BagAt H b c → BagAt H4 b c := fun c hc => g4 c (g3 c (g2 c (g1 c hc)))
      refine ⟨rfl, _, rfl, ite2 (fun e => ?_) (fun e => ?_)⟩
      · exact ⟨_, rfl, q _ H4 (by omega) (by omega) B4 kk gg⟩
      · exact ⟨_, rfl, _, rfl, q _ H4 (by omega) (by omega) B4 kk gg⟩
    · refine ⟨_, rfl, b, 9, rfl, B1, by decide, by decide, fun n H2 h2 B2 k2 g2 => ⟨_, _, rfl, rfl, ?_⟩⟩
      exact q _ H2 (by omega) (by omega) B2 (k1.trans k2) fun c hc => g2 c (g1 c hc)
end
end Fv


set_option Elab.async false
set_option linter.all false
set_option maxRecDepth 100000
set_option maxHeartbeats 1000000
/-! data in which instances of one own class may stand (told as None: what is asked of them is the same) -/
namespace Fv
open PySem PySem.Spec PyProof.Rows L2
mutual
inductive Dx (C : Addr) (H : Hp) (b : Addr) : V → PyData → Prop
  | non : Dx C H b .non .none
  | bl (x : Bool) : Dx C H b (.bl x) (.bool x)
  | int (i : Int) : Dx C H b (.int i) (.int i)
  | str (x : Str) : Dx C H b (.str x) (.str x)
  | obj {a dx : Addr} {fs : List (Str × V)} : H a = some (.ins C dx fs) → a ≠ b → Dx C H b (.ref a) .none
  | lst {a : Addr} {xs : List V} {ds : List PyData} : H a = some (.lst xs) → a ≠ b → DxAll C H b xs ds → Dx C H b (.ref a) (.list ds)
  | tup {a : Addr} {xs : List V} {ds : List PyData} : H a = some (.tup xs) → a ≠ b → DxAll C H b xs ds → Dx C H b (.ref a) (.tuple ds)
  | dct {a : Addr} {kvs : List (Key × V)} {ps : List (PyData × PyData)} : H a = some (.dK kvs) → a ≠ b → Dx C H b (.ref a) (.dict ps)
inductive DxAll (C : Addr) (H : Hp) (b : Addr) : List V → List PyData → Prop
  | nil : DxAll C H b [] []
  | cons {v : V} {vs : List V} {d : PyData} {ds : List PyData} : Dx C H b v d → DxAll C H b vs ds → DxAll C H b (v :: vs) (d :: ds)
end
mutual
theorem Dx.mono {C : Addr} {H H' : Hp} {b : Addr} (k : ∀ a o, a ≠ b → H a = some o → H' a = some o) : ∀ {v : V} {d : PyData}, Dx C H b v d → Dx C H' b v d
  | _, _, .non => .non
  | _, _, .bl x => .bl x
  | _, _, .int i => .int i
  | _, _, .str x => .str x
  | _, _, .obj e n => .obj (k _ _ n e) n
  | _, _, .lst e n h => .lst (k _ _ n e) n (DxAll.mono k h)
  | _, _, .tup e n h => .tup (k _ _ n e) n (DxAll.mono k h)
  | _, _, .dct e n => .dct (k _ _ n e) n
theorem DxAll.mono {C : Addr} {H H' : Hp} {b : Addr} (k : ∀ a o, a ≠ b → H a = some o → H' a = some o) : ∀ {v : List V} {d : List PyData}, DxAll C H b v d → DxAll C H' b v d
  | _, _, .nil => .nil
  | _, _, .cons h t => .cons (Dx.mono k h) (DxAll.mono k t)
end
mutual
theorem Dq.x {C : Addr} {H : Hp} {b : Addr} : ∀ {v : V} {d : PyData}, Dq H b v d → Dx C H b v d
  | _, _, .non => .non
  | _, _, .bl x => .bl x
  | _, _, .int i => .int i
  | _, _, .str x => .str x
  | _, _, .lst e n _ h => .lst e n (DqAll.x h)
  | _, _, .tup e n h => .tup e n (DqAll.x h)
  | _, _, .dct e n _ _ => .dct e n
theorem DqAll.x {C : Addr} {H : Hp} {b : Addr} : ∀ {v : List V} {d : List PyData}, DqAll H b v d → DxAll C H b v d
  | _, _, .nil => .nil
  | _, _, .cons h t => .cons (Dq.x h) (DqAll.x t)
end
theorem DxAll.len {C : Addr} {H : Hp} {b : Addr} : ∀ {v : List V} {d : List PyData}, DxAll C H b v d → v.length = d.length
  | _, _, .nil => rfl
  | _, _, .cons _ t => by rw [List.length_cons, List.length_cons, DxAll.len t]
theorem DxAll.get {C : Addr} {H : Hp} {b : Addr} : ∀ {v : List V} {d : List PyData} {i : Nat} {x : V}, DxAll C H b v d → v[i]? = some x → ∃ e, d[i]? = some e ∧ Dx C H b x e
  | _, _, 0, _, .cons h _, e => ⟨_, rfl, by cases e; exact h⟩
  | _, _, i + 1, _, .cons _ t, e => DxAll.get (i := i) t e
theorem DxAll.at_ {C : Addr} {H : Hp} {b : Addr} : ∀ {v : List V} {d : List PyData} {i : Nat} {e : PyData}, DxAll C H b v d → d[i]? = some e → ∃ x, v[i]? = some x ∧ Dx C H b x e
  | _, _, 0, _, .cons h _, e => ⟨_, rfl, by cases e; exact h⟩
  | _, _, i + 1, _, .cons _ t, e => DxAll.at_ (i := i) t e
/-- what the written part says of that class -/
structure KFn (K : PySem.W.Frag) (C : Addr) : Prop where
  cl : Cls K C
  ha : PySem.W.findIn K (.ref C) "__class__" = some (some (.builtin "object.__class__"))
  hn : PySem.W.specialIn K (.builtin "object.__class__") "__get__" = some (some (.builtin "getset_descriptor.__get__"))
  htk : PySem.W.takesIn K (.builtin "object.__class__") = some true
  hm : PySem.W.mroIn K C (.type "object") = some true
  kI : PySem.W.kitOne K (.ref C) (.type "int") = some false
  kB : PySem.W.kitOne K (.ref C) (.type "bool") = some false
  kS : PySem.W.kitOne K (.ref C) (.type "str") = some false
  kL : PySem.W.kitOne K (.ref C) (.type "list") = some false
  kT : PySem.W.kitOne K (.ref C) (.type "tuple") = some false
def isListD : PyData → Bool
  | .list _ => true
  | _ => false
def isTupD : PyData → Bool
  | .tuple _ => true
  | _ => false
def rowD (d : PyData) : Bool := isListD d || isTupD d
theorem kit_list {K : PySem.W.Frag} (d : PyData) : PySem.W.kitOne K (.type (tyN d)) (.type "list") = some (isListD d) := by
  cases d
  · exact kit_ty (a := "NoneType") (b := "list") (r := false) (by decide +kernel)
  · exact kit_ty (a := "bool") (b := "list") (r := false) (by decide +kernel)
  · exact kit_ty (a := "int") (b := "list") (r := false) (by decide +kernel)
  · exact kit_ty (a := "str") (b := "list") (r := false) (by decide +kernel)
  · exact kit_ty (a := "list") (b := "list") (r := true) (by decide +kernel)
  · exact kit_ty (a := "tuple") (b := "list") (r := false) (by decide +kernel)
  · exact kit_ty (a := "dict") (b := "list") (r := false) (by decide +kernel)
theorem kit_tup {K : PySem.W.Frag} (d : PyData) : PySem.W.kitOne K (.type (tyN d)) (.type "tuple") = some (isTupD d) := by
  cases d
  · exact kit_ty (a := "NoneType") (b := "tuple") (r := false) (by decide +kernel)
  · exact kit_ty (a := "bool") (b := "tuple") (r := false) (by decide +kernel)
  · exact kit_ty (a := "int") (b := "tuple") (r := false) (by decide +kernel)
  · exact kit_ty (a := "str") (b := "tuple") (r := false) (by decide +kernel)
  · exact kit_ty (a := "list") (b := "tuple") (r := false) (by decide +kernel)
  · exact kit_ty (a := "tuple") (b := "tuple") (r := true) (by decide +kernel)
  · exact kit_ty (a := "dict") (b := "tuple") (r := false) (by decide +kernel)
structure Isa (K : PySem.W.Frag) (H : Hp) (v : V) (d : PyData) (t : Value) : Prop where
  ty : TyX K H v t
  i : PySem.W.kitOne K t (.type "int") = some (isIntD d)
  b : PySem.W.kitOne K t (.type "bool") = some (isBoolD d)
  s : PySem.W.kitOne K t (.type "str") = some (isStrD d)
  l : PySem.W.kitOne K t (.type "list") = some (isListD d)
  t : PySem.W.kitOne K t (.type "tuple") = some (isTupD d)
theorem Dx.isa {K : PySem.W.Frag} {C : Addr} {H : Hp} {b : Addr} {v : V} {d : PyData} (T : KFn K C) (h : Dx C H b v d) : ∃ t, Isa K H v d t := by
  have base : ∀ {v : V}, TyX K H v (.type (tyN d)) → ∃ t, Isa K H v d t := fun y => ⟨_, y, kit_int d, kit_bool d, kit_str d, kit_list d, kit_tup d⟩
  cases h with
  | non => exact base (.base .non)
  | bl x => exact base (.base (.bl x))
  | int i => exact base (.base (.int i))
  | str x => exact base (.base (.str x))
  | obj e n => exact ⟨_, .base (.ins e T.cl T.ha T.hn T.htk T.hm), T.kI, T.kB, T.kS, T.kL, T.kT⟩
  | lst e _ _ => exact base (.base (.lst e))
  | tup e _ _ => exact base (.base (.tup e))
  | dct e _ => exact base (.base (.dK e))
theorem Dx.str_of {C : Addr} {H : Hp} {b : Addr} {v : V} {d : PyData} (h : Dx C H b v d) (e : isStrD d = true) : ∃ z, v = .str z ∧ d = .str z := by
  cases h <;> first | exact ⟨_, rfl, rfl⟩ | cases e
theorem Dx.tup_of {C : Addr} {H : Hp} {b : Addr} {v : V} {d : PyData} (h : Dx C H b v d) (e : isTupD d = true) : ∃ a xs ds, v = .ref a ∧ d = .tuple ds ∧ H a = some (.tup xs) ∧ DxAll C H b xs ds := by
  cases h with
  | tup e1 n h => exact ⟨_, _, _, rfl, rfl, e1, h⟩
  | _ => cases e
/-- a list or a tuple: its items -/
theorem Dx.row_of {K : PySem.W.Frag} {C : Addr} {H : Hp} {b : Addr} {v : V} {d : PyData} (h : Dx C H b v d) (e : rowD d = true) : ∃ a xs ds, v = .ref a ∧ (d = .tuple ds ∨ d = .list ds) ∧ (SqL K H a xs ∨ SqT K H a xs) ∧ DxAll C H b xs ds := by
  cases h with
  | tup e1 n h => exact ⟨_, _, _, rfl, .inl rfl, .inr (SqT.of e1), h⟩
  | lst e1 n h => exact ⟨_, _, _, rfl, .inr rfl, .inl (SqL.of e1), h⟩
  | _ => cases e
/-! ### how large -/
mutual
def okD : PyData → Prop
  | .str z => z.length ≤ 1000 ∧ ∀ c ∈ z.cps.toList, c < 128
  | .list ds => ds.length ≤ 60 ∧ okAll ds
  | .tuple ds => ds.length ≤ 60 ∧ okAll ds
  | _ => True
def okAll : List PyData → Prop
  | [] => True
  | d :: ds => okD d ∧ okAll ds
end
theorem okAll.mem : ∀ {ds : List PyData}, okAll ds → ∀ d ∈ ds, okD d
  | d :: ds, h, x, hx => by
    rcases List.mem_cons.mp hx with rfl | hx
    · exact h.1
    · exact okAll.mem h.2 x hx
/-! ### integers, names, sources -/
abbrev sIsInt : Stmt := top 10
abbrev sIsName : Stmt := top 11
abbrev sIsSource : Stmt := top 12
abbrev sIsRow : Stmt := top 15
def abc : Str := "abcdefghijklmnopqrstuvwxyz"
def nameS (z : Str) : Bool := decide (1 ≤ z.length) && decide (z.length ≤ 8) && z.cps.toList.all fun c => decide (c ∈ abc.cps.toList)
def nameD : PyData → Bool
  | .str z => nameS z
  | _ => false
def emptyD : PyData → Bool
  | .str z => decide (z.length = 0)
  | _ => false
def sourceD (d : PyData) : Bool := nameD d || emptyD d
def intD (d : PyData) : Bool := isIntD d && !isBoolD d
theorem name_not {d : PyData} (h : isStrD d = false) : nameD d = false := by cases d <;> first | rfl | cases h
theorem empty_not {d : PyData} (h : isStrD d = false) : emptyD d = false := by cases d <;> first | rfl | cases h
theorem small_line {n : Nat} (h : n ≤ 1000) : n ≤ sizeLine := Nat.le_of_lt (small1000 h)
def spX (C : Addr) (g : PyData → Bool) : Sp := fun vs H Q _ => ∃ (b : Addr) (v : V) (d : PyData), vs = [v] ∧ Dx C H b v d ∧ okD d ∧ (∃ o, H b = some o) ∧ ∀ H', Same H H' → Q (.bl (g d)) H'
section
variable {P : Program} {w : World} {K : PySem.W.Frag} {mg : Str → Option Value} {base : Heap} {C : Addr}
theorem sc1 : FnScope ["thing"] ["thing"] (defScope sIsInt) := ⟨rfl, rfl, rfl, by decide +kernel, rfl, by decide +kernel, by decide +kernel⟩
theorem ok_isint {f : Addr} {fd : FuncData} (T : KFn K C) (F : Fun K "is_integer" "is_integer" sIsInt f fd) (mq : mg "isinstance" = none) (mi : mg "int" = none) (mb : mg "bool" = none) : FnOk P w K mg base CX0 1 f fd ["thing"] (spX C intD) := by
  refine F.ok sc1 (fun vs H Q E h => ?_) (fun cdv A outer s H vs Q E hr h => ?_)
  · obtain ⟨b, v, d, rfl, _⟩ := h
    rfl
  · obtain ⟨b, v, d, rfl, hd, _, _, q⟩ := h
    obtain ⟨t, I⟩ := hd.isa T
    refine ⟨_, pss_one (ps_ret (pe_and (pe_callB call_isi (by rfl) mq (by decide +kernel) (pa_cons (pv 0) (pa_cons (pe_bltn (v := .ty "int") (by rfl) mi boot_int rfl) pa_nil)))
      (pe_one (pe_not (pe_callB call_isi (by rfl) mq (by decide +kernel) (pa_cons (pv 0) (pa_cons (pe_bltn (v := .ty "bool") (by rfl) mb boot_bool rfl) pa_nil))))))), ?_⟩
    refine ⟨_, rfl, _, _, _, _, _, rfl, .ty "int", I.ty, I.i, _, rfl, ?_⟩
    have e : intD d = (isIntD d && !isBoolD d) := rfl
    rw [e] at q
    cases h1 : isIntD d with
    | false =>
      rw [h1] at q
      exact q H fun _ _ e => e
    | true =>
      rw [h1] at q
      exact ⟨_, rfl, _, _, _, _, _, rfl, .ty "bool", I.ty, I.b, _, rfl, q H fun _ _ e => e⟩
theorem sc2 : FnScope ["thing", "letter"] ["thing"] (defScope sIsName) := ⟨rfl, rfl, rfl, by decide +kernel, rfl, by decide +kernel, by decide +kernel⟩
theorem ok_isname {f : Addr} {fd : FuncData} {t u : Tok} (T : KFn K C) (F : Fun K "is_name" "is_name" sIsName f fd) (mq : mg "isinstance" = none) (ms : mg "str" = none) (ml : mg "len" = none) (ma : mg "all" = none)
    (mL : mg "LETTERS" = some (.str abc t)) (mN : mg "LONGEST_NAME" = some (.int 8 u)) : FnOk P w K mg base CX0 1 f fd ["thing"] (spX C nameD) := by
  refine F.ok sc2 (fun vs H Q E h => ?_) (fun cdv A outer s H vs Q E hr h => ?_)
  · obtain ⟨b, v, d, rfl, _⟩ := h
    rfl
  · obtain ⟨b, v, d, rfl, hd, hs, hb, q⟩ := h
    obtain ⟨t', I⟩ := hd.isa T
    refine ⟨_, pss_cons (ps_if (PW.pt (pw_or (pt_not (pt_val (pe_callB call_isi (by rfl) mq (by decide +kernel) (pa_cons (pv 0) (pa_cons (pe_bltn (v := .ty "str") (by rfl) ms boot_str rfl) pa_nil)))))
        (pw_or1 (pt_not (pt_chain op_le op_le pe_int (pe_callB call_len_str (by rfl) ml PySem.boot_len (pa_cons (pv 0) pa_nil)) (pe_glob (v := .int 8) (by rfl) mN ⟨_, rfl⟩))))))
        (pss_one (ps_ret pe_bl)) pss_nil)
      (pss_one (ps_ret (pe_callB (cr_all rfl) (by rfl) ma (by decide +kernel) (pa_cons
        (pe_lc (own := [("letter", 1)]) (g := gName 1) (tt := tYes) rfl sc2.nd (pi_str (pv 0)) (blkOk_by (N := ["thing", "letter"]) (sc := defScope sIsName) (by decide +kernel))
        (fun _ _ _ _ _ => pg_name (i := 1) sc2.nd rfl (Or.inl rfl)) (fun _ _ _ _ _ => pts_nil) (fun _ _ _ _ _ => pe_cmpR op_in_sign (pv 1) (pe_glob (v := .str abc) (by rfl) mL ⟨_, rfl⟩) (by rfl))) pa_nil)))), ?_⟩
    refine ⟨_, rfl, _, _, _, _, _, rfl, .ty "str", I.ty, I.s, _, rfl, ?_⟩
    cases h1 : isStrD d with
    | false =>
      rw [name_not h1] at q
      exact q H fun _ _ e => e
    | true =>
      obtain ⟨z, rfl, rfl⟩ := hd.str_of h1
      have hz : z.length ≤ sizeLine := small_line hs.1
      have e : nameD (.str z) = (decide (1 ≤ z.length) && decide (z.length ≤ 8) && z.cps.toList.all fun c => decide (c ∈ abc.cps.toList)) := rfl
      rw [e] at q
      refine ⟨_, rfl, z, rfl, hz, _, _, rfl, rfl, _, rfl, ?_⟩
      by_cases a1 : (1 : Int) ≤ (z.length : Int)
      · have b1 : decide (1 ≤ z.length) = true := decide_eq_true (by omega)
        rw [b1] at q
        rw [decide_eq_true a1]
        refine ⟨_, _, rfl, rfl, _, rfl, ?_⟩
        by_cases a2 : (z.length : Int) ≤ 8
        · have b2 : decide (z.length ≤ 8) = true := decide_eq_true (by omega)
          rw [b2] at q
          rw [decide_eq_true a2]
          refine iteF ?_
          refine ⟨_, rfl, z, rfl, fun D hD => ?_⟩
          refine lc_it walk_str (fun i H1 => Same H H1 ∧ H1 D = some (.lst ((z.cps.toList.take i).map fun c => V.bl (decide (c ∈ abc.cps.toList))))) ⟨same_upd hD, upd_same⟩ (fun _ _ _ _ => True.intro) ?_ ?_
          · rintro i x H1 H2 hi ⟨s1, e1⟩ ⟨rfl, c, hc, rfl⟩
            refine ⟨rfl, _, rfl, c, abc, rfl, rfl, _, e1, ?_, fun a o e => ?_, ?_⟩
            · rw [List.length_map, List.length_take]
              have : z.cps.toList.length = z.length := by simp [Str.length]
              exact small1000 (by have : z.length ≤ 1000 := hs.1; omega)
            · have : a ≠ D := ne_of_none e hD
              rw [upd_ne this]
              exact s1 a o e
            · have hc' : z.cps.toList[i]? = some c := by simpa using hc
              rw [upd_same, List.take_add_one, hc', List.map_append]
              rfl
          · rintro H1 ⟨s1, e1⟩
            have ez : z.cps.size = z.cps.toList.length := by simp
            rw [ez, List.take_length] at e1
            refine ⟨D, z.cps.toList.map fun c => decide (c ∈ abc.cps.toList), rfl, SqL.of (by rw [List.map_map]; exact e1), ?_⟩
            rw [List.all_map]
            exact q H1 s1
        · have b2 : decide (z.length ≤ 8) = false := decide_eq_false (by omega)
          rw [b2] at q
          rw [decide_eq_false a2]
          exact q H fun _ _ e => e
      · have b1 : decide (1 ≤ z.length) = false := decide_eq_false (by omega)
        rw [b1] at q
        rw [decide_eq_false a1]
        exact ⟨_, rfl, q H fun _ _ e => e⟩
theorem sc3 : FnScope ["thing"] ["thing"] (defScope sIsSource) := ⟨rfl, rfl, rfl, by decide +kernel, rfl, by decide +kernel, by decide +kernel⟩
theorem ok_issource {f f1 : Addr} {fd fd1 : FuncData} (T : KFn K C) (F : Fun K "is_source" "is_source" sIsSource f fd) (G : FnOk P w K mg base CX0 1 f1 fd1 ["thing"] (spX C nameD)) (b1 : Binds K fd1 ["thing"] []) (m1 : mg "is_name" = some (.ref f1)) (k1 : PySem.W.keepIn K (.ref f1) = true)
    (mq : mg "isinstance" = none) (ms : mg "str" = none) (ml : mg "len" = none) : FnOk P w K mg base CX0 2 f fd ["thing"] (spX C sourceD) := by
  refine F.ok sc3 (fun vs H Q E h => ?_) (fun cdv A outer s H vs Q E hr h => ?_)
  · obtain ⟨b, v, d, rfl, _⟩ := h
    rfl
  · obtain ⟨b, v, d, rfl, hd, hs, hb, q⟩ := h
    refine ⟨_, pss_one (ps_ret (pe_or (pe_call G hr (by rfl) m1 k1 b1 .nil pass0 (pa_cons (pv 0) pa_nil))
      (pe_one (pe_and (pe_callB call_isi (by rfl) mq (by decide +kernel) (pa_cons (pv 0) (pa_cons (pe_bltn (v := .ty "str") (by rfl) ms boot_str rfl) pa_nil)))
        (pe_one (pe_cmpR op_eq (pe_callB call_len_str (by rfl) ml PySem.boot_len (pa_cons (pv 0) pa_nil)) pe_int (nomark _))))))), ?_⟩
    refine ⟨_, rfl, b, v, d, rfl, hd, hs, hb, fun H1 s1 => ⟨_, rfl, ?_⟩⟩
    have e : sourceD d = (nameD d || emptyD d) := rfl
    rw [e] at q
    cases h0 : nameD d with
    | true =>
      rw [h0] at q
      exact q H1 s1
    | false =>
      rw [h0, Bool.false_or] at q
      have hd1 : Dx C H1 b v d := hd.mono fun a o _ e => s1 a o e
      obtain ⟨t', I⟩ := hd1.isa T
      refine iteF ⟨_, rfl, _, _, _, _, _, rfl, .ty "str", I.ty, I.s, _, rfl, ?_⟩
      cases h1 : isStrD d with
      | false =>
        rw [empty_not h1] at q
        exact q H1 s1
      | true =>
        obtain ⟨z, rfl, rfl⟩ := hd.str_of h1
        refine iteT ⟨_, rfl, z, rfl, small_line hs.1, rfl, ?_⟩
        have e2 : decide (V.int (z.length : Int) = V.int 0) = decide (z.length = 0) := by
          rw [Bool.eq_iff_iff]
          simp
        show Q (V.bl (decide (V.int (z.length : Int) = V.int 0))) H1
        rw [e2]
        exact q H1 s1
end
end Fv


set_option Elab.async false
set_option linter.all false
set_option maxRecDepth 100000
set_option maxHeartbeats 1000000
/-! rows: a list or a tuple, walked; parts of statements known -/
namespace L2
open PySem PySem.Spec PyProof.Rows
theorem SqL.same {K : PySem.W.Frag} {H H' : Hp} {a : Addr} {xs : List V} (s : ∀ c o, H c = some o → H' c = some o) (h : SqL K H a xs) : SqL K H' a xs := by
  rcases h with (h | ⟨o, h⟩) | h
  · exact .inl (.inl (s _ _ h))
  · exact .inl (.inr ⟨o, s _ _ h⟩)
  · exact .inr h
theorem SqT.same {K : PySem.W.Frag} {H H' : Hp} {a : Addr} {xs : List V} (s : ∀ c o, H c = some o → H' c = some o) (h : SqT K H a xs) : SqT K H' a xs := by
  rcases h with (h | ⟨o, h⟩) | h
  · exact .inl (.inl (s _ _ h))
  · exact .inl (.inr ⟨o, s _ _ h⟩)
  · exact .inr h
section
variable {X : Cx} {tg : Expr}
def iRow (K : PySem.W.Frag) (tl : TE) : TI := fun σ H R => tl σ H fun x H1 => ∃ a xs, x = .ref a ∧ (SqL K H1 a xs ∨ SqT K H1 a xs) ∧ ∀ J G, Walk J xs.length G (YAt xs) → (∀ H', (∀ c o, H1 c = some o → H' c = some o) → G H') → R J H1
/-- a name that holds a list or a tuple -/
theorem pi_row {l : Expr} {i : Nat} (hl : PE X l (tVar i)) : PI X tg l (iRow X.K (tVar i)) := by
  constructor
  intro pins s σ H R I h
  obtain ⟨v, e, a, xs, ev, hq, q⟩ := h
  rcases hq with hq | hq
  · exact (pi_list hl).run pins s σ H R I ⟨v, e, a, ev, ⟨xs, hq⟩, q _ _ walk_list fun H' s => hq.same s⟩
  · exact (pi_tup hl).run pins s σ H R I ⟨v, e, a, ev, ⟨xs, hq⟩, q _ _ walk_tup fun H' s => hq.same s⟩
end
end L2
namespace Fv
open PySem PySem.Spec PyProof.Rows L2
def pairD : PyData → Bool
  | .tuple [x, y] => sourceD x && intD y
  | _ => false
def tripD : PyData → Bool
  | .tuple [x, y, z] => nameD x && sourceD y && intD z
  | _ => false
def itemsD : PyData → List PyData
  | .tuple ds => ds
  | .list ds => ds
  | _ => []
def partsD (d : PyData) : Bool := rowD d && (itemsD d).all pairD
theorem pair_not {d : PyData} (h : isTupD d = false) : pairD d = false := by cases d <;> first | rfl | cases h
theorem trip_not {d : PyData} (h : isTupD d = false) : tripD d = false := by cases d <;> first | rfl | cases h
theorem pair_len {ds : List PyData} (h : ds.length ≠ 2) : pairD (.tuple ds) = false := by
  match ds, h with
  | [], _ => rfl
  | [_], _ => rfl
  | [_, _], h => exact absurd rfl h
  | _ :: _ :: _ :: _, _ => rfl
theorem trip_len {ds : List PyData} (h : ds.length ≠ 3) : tripD (.tuple ds) = false := by
  match ds, h with
  | [], _ => rfl
  | [_], _ => rfl
  | [_, _], _ => rfl
  | [_, _, _], h => exact absurd rfl h
  | _ :: _ :: _ :: _ :: _, _ => rfl
theorem len_of {n m : Nat} (e : ¬ ((!decide (V.int (n : Int) = V.int (m : Int))) = true)) : n = m := by
  rw [Bool.not_eq_true, Bool.not_eq_false'] at e
  have := V.int.inj (of_decide_eq_true e)
  omega
theorem DxAll.two {C : Addr} {H : Hp} {b : Addr} {x y : V} {ds : List PyData} (h : DxAll C H b [x, y] ds) : ∃ dx dy, ds = [dx, dy] ∧ Dx C H b x dx ∧ Dx C H b y dy := by
  cases h with
  | cons h1 h => cases h with
    | cons h2 h =>
      cases h
      exact ⟨_, _, rfl, h1, h2⟩
theorem DxAll.three {C : Addr} {H : Hp} {b : Addr} {x y z : V} {ds : List PyData} (h : DxAll C H b [x, y, z] ds) : ∃ dx dy dz, ds = [dx, dy, dz] ∧ Dx C H b x dx ∧ Dx C H b y dy ∧ Dx C H b z dz := by
  cases h with
  | cons h1 h => cases h with
    | cons h2 h => cases h with
      | cons h3 h =>
        cases h
        exact ⟨_, _, _, rfl, h1, h2, h3⟩
theorem two_of {xs : List V} (h : xs.length = 2) : ∃ x y, xs = [x, y] := by
  match xs, h with
  | [x, y], _ => exact ⟨x, y, rfl⟩
theorem three_of {xs : List V} (h : xs.length = 3) : ∃ x y z, xs = [x, y, z] := by
  match xs, h with
  | [x, y, z], _ => exact ⟨x, y, z, rfl⟩
section
variable {P : Program} {w : World} {K : PySem.W.Frag} {mg : Str → Option Value} {base : Heap} {C : Addr}
theorem sc5 : FnScope ["thing"] ["thing"] (defScope sIsRow) := ⟨rfl, rfl, rfl, by decide +kernel, rfl, by decide +kernel, by decide +kernel⟩
theorem ok_isrow {f : Addr} {fd : FuncData} (T : KFn K C) (F : Fun K "is_row" "is_row" sIsRow f fd) (mq : mg "isinstance" = none) (ml : mg "list" = none) (mt : mg "tuple" = none) : FnOk P w K mg base CX0 1 f fd ["thing"] (spX C rowD) := by
  refine F.ok sc5 (fun vs H Q E h => ?_) (fun cdv A outer s H vs Q E hr h => ?_)
  · obtain ⟨b, v, d, rfl, _⟩ := h
    rfl
  · obtain ⟨b, v, d, rfl, hd, _, _, q⟩ := h
    refine ⟨_, pss_one (ps_ret (pe_callB call_isiT (by rfl) mq (by decide +kernel) (pa_cons (pv 0) (pa_cons (pe_tup (pa_cons (pe_bltn (v := .ty "list") (by rfl) ml boot_list rfl) (pa_cons (pe_bltn (v := .ty "tuple") (by rfl) mt boot_tuple rfl) pa_nil))) pa_nil)))), ?_⟩
    refine ⟨_, rfl, by show 2 ≤ sizeLine; decide, fun p np => ?_⟩
    obtain ⟨t, I⟩ := (hd.mono fun a o _ e => same_upd (o := .tup [.ty "list", .ty "tuple"]) np a o e).isa T
    exact ⟨_, _, _, _, _, _, rfl, upd_same, .cons (.ty "list") (.cons (.ty "tuple") .nil), I.ty, kitAny_cons (r := rowD d) I.l (fun e => by
      refine kitAny_cons (r := rowD d) I.t (fun e2 => ?_) (fun e2 => ?_)
      · unfold rowD
        rw [e, e2]
        rfl
      · unfold rowD
        rw [e2, Bool.or_true]) (fun e => by
      unfold rowD
      rw [e]
      rfl), q _ (same_upd np)⟩
end
end Fv


set_option Elab.async false
set_option linter.all false
set_option maxRecDepth 100000
set_option maxHeartbeats 1000000
namespace Fv
open PySem PySem.Spec PyProof.Rows L2
theorem rows_items {d : PyData} {ds : List PyData} (h : d = .tuple ds ∨ d = .list ds) : itemsD d = ds := by rcases h with rfl | rfl <;> rfl
theorem rows_ok {d : PyData} {ds : List PyData} (h : d = .tuple ds ∨ d = .list ds) (k : okD d) : ds.length ≤ 60 ∧ okAll ds := by rcases h with rfl | rfl <;> exact k
theorem small60 {n : Nat} (h : n ≤ 60) : n < sizeLine := small1000 (by omega)
theorem take_map_snoc {α β : Type} {f : α → β} {xs : List α} {i : Nat} {x : α} (h : xs[i]? = some x) : (xs.take (i + 1)).map f = (xs.take i).map f ++ [f x] := by
  rw [List.take_add_one, h, List.map_append]
  rfl
section
variable {P : Program} {w : World} {K : PySem.W.Frag} {mg : Str → Option Value} {base : Heap} {C : Addr}
end
end Fv


set_option Elab.async false
set_option linter.all false
set_option maxRecDepth 100000
set_option maxHeartbeats 4000000
namespace Fv
open PySem PySem.Spec PyProof.Rows L2
abbrev sNames : Stmt := top 30
/-- letters a to z alone -/
def asc (z : Str) : Prop := ∀ c ∈ z.cps.toList, c ∈ abc.cps.toList
theorem toList_add (x y : Str) : (x ++ y).cps.toList = x.cps.toList ++ y.cps.toList := by
  show (x.cps ++ y.cps).toList = _
  simp
theorem asc_add {x y : Str} (h : asc x) (k : asc y) : asc (x ++ y) := by
  intro c hc
  rw [toList_add] at hc
  exact (List.mem_append.mp hc).elim (h c) (k c)
theorem asc_cut {z : Str} (h : asc z) (lo hi : Option Int) : asc (cutS z lo hi) := by
  intro c hc
  unfold cutS at hc
  have h1 := List.mem_of_mem_take (show c ∈ _ from by simpa using hc)
  exact h c (List.mem_of_mem_drop h1)
theorem asc_one {z : Str} (h : asc z) {i : Nat} {c : Nat} (e : z.cps.toList[i]? = some c) : asc ⟨#[c]⟩ := by
  intro x hx
  have : x = c := by simpa using hx
  rw [this]
  exact h c (List.mem_of_getElem? e)
theorem len_list (z : Str) : z.cps.toList.length = z.length := by simp [Str.length]
theorem abc_len : abc.length = 26 := by decide +kernel
theorem abc_asc : asc abc := fun _ h => h
theorem line300 {n : Nat} (h : n ≤ 300) : n ≤ sizeLine := Nat.le_trans h (by decide)
theorem cut_parts (z : Str) (k : Nat) : (cutS z none (some (k : Int))).length + (cutS z (some (k : Int)) none).length = z.length := by
  unfold cutS Str.length
  simp only [HT.sIx_none, HT.sIx_nat]
  simp
  omega
def NmOk (z : Str) : Prop := 1 ≤ z.length ∧ z.length ≤ 8 ∧ asc z
theorem NmOk.name {z : Str} (h : NmOk z) : nameS z = true := by
  unfold nameS
  rw [decide_eq_true h.1, decide_eq_true h.2.1]
  simp only [Bool.true_and, List.all_eq_true, decide_eq_true_eq]
  exact h.2.2
theorem nm_of {z : Str} (h : nameS z = true) : NmOk z := by
  unfold nameS at h
  simp only [Bool.and_eq_true, decide_eq_true_eq, List.all_eq_true] at h
  exact ⟨h.1.1, h.1.2, h.2⟩
theorem nz26 : (26 : Int) ≠ 0 := by decide
def one (c : Nat) : Str := ⟨#[c]⟩
theorem join_ones : ∀ cs : List Nat, Str.join "" (cs.map one) = ⟨cs.toArray⟩
  | [] => by decide +kernel
  | [c] => rfl
  | c :: d :: r => by
    have ih := join_ones (d :: r)
    show one c ++ "" ++ Str.join "" ((d :: r).map one) = _
    rw [ih]
    have e : ∀ x y : Str, x.cps.toList = y.cps.toList → x = y := by
      rintro ⟨x⟩ ⟨y⟩ h
      have : x = y := by simpa using h
      rw [this]
    apply e
    rw [toList_add, toList_add]
    have e0 : ("" : Str).cps.toList = [] := by decide +kernel
    rw [e0]
    simp [one]
theorem sum_ones : ∀ cs : List Nat, ((cs.map one).map (·.length)).sum = cs.length
  | [] => rfl
  | c :: r => by
    rw [List.map_cons, List.map_cons, List.sum_cons, sum_ones r]
    show 1 + r.length = r.length + 1
    omega
theorem cut_map {α : Type} (f : α → V) (xs : List α) (lo hi : Option Int) : cutV (xs.map f) lo hi = ((xs.drop (HT.sIx xs.length 0 lo)).take (HT.sIx xs.length xs.length hi - HT.sIx xs.length 0 lo)).map f := by
  unfold cutV
  rw [List.length_map, ← List.map_drop, ← List.map_take]
theorem tops (WS : List Str) (t m : Nat) (hm : m ≤ WS.length) : ∃ zs : List Str, cutV (cutV (WS.map V.str) (some (t : Int)) none ++ cutV (WS.map V.str) none (some (t : Int))) none (some (m : Int)) = zs.map V.str ∧ zs.length = m ∧ (∀ z ∈ zs, z ∈ WS) ∧ (WS.Nodup → zs.Nodup) := by
  rw [cut_map, cut_map, ← List.map_append, cut_map]
  refine ⟨_, rfl, ?_, ?_, ?_⟩
  · simp only [HT.sIx_none, HT.sIx_nat, List.length_take, List.length_drop, List.length_append, List.drop_zero, Nat.sub_zero]
    omega
  · intro z hz
    have h1 := List.mem_of_mem_drop (List.mem_of_mem_take hz)
    rcases List.mem_append.mp h1 with q | q
    · exact List.mem_of_mem_drop (List.mem_of_mem_take q)
    · exact List.mem_of_mem_drop (List.mem_of_mem_take q)
  · intro nd
    refine List.Nodup.sublist ((List.take_sublist _ _).trans (List.drop_sublist _ _)) ?_
    simp only [HT.sIx_none, HT.sIx_nat, List.drop_zero, Nat.sub_zero]
    refine List.nodup_append.mpr ⟨nd.sublist ((List.take_sublist _ _).trans (List.drop_sublist _ _)), nd.sublist (List.take_sublist _ _), ?_⟩
    intro a ha b hb e
    subst e
    have h1 := List.mem_of_mem_take ha
    have nd2 := nd
    rw [← List.take_append_drop (min t WS.length) WS, List.nodup_append] at nd2
    exact nd2.2.2 a hb a h1 rfl
/-- the letters of one draw are unlike -/
def ltr (t j : Nat) : Nat := abc.cps.toList.getD ((t + 3 * j) % 26) 0
theorem ltr_inj : ∀ t : Nat, t < 20 → ∀ i : Nat, i < 20 → ∀ j : Nat, j < 20 → ltr t i = ltr t j → i = j := by decide +kernel
theorem append_mid {x z : Str} {a b : Nat} (h : x ++ ⟨#[a]⟩ ++ z = x ++ ⟨#[b]⟩ ++ z) : a = b := by
  have e := congrArg (fun s : Str => s.cps.toList) h
  simp only [toList_add] at e
  have e2 := List.append_cancel_right e
  have e3 := List.append_cancel_left e2
  simpa using e3
theorem nodup_of {α : Type} (f : Nat → α) (n : Nat) (h : ∀ i, i < n → ∀ j, j < n → f i = f j → i = j) : ((List.range n).map f).Nodup := by
  induction n with
  | zero => simp
  | succ n ih =>
    rw [List.range_succ, List.map_append, List.nodup_append]
    refine ⟨ih (fun i hi j hj => h i (by omega) j (by omega)), by simp, ?_⟩
    intro a ha b hb e
    obtain ⟨i, hi, rfl⟩ := List.mem_map.1 ha
    have hi := List.mem_range.1 hi
    simp only [List.map_cons, List.map_nil, List.mem_singleton] at hb
    subst hb
    have := h i (by omega) n (by omega) e
    omega
theorem ltr_at {t i r : Nat} (er : ((t : Int) + 3 * (0 + (i : Int))).fmod 26 = (r : Int)) (hl : r < abc.cps.toList.length) : abc.cps.toList[r] = ltr t i := by
  have e : (t + 3 * i) % 26 = r := by
    have h : ((t : Int) + 3 * (0 + (i : Int))).fmod 26 = ((t : Int) + 3 * (0 + (i : Int))) % 26 := Int.fmod_eq_emod_of_nonneg _ (by omega)
    omega
  unfold ltr
  rw [e, List.getD_eq_getElem?_getD, List.getElem?_eq_getElem hl]
  rfl
/-- not both of two strange names -/
def ZQ (zs : List Str) : Prop := (("zzzzzzzz" : Str) ∈ zs → ("qqqqqqqq" : Str) ∈ zs → False) ∧ (("yyyyyyyy" : Str) ∈ zs → ("rrrrrrrr" : Str) ∈ zs → False) ∧ (("yyyyyyyy" : Str) ∈ zs → ("qqqqqqqq" : Str) ∈ zs → False)
theorem zq_mid {a b x y : Str} {p q c d : Nat} (ha : ∀ c ∈ a.cps.toList, c = p) (hb : ∀ c ∈ b.cps.toList, c = q) (npq : p ≠ q) (hx : 1 ≤ x.length + y.length) (h1 : a = x ++ ⟨#[c]⟩ ++ y) (h2 : b = x ++ ⟨#[d]⟩ ++ y) : False := by
  have e1 := congrArg (fun s : Str => s.cps.toList) h1
  have e2 := congrArg (fun s : Str => s.cps.toList) h2
  simp only [toList_add] at e1 e2
  obtain ⟨u, hu⟩ : ∃ u, u ∈ x.cps.toList ++ y.cps.toList := by
    rw [← len_list, ← len_list, ← List.length_append] at hx
    exact List.exists_mem_of_length_pos hx
  have i1 : ∀ e : Nat, u ∈ x.cps.toList ++ [e] ++ y.cps.toList := fun e => by
    rcases List.mem_append.mp hu with h | h
    · exact List.mem_append_left _ (List.mem_append_left _ h)
    · exact List.mem_append_right _ h
  have k1 := ha u (by rw [e1]; exact i1 c)
  have k2 := hb u (by rw [e2]; exact i1 d)
  exact npq (k1.symm.trans k2)
def spNames : Sp := fun vs H Q _ => ∃ (b : Addr) (m : Nat), vs = [.ref b, .int m] ∧ Bag H b ∧ m ≤ 20 ∧ ∀ (p : Addr) (zs : List Str) (H' : Hp), H' p = some (.lst (zs.map V.str)) → zs.length = m → p ≠ b → (∀ z ∈ zs, NmOk z) → zs.Nodup → ZQ zs → Bag H' b → Keep b H H' → (∀ c, BagAt H b c → BagAt H' b c) → Q (.ref p) H'
section
variable {P : Program} {w : World} {K : PySem.W.Frag} {mg : Str → Option Value} {base : Heap}
abbrev nN : List Str := ["_law_bag_here", "_law_many", "_law_letters", "_law_words", "_law_style", "_law_turn", "_law_base", "_law_at", "_law_k"]
theorem scN : FnScope nN ["_law_bag_here", "_law_many"] (defScope sNames) := ⟨rfl, rfl, rfl, by decide +kernel, rfl, by decide +kernel, by decide +kernel⟩
theorem ok_names {f fT : Addr} {fd fdT : FuncData} (F : Fun K "_law_names" "_law_names" sNames f fd) (GT : FnOk P w K mg base CX0 1 fT fdT ["_law_bag_here", "_law_many"] spTake) (bT : Binds K fdT ["_law_bag_here", "_law_many"] []) (mT : mg "_law_take" = some (.ref fT)) (kT : PySem.W.keepIn K (.ref fT) = true)
    (mr : mg "range" = none) (ml : mg "len" = none) (mi : mg "int" = none) : FnOk P w K mg base CX0 3 f fd ["_law_bag_here", "_law_many"] spNames := by
  refine F.ok scN (fun vs H Q E h => ?_) (fun cdv A outer s H vs Q E hr h => ?_)
  · obtain ⟨b, m, rfl, _⟩ := h
    rfl
  · obtain ⟨b, m, rfl, B, m2, q⟩ := h
    have hr1 : Room 1 _ := hr.mono (by decide)
    refine ⟨_, pss_cons (ps_set (i := 2) scN.nd rfl (.inr rfl) pe_str)
      (pss_cons (ps_set (i := 3) scN.nd rfl (.inl rfl) pe_str)
      (pss_cons (ps_set (i := 3) scN.nd rfl (.inl rfl) (pe_split (pe_op op_add_str (pv 3) pe_str) pe_str))
      (pss_cons (ps_asg (pe_tup (pa_cons (pe_call GT hr1 (by rfl) mT kT bT .nil pass0 (pa_cons (pv 0) (pa_cons pe_int pa_nil))) (pa_cons (pe_call GT hr1 (by rfl) mT kT bT .nil pass0 (pa_cons (pv 0) (pa_cons pe_int pa_nil))) pa_nil)))
          (pg_tup (by rfl) (pgs_cons (pg_name (i := 4) scN.nd rfl (.inl rfl)) (pgs_cons (pg_name (i := 5) scN.nd rfl (.inr rfl)) pgs_nil))))
      (pss_cons (ps_set (i := 6) scN.nd rfl (.inr rfl) (pe_join pe_str
          (pe_lc (own := [("_law_k", 8)]) (g := gName 8) (tt := tYes) rfl scN.nd (pi_range1 (by rfl) mr (pa_cons (pe_op op_add pe_int (pe_call GT hr1 (by rfl) mT kT bT .nil pass0 (pa_cons (pv 0) (pa_cons pe_int pa_nil)))) pa_nil)) (blkOk_by (N := nN) (sc := defScope sNames) (by decide +kernel))
            (fun _ _ _ _ _ => pg_name (i := 8) scN.nd rfl (Or.inl rfl)) (fun _ _ _ _ _ => pts_nil) (fun _ _ _ _ _ => pe_ix ix_str (pv 2) (pe_call GT hr1 (by rfl) mT kT bT .nil pass0 (pa_cons (pv 0) (pa_cons pe_int pa_nil))) (fun _ _ => rfl)))))
      (pss_cons (ps_set (i := 7) scN.nd rfl (.inr rfl) (pe_call GT hr1 (by rfl) mT kT bT .nil pass0 (pa_cons (pv 0) (pa_cons (pe_op op_add (pe_callB call_len_str (by rfl) ml PySem.boot_len (pa_cons (pv 6) pa_nil)) pe_int) pa_nil))))
      (pss_cons (ps_if (pt_cmpR op_eq (pv 4) pe_int (nomark _))
        (pss_one (ps_ret (pe_slice sl_list (pe_op op_cat (pe_slice sl_list (pv 3) (po_some (pv 5)) po_none) (pe_slice sl_list (pv 3) po_none (po_some (pv 5)))) po_none (po_some (pv 1))))) pss_nil)
      (pss_cons (ps_if (pt_cmpR op_eq (pv 4) pe_int (nomark _))
        (pss_one (ps_ret (pe_lc (own := [("_law_k", 8)]) (g := gName 8) (tt := tYes) rfl scN.nd (pi_range1 (by rfl) mr (pa_cons (pv 1) pa_nil)) (blkOk_by (N := nN) (sc := defScope sNames) (by decide +kernel))
            (fun _ _ _ _ _ => pg_name (i := 8) scN.nd rfl (Or.inl rfl)) (fun _ _ _ _ _ => pts_nil) (fun _ _ _ _ _ => pe_ix ix_str (pv 2) (pe_op op_modN (pe_callTy call_int1 (by rfl) mi (by decide +kernel) (pa_cons (pe_op op_add (pv 5) (pe_op op_mul pe_int (pv 8))) pa_nil)) pe_int) (fun _ _ => rfl))))) pss_nil)
      (pss_one (ps_ret (pe_lc (own := [("_law_k", 8)]) (g := gName 8) (tt := tYes) rfl scN.nd (pi_range1 (by rfl) mr (pa_cons (pv 1) pa_nil)) (blkOk_by (N := nN) (sc := defScope sNames) (by decide +kernel))
            (fun _ _ _ _ _ => pg_name (i := 8) scN.nd rfl (Or.inl rfl)) (fun _ _ _ _ _ => pts_nil) (fun _ _ _ _ _ => pe_op op_add_str (pe_op op_add_str (pe_slice sl_str (pv 6) po_none (po_some (pv 7))) (pe_ix ix_str (pv 2) (pe_op op_modN (pe_callTy call_int1 (by rfl) mi (by decide +kernel) (pa_cons (pe_op op_add (pv 5) (pe_op op_mul pe_int (pv 8))) pa_nil)) pe_int) (fun _ _ => rfl)))
              (pe_slice sl_str (pv 6) (po_some (pv 7)) po_none)))))))))))), ?_⟩
    refine asgC (asgC ?_)
    refine ⟨_, rfl, _, _, rfl, rfl, by decide +kernel, ⟨_, rfl⟩, _, _, rfl, rfl, by decide +kernel, by decide +kernel, fun pw npw => ?_⟩
    dsimp only
    generalize eW : Txt.split _ _ = WS
    have lW : WS.length = 25 := by
      rw [← eW]
      decide +kernel
    have dW : WS.Nodup := by
      rw [← eW]
      decide +kernel
    have zW : ("zzzzzzzz" : Str) ∉ WS := by
      rw [← eW]
      decide +kernel
    have yW : ("yyyyyyyy" : Str) ∉ WS := by
      rw [← eW]
      decide +kernel
    have nW : ∀ z ∈ WS, NmOk z := by
      rw [← eW]
      exact fun z hz => nm_of (List.all_eq_true.mp (by decide +kernel) z hz)
    have B1 := B.new (o := .lst (WS.map V.str)) npw
    have pwb : pw ≠ b := by
      obtain ⟨o, e⟩ := B.at_b
      exact (ne_of_none e npw).symm
    refine ⟨_, rfl, b, 4, rfl, B1, by decide, by decide, fun st H2 h2 B2 k2 g2 => ?_⟩
    refine ⟨_, rfl, b, 20, rfl, B2, by decide, by decide, fun tu H3 h3 B3 k3 g3 => ?_⟩
    refine ⟨by show 2 ≤ sizeLine; decide, fun t nt => ⟨t, _, rfl, SqT.of upd_same, rfl, _, _, rfl, _, _, rfl, rfl, ?_⟩⟩
    have B4 := B3.new (o := .tup [.int st, .int tu]) nt
    have k04 : Keep b H (upd H3 t (.tup [.int st, .int tu])) := (((Keep.new npw).trans k2).trans k3).trans (Keep.new nt)
    have ew4 : (upd H3 t (.tup [.int st, .int tu])) pw = some (.lst (WS.map V.str)) := by
      have e := k3 _ _ pwb (k2 _ _ pwb upd_same)
      rw [upd_ne (ne_of_none e nt)]
      exact e
    refine ⟨⟨_, rfl⟩, _, rfl, b, 7, rfl, B4, by decide, by decide, fun n7 H5 h5 B5 k5 g5 => ?_⟩
    have k05 := k04.trans k5
    have ew5 := k5 _ _ pwb ew4
    refine ⟨_, _, rfl, rfl, 1 + (n7 : Int), rfl, by omega, by omega, fun D hD => ?_⟩
    obtain ⟨c0, Bc0⟩ : ∃ c, BagAt H b c := B
    have B5c : BagAt H5 b c0 := g5 _ ((g3 _ (g2 _ (Bc0.new npw).1)).new nt).1
    obtain ⟨B5n, Db, Dc⟩ := BagAt.new (o := .lst []) B5c hD
    have Dw : D ≠ pw := (ne_of_none ew5 hD).symm
    have free : ∀ a o, H a = some o → a ≠ b → a ≠ D := fun a o e n => ne_of_none (k05 a o n e) hD
    refine lc_range (lo := 0) (n := (1 + (n7 : Int)).toNat) (fun i H' => BagAt H' b c0 ∧ Keep b H H' ∧ H' pw = some (.lst (WS.map V.str)) ∧ ∃ cs : List Nat, cs.length = i ∧ (∀ c ∈ cs, c ∈ abc.cps.toList) ∧ H' D = some (.lst ((cs.map one).map V.str)))
      ⟨B5n, k05.trans (Keep.new hD), by rw [upd_ne Dw.symm]; exact ew5, [], rfl, fun _ h => absurd h List.not_mem_nil, upd_same⟩ ?_ ?_
    · rintro i H' hi ⟨B', k', ew', cs, cl, ca, eD⟩
      refine ⟨rfl, _, rfl, _, rfl, b, 26, rfl, B'.bag, by decide, by decide, fun r H6 h6 B6 k6 g6 => ?_⟩
      have hl : r < abc.cps.toList.length := by rw [len_list, abc_len]; omega
      have ec := List.getElem?_eq_getElem hl
      refine ⟨abc, r, _, rfl, rfl, line300 (by rw [abc_len]; decide), atI_nat ec, _, k6 _ _ Db eD, ?_, (g6 _ B').put Db Dc, fun a o n e => ?_, ?_, cs ++ [abc.cps.toList[r]], by simp [cl], ?_, ?_⟩
      · rw [List.length_map, List.length_map]
        exact small1000 (by omega)
      · rw [upd_ne (free a o e n)]
        exact k6 a o n (k' a o n e)
      · rw [upd_ne Dw.symm]
        exact k6 _ _ pwb ew'
      · intro c hc
        rcases List.mem_append.mp hc with z | z
        · exact ca c z
        · rw [List.mem_singleton.mp z]
          exact abc_asc _ (List.getElem_mem hl)
      · rw [upd_same, List.map_append, List.map_append]
        rfl
    · rintro H6 ⟨B6, k6, ew6, cs, cl, ca, eD⟩
      have cl8 : cs.length ≤ 7 := by omega
      refine ⟨_, D, cs.map one, rfl, rfl, .inl (SqL.of eD), ?_, ?_⟩
      · rw [sum_ones, List.length_map]
        have e0 : ("" : Str).length = 0 := by decide +kernel
        rw [e0]
        omega
      rw [TL.join_eq, join_ones]
      obtain ⟨bs, ebs⟩ : ∃ bs : Str, bs = ⟨cs.toArray⟩ := ⟨_, rfl⟩
      have bl : bs.length = cs.length := by rw [ebs]; simp [Str.length]
      have ba : asc bs := by
        rw [ebs]
        intro c hc
        exact ca c (by simpa using hc)
      rw [← ebs]
      refine ⟨_, rfl, _, rfl, bs, rfl, line300 (by omega), _, _, rfl, rfl, b, (bs.length : Int) + 1, rfl, B6.bag, by omega, by omega, fun at_ H7 h7 B7 k7 g7 => ?_⟩
      have k07 := k6.trans k7
      have ew7 := k7 _ _ pwb ew6
      have B7c := g7 _ B6
      refine ⟨_, rfl, rfl, _, rfl, ite2 (fun e => ?_) (fun e => ?_)⟩
      · refine ⟨_, rfl, _, rfl, _, rfl, pw, _, rfl, SqL.of ew7, fun x1 n1 => ?_⟩
        have x1w : pw ≠ x1 := ne_of_none ew7 n1
        refine ⟨_, rfl, _, rfl, _, rfl, pw, _, rfl, SqL.of (by rw [upd_ne x1w]; exact ew7), fun x2 n2 => ?_⟩
        have x12 : x1 ≠ x2 := ne_of_none upd_same n2
        refine ⟨x1, x2, _, _, rfl, rfl, by rw [upd_ne x12]; exact upd_same, upd_same, ?_, fun x3 n3 => ?_⟩
        · rw [cut_map, cut_map, List.length_map, List.length_map, List.length_take, List.length_take, List.length_drop, List.length_drop]
          simp only [HT.sIx_none, HT.sIx_nat]
          exact line300 (by omega)
        refine ⟨_, rfl, _, rfl, x3, _, rfl, SqL.of upd_same, fun x4 n4 => ?_⟩
        obtain ⟨zs, ez, zl, zm, zn⟩ := tops WS tu m (by omega)
        rw [ez]
        have K3 := (((Keep.new (b := b) (o := .lst (cutV (WS.map V.str) (some (tu : Int)) none)) n1).trans (Keep.new n2)).trans (Keep.new n3)).trans (Keep.new (o := .lst (zs.map V.str)) n4)
        obtain ⟨C1, _⟩ := B7c.new n1
        obtain ⟨C2, _⟩ := C1.new n2
        obtain ⟨C3, _⟩ := C2.new n3
        obtain ⟨C4, y1, _⟩ := C3.new (o := .lst (zs.map V.str)) n4
        exact q x4 zs _ upd_same zl y1 (fun z h => nW z (zm z h)) (zn dW) ⟨fun h _ => zW (zm _ h), fun h _ => yW (zm _ h), fun h _ => yW (zm _ h)⟩ C4.bag (k07.trans K3) (fun c hc => by rw [BagAt.uniq Bc0 hc]; exact C4)
      · refine ⟨_, rfl, rfl, _, rfl, ite2 (fun e => ?_) (fun e => ?_)⟩
        · refine ⟨_, rfl, _, rfl, by omega, by omega, fun G hG => ?_⟩
          obtain ⟨C7, Gb, Gc⟩ := BagAt.new (o := .lst []) B7c hG
          have free2 : ∀ a o, H a = some o → a ≠ b → a ≠ G := fun a o e n => ne_of_none (k07 a o n e) hG
          refine lc_range (lo := 0) (n := ((m : Int)).toNat) (fun i H' => BagAt H' b c0 ∧ Keep b H H' ∧ ∃ zs : List Str, zs.length = i ∧ (∀ z ∈ zs, NmOk z) ∧ zs = (List.range i).map (fun j => one (ltr tu j)) ∧ H' G = some (.lst (zs.map V.str)))
            ⟨C7, k07.trans (Keep.new hG), [], rfl, fun _ h => absurd h List.not_mem_nil, rfl, upd_same⟩ ?_ ?_
          · rintro i H' hi ⟨B', k', zs, zl, zo, zr, eG⟩
            obtain ⟨r, er, r1⟩ := modN (a := (tu : Int) + 3 * (0 + (i : Int))) (m := 26) (by omega) (by decide)
            have hl : r < abc.cps.toList.length := by rw [len_list, abc_len]; omega
            have ec := List.getElem?_eq_getElem hl
            have el := ltr_at er hl
            refine ⟨rfl, _, rfl, _, rfl, _, rfl, _, _, rfl, rfl, .inl ⟨by decide, by decide⟩, _, _, rfl, rfl, .inl ⟨_, rfl, _, _, rfl, rfl, nz26, abc, _, _, rfl, rfl, line300 (by rw [abc_len]; decide), by rw [er]; exact atI_nat ec, ?_⟩⟩
            refine ⟨_, eG, ?_, B'.put Gb Gc, fun a o n e => ?_, zs ++ [one (abc.cps.toList[r])], by simp [zl], ?_, ?_, ?_⟩
            · rw [List.length_map]
              exact small1000 (by omega)
            · rw [upd_ne (free2 a o e n)]
              exact k' a o n e
            · intro z hz
              rcases List.mem_append.mp hz with y | y
              · exact zo z y
              · rw [List.mem_singleton.mp y]
                exact ⟨by show 1 ≤ 1; decide, by show 1 ≤ 8; decide, asc_one abc_asc ec⟩
            · rw [zr, List.range_succ, List.map_append, el]
              rfl
            · rw [upd_same, List.map_append]
              rfl
          · rintro H8 ⟨B8, k8, zs, zl, zo, zr, eG⟩
            refine q G zs H8 eG (by omega) Gb zo ?_ ?_ B8.bag k8 (fun c hc => by rw [BagAt.uniq Bc0 hc]; exact B8)
            · rw [zr]
              exact nodup_of _ _ fun i hi j hj e => ltr_inj tu (by omega) i (by omega) j (by omega) (by simpa [one] using e)
            · refine ⟨?_, ?_, ?_⟩
              · intro hz _
                rw [zr] at hz
                obtain ⟨j, _, e⟩ := List.mem_map.mp hz
                have := congrArg Str.length e
                exact absurd this (by show ¬ (1 = Str.length "zzzzzzzz"); decide +kernel)
              · intro hz _
                rw [zr] at hz
                obtain ⟨j, _, e⟩ := List.mem_map.mp hz
                have := congrArg Str.length e
                exact absurd this (by show ¬ (1 = Str.length "yyyyyyyy"); decide +kernel)
              · intro hz _
                rw [zr] at hz
                obtain ⟨j, _, e⟩ := List.mem_map.mp hz
                have := congrArg Str.length e
                exact absurd this (by show ¬ (1 = Str.length "yyyyyyyy"); decide +kernel)
        · refine ⟨_, rfl, _, rfl, by omega, by omega, fun G hG => ?_⟩
          obtain ⟨C7, Gb, Gc⟩ := BagAt.new (o := .lst []) B7c hG
          have free2 : ∀ a o, H a = some o → a ≠ b → a ≠ G := fun a o e n => ne_of_none (k07 a o n e) hG
          refine lc_range (lo := 0) (n := ((m : Int)).toNat) (fun i H' => BagAt H' b c0 ∧ Keep b H H' ∧ ∃ zs : List Str, zs.length = i ∧ (∀ z ∈ zs, NmOk z) ∧ zs = (List.range i).map (fun j => cutS bs none (some (at_ : Int)) ++ ⟨#[ltr tu j]⟩ ++ cutS bs (some (at_ : Int)) none) ∧ H' G = some (.lst (zs.map V.str)))
            ⟨C7, k07.trans (Keep.new hG), [], rfl, fun _ h => absurd h List.not_mem_nil, rfl, upd_same⟩ ?_ ?_
          · rintro i H' hi ⟨B', k', zs, zl, zo, zr, eG⟩
            obtain ⟨r, er, r1⟩ := modN (a := (tu : Int) + 3 * (0 + (i : Int))) (m := 26) (by omega) (by decide)
            have hl : r < abc.cps.toList.length := by rw [len_list, abc_len]; omega
            have ec := List.getElem?_eq_getElem hl
            have el := ltr_at er hl
            have l1 : (⟨#[abc.cps.toList[r]]⟩ : Str).length = 1 := rfl
            have c1 := cutS_length bs none (some (at_ : Int))
            have c2 := cutS_length bs (some (at_ : Int)) none
            refine ⟨rfl, _, rfl, _, rfl, _, rfl, bs, rfl, line300 (by omega), ?_⟩
            refine ⟨_, rfl, _, rfl, _, rfl, _, _, rfl, rfl, .inl ⟨by decide, by decide⟩, _, _, rfl, rfl, .inl ⟨_, rfl, _, _, rfl, rfl, nz26, abc, _, _, rfl, rfl, line300 (by rw [abc_len]; decide), by rw [er]; exact atI_nat ec, ?_⟩⟩
            refine ⟨_, _, rfl, rfl, line300 (by rw [l1]; omega), _, rfl, _, rfl, _, rfl, bs, rfl, line300 (by omega), _, _, rfl, rfl, line300 (by rw [strLen_append, l1]; omega), ?_⟩
            refine ⟨_, eG, ?_, B'.put Gb Gc, fun a o n e => ?_, zs ++ [cutS bs none (some (at_ : Int)) ++ ⟨#[abc.cps.toList[r]]⟩ ++ cutS bs (some (at_ : Int)) none], by simp [zl], ?_, ?_, ?_⟩
            · rw [List.length_map]
              exact small1000 (by omega)
            · rw [upd_ne (free2 a o e n)]
              exact k' a o n e
            · intro z hz
              rcases List.mem_append.mp hz with y | y
              · exact zo z y
              · rw [List.mem_singleton.mp y]
                have cp := cut_parts bs at_
                exact ⟨by rw [strLen_append, strLen_append, l1]; omega, by rw [strLen_append, strLen_append, l1]; omega, asc_add (asc_add (asc_cut ba _ _) (asc_one abc_asc ec)) (asc_cut ba _ _)⟩
            · rw [zr, List.range_succ, List.map_append, el]
              rfl
            · rw [upd_same, List.map_append]
              rfl
          · rintro H8 ⟨B8, k8, zs, zl, zo, zr, eG⟩
            refine q G zs H8 eG (by omega) Gb zo ?_ ?_ B8.bag k8 (fun c hc => by rw [BagAt.uniq Bc0 hc]; exact B8)
            · rw [zr]
              exact nodup_of _ _ fun i hi j hj e => ltr_inj tu (by omega) i (by omega) j (by omega) (append_mid e)
            · have cp := cut_parts bs at_
              refine ⟨?_, ?_, ?_⟩
              · intro h1 h2
                rw [zr] at h1 h2
                obtain ⟨j1, _, e1⟩ := List.mem_map.mp h1
                obtain ⟨j2, _, e2⟩ := List.mem_map.mp h2
                exact zq_mid (p := 122) (q := 113) (by decide +kernel) (by decide +kernel) (by decide) (by omega) e1.symm e2.symm
              · intro h1 h2
                rw [zr] at h1 h2
                obtain ⟨j1, _, e1⟩ := List.mem_map.mp h1
                obtain ⟨j2, _, e2⟩ := List.mem_map.mp h2
                exact zq_mid (p := 121) (q := 114) (by decide +kernel) (by decide +kernel) (by decide) (by omega) e1.symm e2.symm
              · intro h1 h2
                rw [zr] at h1 h2
                obtain ⟨j1, _, e1⟩ := List.mem_map.mp h1
                obtain ⟨j2, _, e2⟩ := List.mem_map.mp h2
                exact zq_mid (p := 121) (q := 113) (by decide +kernel) (by decide +kernel) (by decide) (by omega) e1.symm e2.symm
end
end Fv


set_option Elab.async false
set_option linter.all false
set_option maxRecDepth 100000
set_option maxHeartbeats 4000000
namespace Fv
open PySem PySem.Spec PyProof.Rows L2
def strS : PyData → Str
  | .str z => z
  | _ => ""
def namesD (d : PyData) : Bool := rowD d && (itemsD d).all nameD && decide ((itemsD d).map strS).Nodup
theorem int_len {n m : Nat} : decide (V.int (n : Int) = V.int (m : Int)) = decide (n = m) := by
  rw [Bool.eq_iff_iff]
  simp
  omega
theorem str_dec {x y : Str} : decide (V.str x = V.str y) = decide (x = y) := by
  rw [Bool.eq_iff_iff]
  simp
theorem name_str {d : PyData} (h : nameD d = true) : ∃ z, d = .str z := by
  cases d <;> first | exact ⟨_, rfl⟩ | cases h
/-- numbers that are drawn, few parts -/
theorem okAll.snoc {d : PyData} (h : okD d) : ∀ {ds : List PyData}, okAll ds → okAll (ds ++ [d])
  | [], _ => ⟨h, True.intro⟩
  | _ :: _, g => ⟨g.1, okAll.snoc h g.2⟩
theorem abc_small : ∀ c ∈ abc.cps.toList, c < 128 := by decide +kernel
theorem NmOk.ok {z : Str} (h : NmOk z) : okD (.str z) := ⟨by have := h.2.1; omega, fun c hc => abc_small c (h.2.2 c hc)⟩
theorem src_ok {y : Str} (h : y = "" ∨ NmOk y) : okD (.str y) := by
  rcases h with rfl | h
  · exact ⟨by decide, by decide⟩
  · exact h.ok
theorem src_name {y : Str} (h : y = "" ∨ NmOk y) : sourceD (.str y) = true := by
  rcases h with rfl | hy
  · rfl
  · show (nameS y || _) = true
    rw [hy.name]
    rfl
theorem strs_perm {ms : List V} {ys : List Str} (h : ms.Perm (ys.map V.str)) : ∃ zs : List Str, ms = zs.map V.str ∧ zs.Perm ys := by
  let f : V → Str := fun v => match v with | .str z => z | _ => ""
  refine ⟨ms.map f, ?_, ?_⟩
  · rw [List.map_map]
    conv => lhs; rw [← List.map_id ms]
    refine List.map_congr_left fun v hv => ?_
    obtain ⟨z, _, rfl⟩ := List.mem_map.mp (h.mem_iff.mp hv)
    rfl
  · have := h.map f
    rw [List.map_map] at this
    have e : ys.map (f ∘ V.str) = ys := by
      conv => rhs; rw [← List.map_id ys]
      exact List.map_congr_left fun _ _ => rfl
    rwa [e] at this
section
variable {P : Program} {w : World} {K : PySem.W.Frag} {mg : Str → Option Value} {base : Heap}
end
end Fv


set_option Elab.async false
set_option linter.all false
set_option maxRecDepth 100000
set_option maxHeartbeats 2000000
/-! sets of texts: the comprehension, len, sorted -/
namespace Fv
open PySem PySem.Spec PyProof.Rows L2
def txtOf (e : Int × Value) : Str := match e.2 with | .str k _ => k | _ => ""
def TxE (P : Program) (w : World) (e : Int × Value) : Prop := ∃ k tk, e.2 = Value.str k tk ∧ e.1 = (strKind P w).hash k
/-- the set of the texts L at a; its table can be walked -/
structure TxS (P : Program) (w : World) (h : Heap) (a : Addr) (L : List Str) (o : Obj) (es : Array (Int × Value)) (ep : Nat) (t : SetTable) : Prop where
  get : h.get? a = some o
  ex : o.ExactSet
  data : o.data = .set es ep t
  good : ∀ e ∈ es.toList, TxE P w e
  perm : (es.toList.map txtOf).Perm L
  nodup : L.Nodup
  few : es.size < scanBound
  fit : t.fits es.size = true
  ris : Ris t.place.toList
  led : w.params.followText "set-order" = true ∨ t.led = true
def TxtS (P : Program) (w : World) (h : Heap) (a : Addr) (L : List Str) : Prop := ∃ o es ep t, TxS P w h a L o es ep t
def insL (L : List Str) (k : Str) : List Str := if k ∈ L then L else L ++ [k]
section
variable {P : Program} {w : World}
theorem TxE.is {e : Int × Value} (g : TxE P w e) (k : Str) : (strKind P w).is k e.2 = true ↔ txtOf e = k := by
  obtain ⟨z, tk, h1, _⟩ := g
  have e2 : txtOf e = z := by
    unfold txtOf
    rw [h1]
  rw [e2, h1]
  show Value.isStrOf k (.str z tk) = true ↔ z = k
  constructor
  · intro h
    simpa [Value.isStrOf] using h
  · rintro rfl
    simp [Value.isStrOf]
theorem tx_elems {l : List (Int × Value)} (g : ∀ e ∈ l, TxE P w e) : ElemsOf (strKind P w) l := fun e he => by
  obtain ⟨k, tk, h1, h2⟩ := g e he
  exact ⟨⟨k, by rw [h1]; exact strKind_is _ _ _ _, h2⟩, by rw [h1]; rfl⟩
theorem tx_mem {l : List (Int × Value)} {L : List Str} (g : ∀ e ∈ l, TxE P w e) (p : (l.map txtOf).Perm L) (k : Str) : k ∈ L ↔ ∃ e ∈ l, (strKind P w).is k e.2 = true := by
  rw [← p.mem_iff, List.mem_map]
  exact ⟨fun ⟨e, he, q⟩ => ⟨e, he, ((g e he).is k).2 q⟩, fun ⟨e, he, q⟩ => ⟨e, he, ((g e he).is k).1 q⟩⟩
theorem TxtS.at {h h' : Heap} {a : Addr} {L : List Str} (R : TxtS P w h a L) (k : ∀ o, h.get? a = some o → h'.get? a = some o) : TxtS P w h' a L := by
  obtain ⟨o, es, ep, t, T⟩ := R
  exact ⟨o, es, ep, t, { T with get := k _ T.get }⟩
theorem TxS.size {h : Heap} {a : Addr} {L : List Str} {o : Obj} {es : Array (Int × Value)} {ep : Nat} {t : SetTable} (T : TxS P w h a L o es ep t) : es.size = L.length := by
  have := T.perm.length_eq
  rw [List.length_map, Array.length_toList] at this
  exact this
theorem TxS.stored {h : Heap} {a : Addr} {o : Obj} {es es' : Array (Int × Value)} {ep : Nat} {t t' : SetTable} {L' : List Str} (ho : h.get? a = some o) (hx : o.ExactSet) (hd : o.data = .set es ep t)
    (g : ∀ e ∈ es'.toList, TxE P w e) (p : (es'.toList.map txtOf).Perm L') (nd : L'.Nodup) (hb : es'.size < scanBound) (hf : t'.fits es'.size = true) (hr : Ris t'.place.toList) (hl : w.params.followText "set-order" = true ∨ t'.led = true) :
    TxS P w (h.update a (Obj.putSet es' t')) a L' { o with data := .set es' (ep + 1) t' } es' (ep + 1) t' :=
  ⟨(SetOf_store (knd := strKind P w) (S' := fun k => decide (k ∈ L')) ho hx hd (tx_elems g) (fun k => by rw [decide_eq_true_eq]; exact tx_mem g p k) hb hf).1, hx, rfl, g, p, nd, hb, hf, hr, hl⟩
end
section
variable {P : Program} {w : World} {A : Around} {E : Value → Shared → Prop} {s : Shared} {a : Addr} {L : List Str}
theorem tx_tail {g : Bool → Sem Unit} (hg : ∀ (b : Bool) (s₁ : Shared) (Q' : Unit → Shared → Prop), Q' () s₁ → wpAny (model P w) A (g b) Q' E s₁)
    {o : Obj} {es : Array (Int × Value)} {ep : Nat} {t : SetTable} (ho : s.heap.get? a = some o) (hx : o.ExactSet) (hd : o.data = .set es ep t)
    {fs : Array (Int × Value)} {t2 : SetTable} {L' : List Str} (gd : ∀ e ∈ fs.toList, TxE P w e) (pm : (fs.toList.map txtOf).Perm L') (nd : L'.Nodup) (hb : fs.size < scanBound) (hf : t2.fits fs.size = true) (hr : Ris t2.place.toList)
    (hl : w.params.followText "set-order" = true ∨ t2.led = true) {wasDummy : Bool} {R : Option Bool → Shared → Prop} (hR : ∀ h', Heap.SameBut a s.heap h' → TxtS P w h' a L' → R (some true) { s with heap := h' }) :
    wpAny (model P w) A (do
        storeSet a fs t2
        if (!wasDummy && t2.tooFull) = true then do
            g (relayAll t2 fs (SetTable.grown fs.size)).2.2
            storeSet a (relayAll t2 fs (SetTable.grown fs.size)).1 (relayAll t2 fs (SetTable.grown fs.size)).2.1
            pure (some true)
          else pure (some true)) R E s := by
  have T1 := TxS.stored (P := P) ho hx hd gd pm nd hb hf hr hl
  have b1 := Heap.SameBut.update s.heap a (Obj.putSet fs t2)
  refine wpAny_bind (wpAny_storeSet_of ho hd ?_ (fits_of_scanBound hb))
  split
  · have q1 := relayAll_perm t2 fs (SetTable.grown fs.size)
    have q2 := relayAll_fits t2 fs (SetTable.grown fs.size)
    have q3 := relayAll_ris t2 fs (SetTable.grown fs.size)
    have q4 := relayAll_led t2 fs (SetTable.grown fs.size)
    generalize relayAll t2 fs (SetTable.grown fs.size) = W at q1 q2 q3 q4 ⊢
    obtain ⟨gs, t3, gave⟩ := W
    have hz : gs.size = fs.size := by
      have := q1.length_eq
      rwa [Array.length_toList, Array.length_toList] at this
    have hb2 : gs.size < scanBound := by rw [hz]; exact hb
    refine wpAny_bind (hg gave _ _ (wpAny_bind (wpAny_storeSet_of T1.get T1.data ?_ (fits_of_scanBound hb2))))
    exact wpAny_pure (hR _ (b1.trans (Heap.SameBut.update _ a _)) ⟨_, _, _, _, TxS.stored T1.get T1.ex T1.data (fun e he => gd e (q1.mem_iff.mp he)) ((q1.map txtOf).trans pm) nd hb2 q2 q3 (hl.imp id fun z => Eq.trans q4 z)⟩)
  · exact wpAny_pure (hR _ b1 ⟨_, _, _, _, T1⟩)
theorem tx_hashed {k : Str} {tk : Tok} {Q : Bool → Shared → Prop} (R : TxtS P w s.heap a L) (room : L.length + 1 < scanBound) (hQ : ∀ h', Heap.SameBut a s.heap h' → TxtS P w h' a (insL L k) → Q (!decide (k ∈ L)) { s with heap := h' }) :
    wpAny (model P w) A (setAddHashed a (.str k tk) ((strKind P w).hash k)) Q E s := by
  obtain ⟨o, es, ep, t, T⟩ := R
  have el := tx_elems T.good
  have key : (strKind P w).is k (.str k tk) = true := strKind_is _ _ _ _
  have sc : (Value.str k tk).scannable = true := rfl
  have mm := tx_mem T.good T.perm k
  unfold setAddHashed setAddHashedIn
  refine wpAny_holding (wpAny_bind (wpAny_setState_of T.get T.data T.fit ?_))
  dsimp only
  rw [byScan_of sc T.few el]
  simp only [↓reduceIte]
  unfold setAddByScan
  refine wpAny_bind (wpAny_bind (wpAny_rule (wpAny_bind (wpAny_setScan_of key T.get T.data T.fit el ?_))))
  cases fi : List.findIdx? (fun e => (strKind P w).is k e.2) es.toList with
  | some j =>
    obtain ⟨hj, pj, _⟩ := List.findIdx?_eq_some_iff_getElem.mp fi
    have hk : k ∈ L := mm.2 ⟨es.toList[j], List.getElem_mem hj, pj⟩
    have q := hQ s.heap (Heap.SameBut.refl a s.heap) ⟨o, es, ep, t, by unfold insL; rw [if_pos hk]; exact T⟩
    rw [decide_eq_true hk] at q
    exact wpAny_pure (wpAny_pure q)
  | none =>
    have hk : k ∉ L := fun z => by
      obtain ⟨e, he, q⟩ := mm.1 z
      have c := List.findIdx?_eq_none_iff.mp fi e he
      rw [q] at c
      cases c
    have fin : ∀ h', Heap.SameBut a s.heap h' → TxtS P w h' a (L ++ [k]) → Q true { s with heap := h' } := fun h' sb r => by
      have q := hQ h' sb (by unfold insL; rw [if_neg hk]; exact r)
      rwa [decide_eq_false hk] at q
    have gw : ∀ (b : Bool) {s₁ : Shared} {Q' : Unit → Shared → Prop}, Q' () s₁ → wpAny (model P w) A (match b with | true => rule "set.scan.the-table-gave-way" | false => pure ()) Q' E s₁ := fun b s₁ Q' q => by
      cases b
      · exact wpAny_pure q
      · exact wpAny_rule q
    have q1 := layNew_perm t es ((strKind P w).hash k) (.str k tk)
    have q2 := layNew_fits t es ((strKind P w).hash k) (.str k tk)
    have q3 := layNew_ris t es ((strKind P w).hash k) (.str k tk) T.ris
    have q4 := layNew_led t es ((strKind P w).hash k) (.str k tk)
    dsimp only
    generalize layNew t es ((strKind P w).hash k) (.str k tk) = W at q1 q2 q3 q4 ⊢
    obtain ⟨fs, t1, wd, gave⟩ := W
    dsimp only at q1 q2 q3 q4 ⊢
    rw [Array.toList_push] at q1
    have gd : ∀ e ∈ fs.toList, TxE P w e := fun e he => by
      rcases List.mem_append.mp (q1.mem_iff.mp he) with z | z
      · exact T.good e z
      · rw [List.mem_singleton.mp z]
        exact ⟨k, tk, rfl, rfl⟩
    have pm : (fs.toList.map txtOf).Perm (L ++ [k]) := by
      have := q1.map txtOf
      rw [List.map_append] at this
      exact this.trans (T.perm.append_right _)
    have nd : (L ++ [k]).Nodup := by
      rw [List.nodup_append]
      exact ⟨T.nodup, by simp, fun x hx y hy e => hk (by rw [List.mem_singleton.mp hy] at e; rw [← e]; exact hx)⟩
    have hz : fs.size = L.length + 1 := by
      have := pm.length_eq
      rw [List.length_map, Array.length_toList, List.length_append] at this
      exact this
    have hb : fs.size < scanBound := by rw [hz]; exact room
    have ld : w.params.followText "set-order" = true ∨ t1.led = true := T.led.imp id fun z => Eq.trans q4 z
    refine wpAny_bind (gw _ ?_)
    split
    · refine wpAny_bind ?_
      rw [hashByValue_scannable 8 sc]
      refine wpAny_pure (tx_tail (fun b s₁ Q' q => gw b q) T.get T.ex T.data gd pm nd hb ?_ ?_ ?_ fun h' sb r => wpAny_pure (fin h' sb r))
      · first | (split <;> first | exact q2 | exact SetTable.fits_plain_off q2) | exact q2
      · first | (split <;> exact q3) | exact q3
      · first | (split <;> exact ld) | exact ld
    · refine wpAny_bind (wpAny_pure ?_)
      simp only [↓reduceIte]
      exact tx_tail (fun b s₁ Q' q => gw b q) T.get T.ex T.data gd pm nd hb q2 q3 ld fun h' sb r => wpAny_pure (fin h' sb r)
theorem TxtS.setOf (R : TxtS P w s.heap a L) : s.heap.SetOf (strKind P w) a (fun k => decide (k ∈ L)) L.length := by
  obtain ⟨o, es, ep, t, T⟩ := R
  exact ⟨o, es, ep, t, T.get, T.ex, T.data, tx_elems T.good, fun k => by rw [decide_eq_true_eq]; exact tx_mem T.good T.perm k, T.few, T.fit, T.size⟩
/-- found.add(text) -/
theorem tx_add {k : Str} {tk : Tok} {Q : Value → Shared → Prop} (R : TxtS P w s.heap a L) (room : L.length + 1 < scanBound)
    (hQ : ∀ h' tk', Heap.SameBut a s.heap h' → TxtS P w h' a (insL L k) → Q .none { s with heap := h', toks := tk' }) :
    wpAny (model P w) A (call (.builtin "set.add") [.ref a, .str k tk]) Q E s := by
  refine wpAny_call_entry F.slot_set_add R.setOf.typeIs F.entry_set_add ?_ (F.args_set_add_2 _ _)
  unfold Builtin.«set.add» Builtin.Frozenset.oneOther
  simp only [List.isEmpty_nil, bind_assoc]
  unfold Builtin.Frozenset.addrOf setAdd
  refine wpAny_bind (wpAny_pure ?_)
  try dsimp only
  refine wpAny_bind (wpAny_pure ?_)
  try dsimp only
  refine wpAny_bind (wpAny_holding (wpAny_bind ((strKind P w).pyHash (strKind_is _ _ k tk) (tx_hashed (s := { s with toks := s.toks + 1 }) R room fun h' sb r => ?_))))
  show wpAny _ _ (ret Value.none) _ _ _
  exact wpAny_pure ⟨_, rfl, hQ h' _ sb r⟩
theorem tx_fresh {h : Heap} : TxtS P w (h.push { cls := .type "set", dict := none, data := .set #[] 0 (.fresh 0 0 (!w.params.followText "set-order")) }) h.objs.size [] := by
  refine ⟨_, #[], 0, _, Heap.get?_push_size _ rfl, ⟨rfl, rfl, rfl⟩, rfl, fun e he => by simp at he, by simp, List.nodup_nil, by decide, rfl, List.Pairwise.nil, ?_⟩
  show _ ∨ (!w.params.followText "set-order") = true
  cases w.params.followText "set-order"
  · exact .inr rfl
  · exact .inl rfl
end
end Fv


set_option Elab.async false
set_option linter.all false
set_option maxRecDepth 100000
set_option maxHeartbeats 2000000
/-! sets of texts as tracked things; the comprehension; len and sorted of one; & of two empty ones -/
namespace Fv
open PySem PySem.Spec PyProof.Rows L2
def TxtO (P : Program) (w : World) (a : Addr) (L : List Str) : HO := .ext fun h => TxtS P w h a L
theorem txtO_new {P : Program} {w : World} {H : Hp} {h : Heap} {a : Addr} {L : List Str} (R : TxtS P w h a L) : ObjOk P w H h a (TxtO P w a L) :=
  ⟨R, let ⟨o, _, _, _, T⟩ := R; ⟨o, T.get⟩, fun _ _ p k => TxtS.at p k⟩
section
variable {X : Cx}
theorem txtO_get {pins : List (Addr × Obj)} {σ : L2.St} {H : Hp} {s : Shared} {a : Addr} {L : List Str} (I : Inv X pins σ H s) (ha : H a = some (TxtO X.prog X.w a L)) : TxtS X.prog X.w s.heap a L := (I.hok a _ ha).1
theorem tx_addI {pins : List (Addr × Obj)} {σ : L2.St} {H : Hp} {s : Shared} {E : Value → Shared → Prop} {D : Addr} {L : List Str} {k : Str} {tk : Tok} {Q : Value → Shared → Prop} (I : Inv X pins σ H s) (hD : H D = some (TxtO X.prog X.w D L)) (room : L.length + 1 < scanBound)
    (h : ∀ s', Inv X pins σ (upd H D (TxtO X.prog X.w D (insL L k))) s' → Q .none s') : wpAny (model X.prog X.w) X.A (call (.builtin "set.add") [.ref D, .str k tk]) Q E s := by
  refine tx_add (txtO_get I hD) room fun h' tk' sb new => ?_
  exact h _ (I.write (e := D) (t' := tk') (by rw [hD]; trivial) (.inl rfl) (fun b u hb hu => (sb.2 b hb).trans hu) (let ⟨o, _, _, _, T⟩ := new; ⟨o, T.get⟩) (txtO_new new))
/-- {elt for target in iter if ..}, elt a text: D the new set -/
def tScX (P : Program) (w : World) (wi : TI) (g : TG) (tt : TT) (te : TE) (vs : List Nat) : TE := fun σ H Q => wi σ H fun J H1 => ∀ D, H1 D = none → ∃ W : Nat → Nat → Hp → Prop, (∃ m, W 0 m (upd H1 D (TxtO P w D []))) ∧ ∀ i m H, W i m H →
  (J.stop i H ∧ Q (.ref D) H) ∨ (J.go i H ∧ ∃ Nx : Hp → Prop, (∀ H', Nx H' → ∃ m', m' < m ∧ W (i + 1) m' H') ∧ ∀ x H', J.yld i H x H' → g x (wipe σ vs) H' fun σ2 H2 => wipe σ2 vs = wipe σ vs ∧ tt σ2 H2 fun b H3 =>
    if b = true then te σ2 H3 fun y H4 => ∃ (z : Str) (L : List Str), y = .str z ∧ H4 D = some (TxtO P w D L) ∧ L.length + 1 < scanBound ∧ Nx (upd H4 D (TxtO P w D (insL L z))) else Nx H3)
theorem pe_scX {elt tg iter : Expr} {ifs : List Expr} {scope : Scope} {own : List (PySem.Str × Nat)} {pos : Pos} {wi : TI} {g : TG} {tt : TT} {te : TE} (hc : X.calm = true) (hN : X.N.Nodup) (hi : PI X tg iter wi) (ok : BlkOk X.N X.env.scope scope own)
    (hg : ∀ (s : Shared) (H : Hp) (C : Addr) (cl : List (PySem.Str × Addr)) (fp : List Addr), PG (X.blk s H scope (compEnvC scope cl C X.env) fp) tg g) (ht : ∀ (s : Shared) (H : Hp) (C : Addr) (cl : List (PySem.Str × Addr)) (fp : List Addr), PTs (X.blk s H scope (compEnvC scope cl C X.env) fp) ifs tt)
    (he : ∀ (s : Shared) (H : Hp) (C : Addr) (cl : List (PySem.Str × Addr)) (fp : List Addr), PE (X.blk s H scope (compEnvC scope cl C X.env) fp) elt te) (hs : ∀ x, foldedSetIterable iter X.env x = pure x := by intro _; rfl) :
    PE X (.SetComp elt [⟨tg, iter, ifs, 0⟩] scope pos) (tScX X.prog X.w wi g tt te (own.map (·.2))) := by
  refine ⟨fun pins s σ H Q I h => ?_⟩
  rw [PpSet.eval_SetComp]
  have free : ∀ y ∈ scope.names, y.2 = .free → ∃ c, X.env.cells.lookup y.1 = some c := fun y hy e => (ok.free y hy e).elim (fun k => I.ok.has _ (.inl k)) fun k => I.ok.has _ (.inr k)
  refine wpAny_comprehension_free rfl hs (closure_ok free) ok.kind (fun y hy e => by rw [ok.uniq y hy, e]) (thn (hi.run pins s σ H _ I h) fun xv s1 hx => thn hx fun itv s2 ⟨it, fp, tn, J, H2, e2, I2, T, st2, f2, q⟩ => ?_)
  subst e2
  refine PpSet.newSet_ok (newEnv_comp ?_)
  have nD : H2 s2.heap.objs.size = none := I2.hok.fresh (Nat.le_refl _)
  obtain ⟨W, ⟨m0, w0⟩, turn⟩ := q _ nD
  have I3 : Inv X pins σ (upd H2 s2.heap.objs.size (TxtO X.prog X.w s2.heap.objs.size [])) { s2 with heap := s2.heap.push { cls := .type "set", dict := none, data := .set #[] 0 (.fresh 0 0 (!X.w.params.followText "set-order")) } } :=
    I2.laid (t' := s2.toks) (fun b o e => Heap.get?_push_of_some _ e) (Nat.le_refl _) (txtO_new tx_fresh)
  have szf : ∀ b ∈ fp, b < s2.heap.objs.size := fun b hb => let ⟨_, e, _⟩ := T.obj _ _ st2 b hb; Heap.lt_size e
  obtain ⟨D, eD⟩ : ∃ D, D = s2.heap.objs.size := ⟨_, rfl⟩
  rw [← eD] at nD w0 turn I3 szf ⊢
  have k3 : ∀ b o, s2.heap.get? b = some o → (s2.heap.push { cls := .type "set", dict := none, data := .set #[] 0 (.fresh 0 0 (!X.w.params.followText "set-order")) }).get? b = some o := fun b o e => Heap.get?_push_of_some _ e
  have z3 : (s2.heap.push { cls := .type "set", dict := none, data := .set #[] 0 (.fresh 0 0 (!X.w.params.followText "set-order")) }).objs.size = D + 1 := by rw [Heap.size_push, eD]
  generalize e3 : ({ s2 with heap := s2.heap.push { cls := .type "set", dict := none, data := .set #[] 0 (.fresh 0 0 (!X.w.params.followText "set-order")) } } : Shared) = s3 at I3 ⊢
  have h3 : s3.heap = s2.heap.push { cls := .type "set", dict := none, data := .set #[] 0 (.fresh 0 0 (!X.w.params.followText "set-order")) } := by rw [← e3]
  rw [← h3] at k3 z3
  obtain ⟨H3, eH⟩ : ∃ H3, H3 = upd H2 D (TxtO X.prog X.w D []) := ⟨_, rfl⟩
  have fps : ∀ b ∈ fp, FpOk X pins H3 b ∧ b < s3.heap.objs.size := fun b hb => by
    refine ⟨⟨?_, (f2 b hb).2⟩, by rw [z3]; exact Nat.lt_succ_of_lt (szf b hb)⟩
    rw [eH, upd_ne (Nat.ne_of_lt (szf b hb))]
    exact (f2 b hb).1
  rw [← eH] at w0 I3
  have b4 := block_start I3 ok hN fps
  have st3 : tn 0 s3.heap := T.keep _ _ _ st2 fun b _ o e => k3 b o e
  show codeAny _ _ (.compStart (.SetComp elt [⟨tg, iter, ifs, 0⟩] scope pos) 0 (.ref it) (.ref D) (compEnvC scope (cellsFrom (s3.heap.objs.size + 1) scope.names (cloFrom X.env.cells scope.names [])) s3.heap.objs.size X.env)) (compPost (model X.prog X.w) X.A X.xe none _ (.ref D) s3.heap.objs.size) { s3 with heap := pushCells (s3.heap.push { cls := .type "dict", data := .dict #[] }) scope.names }
  have G1 := hg s3 H3 s3.heap.objs.size (cellsFrom (s3.heap.objs.size + 1) scope.names (cloFrom X.env.cells scope.names [])) fp
  have G2 := ht s3 H3 s3.heap.objs.size (cellsFrom (s3.heap.objs.size + 1) scope.names (cloFrom X.env.cells scope.names [])) fp
  have G3 := he s3 H3 s3.heap.objs.size (cellsFrom (s3.heap.objs.size + 1) scope.names (cloFrom X.env.cells scope.names [])) fp
  generalize ece : compEnvC scope (cellsFrom (s3.heap.objs.size + 1) scope.names (cloFrom X.env.cells scope.names [])) s3.heap.objs.size X.env = ce at b4 G1 G2 G3 ⊢
  have lc : ce.locals = s3.heap.objs.size := by rw [← ece]; rfl
  generalize e4 : ({ s3 with heap := pushCells (s3.heap.push { cls := .type "dict", data := .dict #[] }) scope.names } : Shared) = s4 at b4 ⊢
  have st4 : tn 0 s4.heap := T.keep _ _ _ st3 fun b _ o e => by rw [← e4]; exact pushCells_keeps _ _ _ _ (Heap.get?_push_of_some _ e)
  have still : ∀ {σ' : L2.St} {H' : Hp} {s' : Shared}, Inv (X.blk s3 H3 scope ce fp) [] σ' H' s' → (∀ b ∈ fp, H' b = none) → ∀ b ∈ fp, FpOk (X.blk s3 H3 scope ce fp) [] H' b := fun {σ' H' s'} J hn b hb =>
    ⟨hn b hb, (J.ok.exf b hb).1, J.ok.exfs b hb, Or.inl hb, fun x c e => (J.ok.exf b hb).2 x c e, fun p hp => by simp at hp⟩
  have walk : codeAny (model X.prog X.w) X.A (.compLoop (.SetComp elt [⟨tg, iter, ifs, 0⟩] scope pos) 0 (.ref it) (.ref D) ce) (compPost (model X.prog X.w) X.A X.xe none (EP X pins σ Q) (.ref D) s3.heap.objs.size) s4 := by
    refine PpSet.compLoopS_any (fun n s' => ∃ (i : Nat) (H' : Hp), Inv (X.blk s3 H3 scope ce fp) [] (wipe σ (own.map (·.2))) H' s' ∧ tn i s'.heap ∧ (∀ b ∈ fp, H' b = none) ∧ W i n H') (fun n s5 ⟨i, H5, I5, st5, n5, w5⟩ => ?_) m0 ⟨0, H3, b4, st4, fun b hb => (fps b hb).1.1, w0⟩
    rcases turn i n H5 w5 with ⟨stop, qq⟩ | ⟨go, Nx, hNx, step⟩
    · refine thnF (T.done (X.blk s3 H3 scope ce fp) rfl rfl rfl hc i [] s5 _ H5 (fun _ _ => False) I5 (still I5 n5) st5 stop) fun r s6 ⟨hr, I6⟩ => ?_
      subst hr
      have J := I3.call' (ch := fp) I6.os I6.base I6.hok I6.bare fun b hb => let f := (fps b hb).1.2; ⟨f.2.2.1, f.1, f.2.2.2.1, f.2.2.2.2⟩
      have nC : H5 s3.heap.objs.size = none := lc ▸ I6.free
      obtain ⟨m, hn, _⟩ := I6.loc
      have hn' : s6.heap.Ns s3.heap.objs.size m := lc ▸ (show s6.heap.Ns ce.locals m from hn)
      obtain ⟨f0, f1, f2, f3, f4, f5⟩ := I3.fpOk (Nat.le_refl _) nC
      exact ⟨m, hn', fun h'' sb => ⟨.ref D, H5, J.turned (t' := s6.toks) (fun b o hb e => (sb.2 b hb).trans e) f0 f1 f3 f4 f5, rfl, qq⟩⟩
    · refine thnF (T.item (X.blk s3 H3 scope ce fp) rfl rfl rfl hc i [] s5 _ H5 (fun _ _ => False) I5 (still I5 n5) st5 go) fun r s6 ⟨u, hr, h6⟩ => ?_
      subst hr
      refine thnF h6 fun _ s7 ⟨x, H7, I7, r7, y7, st7, n7⟩ => ?_
      have P7 := I7.pinned (still I7 n7) (T.obj _ _ st7)
      refine thnF (G1.run _ s7 _ H7 x u _ P7 r7 (step x H7 y7)) fun _ s8 ⟨σ8, H8, I8, hw8, q8⟩ => thnF (G2.run _ s8 σ8 H8 _ I8 q8) fun b s9 ⟨H9, I9, q9⟩ => ?_
      have fin : ∀ {s' : Shared} {H' : Hp}, Inv (X.blk s3 H3 scope ce fp) ([] ++ pinsAt fp s7.heap) σ8 H' s' → Nx H' → ∃ m, m < n ∧ ∃ (i : Nat) (H' : Hp), Inv (X.blk s3 H3 scope ce fp) [] (wipe σ (own.map (·.2))) H' s' ∧ tn i s'.heap ∧ (∀ b ∈ fp, H' b = none) ∧ W i m H' := fun {s' H'} J nx => by
        obtain ⟨m', hm, w'⟩ := hNx H' nx
        have kept : ∀ b ∈ fp, ∀ o, s7.heap.get? b = some o → s'.heap.get? b = some o ∧ H' b = none := fun b hb o e => by
          have z := J.pin (b, o) (List.mem_append_right _ (List.mem_append_right _ (mem_pinsAt hb e)))
          exact ⟨z.1, z.2.1⟩
        refine ⟨m', hm, i + 1, H', (J.unpinned (pins := [])).weak (by rw [← hw8, wipe_length]) (fun j v e => (wipe_some (hw8 ▸ e)).1), T.keep _ _ _ st7 fun b hb o e => (kept b hb o e).1, fun b hb => ?_, w'⟩
        obtain ⟨o, e, _⟩ := T.obj _ _ st7 b hb
        exact (kept b hb o e).2
      cases b with
      | false =>
        rw [if_neg Bool.false_ne_true] at q9 ⊢
        exact fin I9 q9
      | true =>
        rw [if_pos rfl] at q9 ⊢
        refine thnF (G3.run _ s9 σ8 H9 _ I9 q9) fun z s10 ⟨yv, H10, I10, r10, zt, L, ey, hD10, room, nx⟩ => ?_
        subst ey
        obtain ⟨tk, rfl⟩ := r10
        exact tx_addI (X := X.blk s3 H3 scope ce fp) I10 hD10 room fun s11 I11 => fin I11 nx
  exact PpSet.codeAny_compStart_set walk (T.self X.A 0 _ _ _ st4 walk)
/-- over anything that is walked -/
theorem sc_it {P : Program} {w : World} {J : It} {n : Nat} {G : Hp → Prop} {Y : Nat → Hp → V → Hp → Prop} (wk : Walk J n G Y) {g : TG} {tt : TT} {te : TE} {vs : List Nat} {σ : L2.St} {H1 : Hp} {D : Addr} {Qd : Hp → Prop} (Pv : Nat → Hp → Prop) (h0 : Pv 0 (upd H1 D (TxtO P w D []))) (hG : ∀ i H, i ≤ n → Pv i H → G H)
    (hs : ∀ i x H H', i < n → Pv i H → Y i H x H' → g x (wipe σ vs) H' fun σ2 H2 => wipe σ2 vs = wipe σ vs ∧ tt σ2 H2 fun b H3 =>
      if b = true then te σ2 H3 fun y H4 => ∃ (z : Str) (L : List Str), y = .str z ∧ H4 D = some (TxtO P w D L) ∧ L.length + 1 < scanBound ∧ Pv (i + 1) (upd H4 D (TxtO P w D (insL L z))) else Pv (i + 1) H3) (hd : ∀ H, Pv n H → Qd H) :
    ∃ W : Nat → Nat → Hp → Prop, (∃ m, W 0 m (upd H1 D (TxtO P w D []))) ∧ ∀ i m H, W i m H →
      (J.stop i H ∧ Qd H) ∨ (J.go i H ∧ ∃ Nx : Hp → Prop, (∀ H', Nx H' → ∃ m', m' < m ∧ W (i + 1) m' H') ∧ ∀ x H', J.yld i H x H' → g x (wipe σ vs) H' fun σ2 H2 => wipe σ2 vs = wipe σ vs ∧ tt σ2 H2 fun b H3 =>
        if b = true then te σ2 H3 fun y H4 => ∃ (z : Str) (L : List Str), y = .str z ∧ H4 D = some (TxtO P w D L) ∧ L.length + 1 < scanBound ∧ Nx (upd H4 D (TxtO P w D (insL L z))) else Nx H3) := by
  refine ⟨fun i m H => m + i = n ∧ Pv i H, ⟨n, rfl, h0⟩, fun i m H ⟨hm, p⟩ => ?_⟩
  rcases Nat.lt_or_ge i n with hlt | hge
  · exact .inr ⟨wk.goes i H hlt (hG i H (Nat.le_of_lt hlt) p), Pv (i + 1), fun H' p' => ⟨n - (i + 1), by omega, by omega, p'⟩, fun x H' y => hs i x H H' hlt p (wk.yields i H x H' hlt (hG i H (Nat.le_of_lt hlt) p) y)⟩
  · obtain rfl : i = n := by omega
    exact .inl ⟨wk.stops H (hG i H hge p), hd H p⟩
/-- len of such a set -/
def rLenX (P : Program) (w : World) : List V → Hp → VK → Prop := fun xs H Q => ∃ (a : Addr) (L : List Str), xs = [.ref a] ∧ H a = some (TxtO P w a L) ∧ Q (.int L.length) H
theorem call_lenX : CallR X (.builtin "len") (rLenX X.prog X.w) := by
  intro pins s σ H xs us Q I r h
  obtain ⟨a, L, rfl, ha, q⟩ := h
  rw [Vals.ref1 r]
  obtain ⟨o, es, ep, t, T⟩ := txtO_get I ha
  exact call_len_set T.get T.ex T.data T.fit (by
    have z1 := T.few
    have z2 : scanBound = 4096 := rfl
    omega) ⟨.int L.length, H, I.tok _, ⟨_, by rw [T.size]⟩, q⟩
theorem txt_strs : ∀ {vs : List Value}, (∀ v ∈ vs, ∃ k tk, v = Value.str k tk) → StrsAre vs (vs.map fun v => txtOf (0, v))
  | [], _ => .nil
  | v :: vs, h => by
    obtain ⟨k, tk, rfl⟩ := h v List.mem_cons_self
    exact .cons k tk (txt_strs fun u hu => h u (List.mem_cons_of_mem _ hu))
/-- sorted of one with fewer than 64 members -/
def rSortX (P : Program) (w : World) : List V → Hp → VK → Prop := fun xs H Q => ∃ (a : Addr) (L : List Str), xs = [.ref a] ∧ H a = some (TxtO P w a L) ∧ L.length < 64 ∧ ∀ ys p, ys.Perm L → sortedS ys = true → H p = none → p ≠ sysModules → Q (.ref p) (upd H p (.lst (ys.map V.str)))
theorem call_sortX (hc : X.calm = true) : CallR X (.builtin "sorted") (rSortX X.prog X.w) := by
  intro pins s σ H xs us Q I r h
  obtain ⟨a, L, rfl, ha, h64, q⟩ := h
  rw [Vals.ref1 r]
  obtain ⟨o, es, ep, t, T⟩ := txtO_get I ha
  refine Calls.call_function_entry PyProof.Rows.kind_sorted PyProof.Rows.plain_sorted PyProof.Rows.entry_sorted (PyProof.Rows.args_sorted1 _) ?_
  unfold Builtin.«sorted»
  refine wpAny_bind (m := checkCount "sorted" 1 1 _) (wpAny_pure (wpAny_bind (collect_set (A := X.A.in1) (I.ok.hd hc) ⟨o, T.get, T.ex.1, T.data⟩ T.fit T.few T.ris T.led fun s1 vs k1 z1 g1 o1 pm => ?_)))
  have vl : vs.length = L.length := by rw [pm.length_eq, List.length_map, Array.length_toList, T.size]
  have hS : StrsAre vs (vs.map fun v => txtOf (0, v)) := txt_strs fun v hv => by
    obtain ⟨e, he, q⟩ := List.mem_map.mp (pm.mem_iff.mp hv)
    obtain ⟨k, tk, h1, _⟩ := T.good e he
    exact ⟨k, tk, by rw [← q]; exact h1⟩
  have pL : (vs.map fun v => txtOf (0, v)).Perm L := by
    have := pm.map fun v => txtOf (0, v)
    rw [List.map_map] at this
    exact this.trans T.perm
  have I1 : Inv X pins σ H s1 := I.call' (ch := []) o1 (Un.kept k1) (I.hok.kept k1) (by rw [g1]; exact I.bare) (fun _ z => nomatch z)
  refine wpAny_bind (wpAny_newList ?_ (by rw [vl, sizeLine_eq]; omega))
  have oL : (s1.heap.push (seqObj "list" vs.toArray 0)).get? s1.heap.objs.size = some (seqObj "list" vs.toArray 0) := Heap.get?_push_size _ rfl
  refine wpAny_bind (wpAny_holding (wpAny_call_entry PyProof.Rows.slot_list_sort ⟨_, oL, rfl⟩ PyProof.Rows.entry_list_sort
    (list_sort_treeK strKind_oneLt (s := { s1 with heap := s1.heap.push (seqObj "list" vs.toArray 0) }) oL hS.keysOf (fun v₁ v₂ rest e => keyKind_strs (by rw [← e]; exact hS)) (by rw [vl]; exact h64) fun st' hp hs => ⟨_, rfl, ?_⟩)
    (PyProof.Rows.args_list_sort _)))
  obtain ⟨ys, a1, a2, a3⟩ := sorted_out_str hS hp hs
  obtain ⟨e', he'⟩ := PyProof.Rows.sortedHeap_at (vs := vs) (out := (arrOf st').map (·.2)) oL
  have yl : (ys.map V.str).length ≤ sizeLine := by
    rw [List.length_map, (a2.trans pL).length_eq, sizeLine_eq]
    omega
  refine wpAny_pure ⟨_, rfl, .ref s1.heap.objs.size, upd H s1.heap.objs.size (.lst (ys.map V.str)), I1.laid (t' := s1.toks) (fun b u e => ?_) (Nat.le_refl _)
    (show ObjOk X.prog X.w _ _ _ (.lst (ys.map V.str)) from ⟨yl, ((arrOf st').map (·.2)).toList, e', vals_of_strs a1, by rw [Array.toArray_toList]; exact he'⟩), rfl, q ys _ (a2.trans pL) a3 (I1.hok.fresh (Nat.le_refl _)) (Nat.ne_of_gt I1.big)⟩
  have hb : b < s1.heap.objs.size := Heap.lt_size e
  rw [PyProof.Rows.sortedHeap_old (Nat.ne_of_lt hb) (by rw [size_push']; exact Nat.lt_succ_of_lt hb)]
  exact Heap.get?_push_of_some _ e
end
end Fv


set_option Elab.async false
set_option linter.all false
set_option maxRecDepth 100000
set_option maxHeartbeats 2000000
namespace Fv
open PySem PySem.Spec PyProof.Rows L2
/-! ### & of two empty ones -/
theorem entry_set_meet : entryFor table "set.__and__" = some Builtin.«frozenset.__and__» := entryFor_alias (id' := "frozenset.__and__") (by kernel_rfl) rfl (by decide +kernel) (by kernel_rfl)
section
variable {P : Program} {w : World} {A : Around} {E : Value → Shared → Prop} {s : Shared} {a : Addr}
theorem TxS.none {h : Heap} {o : Obj} {es : Array (Int × Value)} {ep : Nat} {t : SetTable} (T : TxS P w h a [] o es ep t) : es = #[] := Array.eq_empty_of_size_eq_zero T.size
theorem walk_none {o : Obj} {es : Array (Int × Value)} {ep : Nat} {t : SetTable} {Q : Array (Int × Value) → Shared → Prop} (T : TxS P w s.heap a [] o es ep t) (q : Q #[] s) : wpAny (model P w) A (setWalk a) Q E s := by
  obtain rfl := T.none
  unfold setWalk
  refine wpAny_bind (wpAny_setState_of T.get T.data T.fit ?_)
  dsimp only
  refine wpAny_bind (wpAny_byText ?_)
  cases w.params.followText "set-order" with
  | true =>
    refine wp_if_pos rfl (wpAny_bind (wpAny_askSetting (wpAny_pure ?_)))
    have e : pickOrder (w.params.setOrder a ep) (#[] : Array (Int × Value)) = #[] := by
      have := (pick_perm (w.params.setOrder a ep) (#[] : Array (Int × Value))).length_eq
      exact Array.eq_empty_of_size_eq_zero (by simpa using this)
    show Q (pickOrder (w.params.setOrder a ep) (#[] : Array (Int × Value))) s
    rw [e]
    exact q
  | false =>
    refine wp_if_neg Bool.false_ne_true ?_
    try refine wpAny_bind (wpAny_pure ?_)
    refine wp_if_neg (by show ¬ ((!t.plain && decide ((#[] : Array (Int × Value)).size > 1)) = true); simp) ?_
    try refine wpAny_bind (wpAny_pure ?_)
    refine wpAny_bind (wpAny_of_eq (a := ()) (by show (if (!t.led && !(#[] : Array (Int × Value)).isEmpty) = true then unsupported _ else pure ()) = pure (); simp) ?_)
    exact wpAny_pure q
theorem unseen_none {o : Obj} {es : Array (Int × Value)} {ep : Nat} {t : SetTable} {others : List Addr} {fl : Option Addr} {Q : Array (Int × Value) → Shared → Prop} (T : TxS P w s.heap a [] o es ep t) (q : Q #[] s) : wpAny (model P w) A (setWalkUnseen a others fl) Q E s := by
  obtain rfl := T.none
  unfold setWalkUnseen
  refine wpAny_bind (wpAny_setState_of T.get T.data T.fit ?_)
  dsimp only
  refine wpAny_bind (wpAny_byText ?_)
  exact wp_if_pos (by simp) (walk_none T q)
theorem any_set {a : Addr} {Q : Bool → Shared → Prop} (hT : s.TypeIs (.ref a) "set") (q : Q true s) : wpAny (model P w) A (Builtin.Frozenset.isAnySet (.ref a)) Q E s := by
  unfold Builtin.Frozenset.isAnySet orM
  refine wpAny_bind (wpAny_isInstance (b := true) hT sub_set_self ?_)
  exact wpAny_pure q
theorem tx_meet {a b : Addr} {Q : Value → Shared → Prop} (hne : a ≠ b) (Ra : TxtS P w s.heap a []) (Rb : TxtS P w s.heap b [])
    (hQ : ∀ h', TxtS P w h' s.heap.objs.size [] → (∀ c u, s.heap.get? c = some u → h'.get? c = some u) → Q (.ref s.heap.objs.size) { s with heap := h' }) :
    wpAny (model P w) A (binaryOp .BitAnd (.ref a) (.ref b)) Q E s := by
  obtain ⟨oa, ea, pa, ta, Ta⟩ := Ra
  obtain ⟨ob, eb, pb, tb, Tb⟩ := Rb
  have ya : s.TypeIs (.ref a) "set" := ⟨oa, Ta.get, Ta.ex.1⟩
  have yb : s.TypeIs (.ref b) "set" := ⟨ob, Tb.get, Tb.ex.1⟩
  refine wpAny_binaryOp_same ya yb F.fills_set_and F.slot_set_and (wpAny_call_entry F.slot_set_and ya entry_set_meet ?_ (F.args_set_and_2 _ _))
  show wpAny (model P w) A.in1 (do
    let (self, other) ← Builtin.Frozenset.slot1 "__and__" _
    let (l, r) := if false then (other, self) else (self, other)
    if !(← (Builtin.Frozenset.isAnySet l <&&> Builtin.Frozenset.isAnySet r)) then rule _; return ← ret .notImplemented
    ret (← Builtin.Frozenset.intersection _ (← Builtin.Frozenset.addrOf l) r)) _ _ s
  refine wpAny_bind (m := Builtin.Frozenset.slot1 _ _) (wpAny_of_eq (a := (Value.ref a, Value.ref b)) (by rfl) ?_)
  dsimp only
  refine wpAny_bind (wpAny_bind (any_set ya (any_set yb ?_)))
  refine wp_if_neg (by simp) ?_
  try refine wpAny_bind (wpAny_pure ?_)
  show wpAny (model P w) A.in1 (Builtin.Frozenset.intersection _ a (.ref b) >>= fun v => ret v) _ _ s
  refine wpAny_bind ?_
  unfold Builtin.Frozenset.intersection
  refine wp_if_neg (by simp [Ne.symm hne]) ?_
  try refine wpAny_bind (wpAny_pure ?_)
  unfold Builtin.Frozenset.baseOf
  refine wpAny_bind (wpAny_bind (wpAny_isInstance (b := true) ya sub_set_self (wpAny_pure ?_)))
  refine wpAny_bind (PpSet.newSet_ok ?_)
  have nw := tx_fresh (P := P) (w := w) (h := s.heap)
  have kp : ∀ c u, s.heap.get? c = some u → (s.heap.push { cls := .type "set", dict := none, data := .set #[] 0 (.fresh 0 0 (!w.params.followText "set-order")) }).get? c = some u := fun c u e => Heap.get?_push_of_some _ e
  have Ta' := { Ta with get := kp _ _ Ta.get }
  have Tb' := { Tb with get := kp _ _ Tb.get }
  have fin := hQ _ nw kp
  unfold Builtin.Frozenset.addrOf
  refine wpAny_bind (wpAny_pure (wpAny_bind (wpAny_holding (wpAny_bind (any_set (a := b) ⟨ob, Tb'.get, Tb.ex.1⟩ (wp_if_pos rfl (wpAny_bind (wpAny_pure ?_))))))))
  unfold Builtin.Frozenset.sizeOf
  refine wpAny_bind (wpAny_bind (wpAny_setEntries_of Tb'.get Tb.data Tb.fit (wpAny_pure ?_)))
  refine wpAny_bind (wpAny_bind (wpAny_setEntries_of Ta'.get Ta.data Ta.fit (wpAny_pure ?_)))
  have e1 : ea = #[] := Ta.none
  have e2 : eb = #[] := Tb.none
  rw [if_neg (by rw [e1, e2]; decide)]
  dsimp only
  refine wpAny_bind (wpAny_setEpoch_of Tb'.get Tb.data Tb.fit ?_)
  refine wpAny_bind (unseen_none Tb' ?_)
  refine wpAny_bind (wpAny_of_eq (a := PUnit.unit) (by simp) ?_)
  exact wpAny_pure (wpAny_pure (wpAny_pure ⟨_, rfl, by simp, fin⟩))
end
def rMeet0 (P : Program) (w : World) : R2 := fun x y H Q => ∃ a b, x = .ref a ∧ y = .ref b ∧ a ≠ b ∧ H a = some (TxtO P w a []) ∧ H b = some (TxtO P w b []) ∧ ∀ p, H p = none → Q (.ref p) (upd H p (TxtO P w p []))
theorem op_meet0 {X : Cx} : OpR X (binaryOp .BitAnd) (rMeet0 X.prog X.w) := by
  intro pins s σ H x y v u Q I rx ry h
  obtain ⟨a, b, rfl, rfl, ne, ha, hb, q⟩ := h
  cases rx
  cases ry
  refine tx_meet ne (txtO_get I ha) (txtO_get I hb) fun h' R k => ?_
  exact ⟨.ref _, _, I.laid (t' := s.toks) k (Nat.le_refl _) (txtO_new R), rfl, q _ (I.hok.fresh (Nat.le_refl _))⟩
end Fv


set_option Elab.async false
set_option linter.all false
set_option maxRecDepth 100000
set_option maxHeartbeats 2000000
/-! list comprehensions and sorted lists at none of the first places -/
namespace Fv
open PySem PySem.Spec PyProof.Rows L2
section
variable {X : Cx}
/-- [elt for target in iter if ..], its place none of the first ones -/
def tLcB (wi : TI) (g : TG) (tt : TT) (te : TE) (vs : List Nat) : TE := fun σ H Q => wi σ H fun J H1 => ∀ D, H1 D = none → D ≠ sysModules → ∃ W : Nat → Nat → Hp → Prop, (∃ m, W 0 m (upd H1 D (.lst []))) ∧ ∀ i m H, W i m H →
  (J.stop i H ∧ Q (.ref D) H) ∨ (J.go i H ∧ ∃ Nx : Hp → Prop, (∀ H', Nx H' → ∃ m', m' < m ∧ W (i + 1) m' H') ∧ ∀ x H', J.yld i H x H' → g x (wipe σ vs) H' fun σ2 H2 => wipe σ2 vs = wipe σ vs ∧ tt σ2 H2 fun b H3 =>
    if b = true then te σ2 H3 fun y H4 => ∃ acc, H4 D = some (.lst acc) ∧ acc.length < sizeLine ∧ Nx (upd H4 D (.lst (acc ++ [y]))) else Nx H3)
theorem pe_lcB {elt tg iter : Expr} {ifs : List Expr} {scope : Scope} {own : List (PySem.Str × Nat)} {pos : Pos} {wi : TI} {g : TG} {tt : TT} {te : TE} (hc : X.calm = true) (hN : X.N.Nodup) (hi : PI X tg iter wi) (ok : BlkOk X.N X.env.scope scope own)
    (hg : ∀ (s : Shared) (H : Hp) (C : Addr) (cl : List (PySem.Str × Addr)) (fp : List Addr), PG (X.blk s H scope (compEnvC scope cl C X.env) fp) tg g) (ht : ∀ (s : Shared) (H : Hp) (C : Addr) (cl : List (PySem.Str × Addr)) (fp : List Addr), PTs (X.blk s H scope (compEnvC scope cl C X.env) fp) ifs tt)
    (he : ∀ (s : Shared) (H : Hp) (C : Addr) (cl : List (PySem.Str × Addr)) (fp : List Addr), PE (X.blk s H scope (compEnvC scope cl C X.env) fp) elt te) (hs : ∀ x, foldedSetIterable iter X.env x = pure x := by intro _; rfl) :
    PE X (.ListComp elt [⟨tg, iter, ifs, 0⟩] scope pos) (tLcB wi g tt te (own.map (·.2))) := by
  refine ⟨fun pins s σ H Q I h => ?_⟩
  rw [eval_ListComp]
  have free : ∀ y ∈ scope.names, y.2 = .free → ∃ c, X.env.cells.lookup y.1 = some c := fun y hy e => (ok.free y hy e).elim (fun k => I.ok.has _ (.inl k)) fun k => I.ok.has _ (.inr k)
  refine wpAny_comprehension_free rfl hs (closure_ok free) ok.kind (fun y hy e => by rw [ok.uniq y hy, e]) (thn (hi.run pins s σ H _ I h) fun xv s1 hx => thn hx fun itv s2 ⟨it, fp, tn, J, H2, e2, I2, T, st2, f2, q⟩ => ?_)
  subst e2
  refine wpAny_newObj_type (newEnv_comp ?_) (by show 0 ≤ sizeLine; decide)
  have nD : H2 s2.heap.objs.size = none := I2.hok.fresh (Nat.le_refl _)
  have big := Nat.ne_of_gt I2.big
  obtain ⟨W, ⟨m0, w0⟩, turn⟩ := q _ nD big
  have I3 : Inv X pins σ (upd H2 s2.heap.objs.size (.lst [])) { s2 with heap := s2.heap.push { cls := .type "list", data := .seq ([] : List Value).toArray } } :=
    I2.laid (t' := s2.toks) (fun b o e => Heap.get?_push_of_some _ e) (Nat.le_refl _) ⟨Nat.zero_le _, [], 0, .nil, Heap.get?_push_size _ rfl⟩
  have szf : ∀ b ∈ fp, b < s2.heap.objs.size := fun b hb => let ⟨_, e, _⟩ := T.obj _ _ st2 b hb; Heap.lt_size e
  obtain ⟨D, eD⟩ : ∃ D, D = s2.heap.objs.size := ⟨_, rfl⟩
  rw [← eD] at nD w0 turn I3 szf ⊢
  have k3 : ∀ b o, s2.heap.get? b = some o → (s2.heap.push { cls := .type "list", data := .seq ([] : List Value).toArray }).get? b = some o := fun b o e => Heap.get?_push_of_some _ e
  have z3 : (s2.heap.push { cls := .type "list", data := .seq ([] : List Value).toArray }).objs.size = D + 1 := by rw [Heap.size_push, eD]
  generalize e3 : ({ s2 with heap := s2.heap.push { cls := .type "list", data := .seq ([] : List Value).toArray } } : Shared) = s3 at I3 ⊢
  have h3 : s3.heap = s2.heap.push { cls := .type "list", data := .seq ([] : List Value).toArray } := by rw [← e3]
  rw [← h3] at k3 z3
  obtain ⟨H3, eH⟩ : ∃ H3, H3 = upd H2 D (.lst []) := ⟨_, rfl⟩
  have fps : ∀ b ∈ fp, FpOk X pins H3 b ∧ b < s3.heap.objs.size := fun b hb => by
    refine ⟨⟨?_, (f2 b hb).2⟩, by rw [z3]; exact Nat.lt_succ_of_lt (szf b hb)⟩
    rw [eH, upd_ne (Nat.ne_of_lt (szf b hb))]
    exact (f2 b hb).1
  rw [← eH] at w0 I3
  have b4 := block_start I3 ok hN fps
  have st3 : tn 0 s3.heap := T.keep _ _ _ st2 fun b _ o e => k3 b o e
  show codeAny _ _ (.compStart (.ListComp elt [⟨tg, iter, ifs, 0⟩] scope pos) 0 (.ref it) (.ref D) (compEnvC scope (cellsFrom (s3.heap.objs.size + 1) scope.names (cloFrom X.env.cells scope.names [])) s3.heap.objs.size X.env)) (compPost (model X.prog X.w) X.A X.xe none _ (.ref D) s3.heap.objs.size) { s3 with heap := pushCells (s3.heap.push { cls := .type "dict", data := .dict #[] }) scope.names }
  have G1 := hg s3 H3 s3.heap.objs.size (cellsFrom (s3.heap.objs.size + 1) scope.names (cloFrom X.env.cells scope.names [])) fp
  have G2 := ht s3 H3 s3.heap.objs.size (cellsFrom (s3.heap.objs.size + 1) scope.names (cloFrom X.env.cells scope.names [])) fp
  have G3 := he s3 H3 s3.heap.objs.size (cellsFrom (s3.heap.objs.size + 1) scope.names (cloFrom X.env.cells scope.names [])) fp
  generalize ece : compEnvC scope (cellsFrom (s3.heap.objs.size + 1) scope.names (cloFrom X.env.cells scope.names [])) s3.heap.objs.size X.env = ce at b4 G1 G2 G3 ⊢
  have lc : ce.locals = s3.heap.objs.size := by rw [← ece]; rfl
  generalize e4 : ({ s3 with heap := pushCells (s3.heap.push { cls := .type "dict", data := .dict #[] }) scope.names } : Shared) = s4 at b4 ⊢
  have st4 : tn 0 s4.heap := T.keep _ _ _ st3 fun b _ o e => by rw [← e4]; exact pushCells_keeps _ _ _ _ (Heap.get?_push_of_some _ e)
  have still : ∀ {σ' : L2.St} {H' : Hp} {s' : Shared}, Inv (X.blk s3 H3 scope ce fp) [] σ' H' s' → (∀ b ∈ fp, H' b = none) → ∀ b ∈ fp, FpOk (X.blk s3 H3 scope ce fp) [] H' b := fun {σ' H' s'} J hn b hb =>
    ⟨hn b hb, (J.ok.exf b hb).1, J.ok.exfs b hb, Or.inl hb, fun x c e => (J.ok.exf b hb).2 x c e, fun p hp => by simp at hp⟩
  have walk : codeAny (model X.prog X.w) X.A (.compLoop (.ListComp elt [⟨tg, iter, ifs, 0⟩] scope pos) 0 (.ref it) (.ref D) ce) (compPost (model X.prog X.w) X.A X.xe none (EP X pins σ Q) (.ref D) s3.heap.objs.size) s4 := by
    refine compLoop_any (fun n s' => ∃ (i : Nat) (H' : Hp), Inv (X.blk s3 H3 scope ce fp) [] (wipe σ (own.map (·.2))) H' s' ∧ tn i s'.heap ∧ (∀ b ∈ fp, H' b = none) ∧ W i n H') (fun n s5 ⟨i, H5, I5, st5, n5, w5⟩ => ?_) m0 ⟨0, H3, b4, st4, fun b hb => (fps b hb).1.1, w0⟩
    rcases turn i n H5 w5 with ⟨stop, qq⟩ | ⟨go, Nx, hNx, step⟩
    · refine thnF (T.done (X.blk s3 H3 scope ce fp) rfl rfl rfl hc i [] s5 _ H5 (fun _ _ => False) I5 (still I5 n5) st5 stop) fun r s6 ⟨hr, I6⟩ => ?_
      subst hr
      have J := I3.call' (ch := fp) I6.os I6.base I6.hok I6.bare fun b hb => let f := (fps b hb).1.2; ⟨f.2.2.1, f.1, f.2.2.2.1, f.2.2.2.2⟩
      have nC : H5 s3.heap.objs.size = none := lc ▸ I6.free
      obtain ⟨m, hn, _⟩ := I6.loc
      have hn' : s6.heap.Ns s3.heap.objs.size m := lc ▸ (show s6.heap.Ns ce.locals m from hn)
      obtain ⟨f0, f1, f2, f3, f4, f5⟩ := I3.fpOk (Nat.le_refl _) nC
      exact ⟨m, hn', fun h'' sb => ⟨.ref D, H5, J.turned (t' := s6.toks) (fun b o hb e => (sb.2 b hb).trans e) f0 f1 f3 f4 f5, rfl, qq⟩⟩
    · refine thnF (T.item (X.blk s3 H3 scope ce fp) rfl rfl rfl hc i [] s5 _ H5 (fun _ _ => False) I5 (still I5 n5) st5 go) fun r s6 ⟨u, hr, h6⟩ => ?_
      subst hr
      refine thnF h6 fun _ s7 ⟨x, H7, I7, r7, y7, st7, n7⟩ => ?_
      have P7 := I7.pinned (still I7 n7) (T.obj _ _ st7)
      refine thnF (G1.run _ s7 _ H7 x u _ P7 r7 (step x H7 y7)) fun _ s8 ⟨σ8, H8, I8, hw8, q8⟩ => thnF (G2.run _ s8 σ8 H8 _ I8 q8) fun b s9 ⟨H9, I9, q9⟩ => ?_
      have fin : ∀ {s' : Shared} {H' : Hp}, Inv (X.blk s3 H3 scope ce fp) ([] ++ pinsAt fp s7.heap) σ8 H' s' → Nx H' → ∃ m, m < n ∧ ∃ (i : Nat) (H' : Hp), Inv (X.blk s3 H3 scope ce fp) [] (wipe σ (own.map (·.2))) H' s' ∧ tn i s'.heap ∧ (∀ b ∈ fp, H' b = none) ∧ W i m H' := fun {s' H'} J nx => by
        obtain ⟨m', hm, w'⟩ := hNx H' nx
        have kept : ∀ b ∈ fp, ∀ o, s7.heap.get? b = some o → s'.heap.get? b = some o ∧ H' b = none := fun b hb o e => by
          have z := J.pin (b, o) (List.mem_append_right _ (List.mem_append_right _ (mem_pinsAt hb e)))
          exact ⟨z.1, z.2.1⟩
        refine ⟨m', hm, i + 1, H', (J.unpinned (pins := [])).weak (by rw [← hw8, wipe_length]) (fun j v e => (wipe_some (hw8 ▸ e)).1), T.keep _ _ _ st7 fun b hb o e => (kept b hb o e).1, fun b hb => ?_, w'⟩
        obtain ⟨o, e, _⟩ := T.obj _ _ st7 b hb
        exact (kept b hb o e).2
      cases b with
      | false =>
        rw [if_neg Bool.false_ne_true] at q9 ⊢
        exact fin I9 q9
      | true =>
        rw [if_pos rfl] at q9 ⊢
        exact thnF (G3.run _ s9 σ8 H9 _ I9 q9) fun z s10 ⟨yv, H10, I10, r10, acc, hD10, room, nx⟩ => app_ok (X := X.blk s3 H3 scope ce fp) I10 hD10 room r10 fun s11 I11 => fin I11 nx
  exact codeAny_compStart_list walk (T.self X.A 0 _ _ _ st4 walk)
/-- sorted of a list or a tuple of fewer than 64 texts -/
def rSortB (K : PySem.W.Frag) : List V → Hp → VK → Prop := fun xs H Q => ∃ (a : Addr) (zs : List Str), xs = [.ref a] ∧ (SqL K H a (zs.map V.str) ∨ SqT K H a (zs.map V.str)) ∧ zs.length < 64 ∧ ∀ ys p, ys.Perm zs → sortedS ys = true → H p = none → p ≠ sysModules → Q (.ref p) (upd H p (.lst (ys.map V.str)))
theorem call_sortB : CallR X (.builtin "sorted") (rSortB X.K) := by
  intro pins s σ H xs us Q I r h
  obtain ⟨a, zs, rfl, ha, h64, q⟩ := h
  rw [Vals.ref1 r]
  obtain ⟨T, o, its, n, hT, rv, ho, hc, hd⟩ : ∃ (T : String) (o : Obj) (its : List Value) (n : Nat), (T = "list" ∨ T = "tuple") ∧ Vals (zs.map V.str) its ∧ s.heap.get? a = some o ∧ o.cls = .type T ∧ o.data = .seq its.toArray n := by
    rcases ha with ha | ha
    · obtain ⟨its, rv, pl, _⟩ := I.list ha
      obtain ⟨o, ho, hc, n, hd⟩ := pl.isList
      exact ⟨_, o, its, n, .inl rfl, rv, ho, hc, hd⟩
    · obtain ⟨its, rv, ⟨o, ho, hc, n, hd⟩, _⟩ := I.tuple ha
      exact ⟨_, o, its, n, .inr rfl, rv, ho, hc, hd⟩
  have vl : its.length = zs.length := by rw [← rv.length, List.length_map]
  refine Calls.call_function_entry PyProof.Rows.kind_sorted PyProof.Rows.plain_sorted PyProof.Rows.entry_sorted (PyProof.Rows.args_sorted1 _) ?_
  unfold Builtin.«sorted»
  refine wpAny_bind (m := checkCount "sorted" 1 1 _) (wpAny_pure (wpAny_bind (wpAny_collect_seq a hT ho hc hd (fun h1 k1 => ?_) (by rw [List.size_toArray, vl, sizeLine_eq]; omega))))
  have hS : StrsAre its zs := rv.strs
  have I1 : Inv X pins σ H { s with heap := h1 } := I.kept (t' := s.toks) k1
  refine wpAny_bind (wpAny_newList ?_ (by rw [show its.toArray.toList = its by simp, vl, sizeLine_eq]; omega))
  have oL : (h1.push (seqObj "list" its.toArray.toList.toArray 0)).get? h1.objs.size = some (seqObj "list" its.toArray.toList.toArray 0) := Heap.get?_push_size _ rfl
  rw [show its.toArray.toList = its by simp] at oL ⊢
  show wpAny _ _ _ _ _ { s with heap := h1.push (seqObj "list" its.toArray 0) }
  refine wpAny_bind (wpAny_holding (wpAny_call_entry PyProof.Rows.slot_list_sort ⟨_, oL, rfl⟩ PyProof.Rows.entry_list_sort
    (list_sort_treeK strKind_oneLt (s := { s with heap := h1.push (seqObj "list" its.toArray 0) }) oL hS.keysOf (fun v₁ v₂ rest e => keyKind_strs (by rw [← e]; exact hS)) (by rw [vl]; exact h64) fun st' hp hs => ⟨_, rfl, ?_⟩)
    (PyProof.Rows.args_list_sort _)))
  obtain ⟨ys, a1, a2, a3⟩ := sorted_out_str hS hp hs
  obtain ⟨e', he'⟩ := PyProof.Rows.sortedHeap_at (vs := its) (out := (arrOf st').map (·.2)) oL
  have yl : (ys.map V.str).length ≤ sizeLine := by
    rw [List.length_map, a2.length_eq, sizeLine_eq]
    omega
  refine wpAny_pure ⟨_, rfl, .ref h1.objs.size, upd H h1.objs.size (.lst (ys.map V.str)), I1.laid (t' := s.toks) (fun b u e => ?_) (Nat.le_refl _)
    (show ObjOk X.prog X.w _ _ _ (.lst (ys.map V.str)) from ⟨yl, ((arrOf st').map (·.2)).toList, e', vals_of_strs a1, by rw [Array.toArray_toList]; exact he'⟩), rfl, q ys _ a2 a3 (I1.hok.fresh (Nat.le_refl _)) (Nat.ne_of_gt I1.big)⟩
  have hb : b < h1.objs.size := Heap.lt_size e
  rw [PyProof.Rows.sortedHeap_old (Nat.ne_of_lt hb) (by rw [size_push']; exact Nat.lt_succ_of_lt hb)]
  exact Heap.get?_push_of_some _ e
end
end Fv


set_option Elab.async false
set_option linter.all false
set_option maxRecDepth 100000
set_option maxHeartbeats 4000000
namespace Fv
open PySem PySem.Spec PyProof.Rows L2
abbrev sAreNames : Stmt := top 16
abbrev sAreSettings : Stmt := top 9999
def dedup (l : List Str) : List Str := l.foldl insL []
theorem dedup_snoc (l : List Str) (x : Str) : dedup (l ++ [x]) = insL (dedup l) x := by
  unfold dedup
  rw [List.foldl_append]
  rfl
theorem insL_len (L : List Str) (k : Str) : (insL L k).length ≤ L.length + 1 := by
  unfold insL
  split
  · omega
  · rw [List.length_append]
    exact Nat.le_refl _
theorem fold_le : ∀ (l acc : List Str), (l.foldl insL acc).length ≤ acc.length + l.length
  | [], acc => by simp
  | x :: l, acc => by
    have h1 := fold_le l (insL acc x)
    have h2 := insL_len acc x
    rw [List.foldl_cons, List.length_cons]
    omega
theorem dedup_le (l : List Str) : (dedup l).length ≤ l.length := by
  have := fold_le l []
  rwa [List.length_nil, Nat.zero_add] at this
theorem fold_len : ∀ (l acc : List Str), acc.Nodup → ((l.foldl insL acc).length = acc.length + l.length ↔ (acc ++ l).Nodup)
  | [], acc, h => by simpa using h
  | x :: l, acc, h => by
    rw [List.foldl_cons]
    by_cases hx : x ∈ acc
    · have e : insL acc x = acc := by unfold insL; rw [if_pos hx]
      rw [e]
      have h1 := fold_le l acc
      constructor
      · intro z
        rw [z, List.length_cons] at h1
        omega
      · intro z
        rw [List.nodup_append] at z
        exact absurd rfl (z.2.2 x hx x List.mem_cons_self)
    · have e : insL acc x = acc ++ [x] := by unfold insL; rw [if_neg hx]
      have nd : (acc ++ [x]).Nodup := by
        rw [List.nodup_append]
        refine ⟨h, by simp, fun y hy z hz e => hx ?_⟩
        rw [List.mem_singleton.mp hz] at e
        exact e ▸ hy
      rw [e]
      have ih := fold_len l (acc ++ [x]) nd
      rw [List.length_append, List.append_assoc] at ih
      rw [List.length_cons]
      refine Iff.trans ?_ ih
      rw [show ([x] : List Str).length = 1 from rfl]
      constructor <;> intro z <;> omega
theorem dedup_len (l : List Str) : (dedup l).length = l.length ↔ l.Nodup := by
  have := fold_len l [] List.nodup_nil
  rwa [List.length_nil, Nat.zero_add, List.nil_append] at this
theorem dedup_dec {l : List Str} {n : Nat} (h : n = l.length) : decide (V.int ((dedup l).length : Int) = V.int (n : Int)) = decide l.Nodup := by
  rw [int_len, Bool.eq_iff_iff, decide_eq_true_eq, decide_eq_true_eq, h]
  exact dedup_len l
theorem scan4096 {n : Nat} (h : n ≤ 60) : n + 1 < scanBound := by
  have : scanBound = 4096 := rfl
  omega
section
variable {P : Program} {w : World} {K : PySem.W.Frag} {mg : Str → Option Value} {base : Heap} {C : Addr}
theorem scAn : FnScope ["thing", "item"] ["thing"] (defScope sAreNames) := ⟨rfl, rfl, rfl, by decide +kernel, rfl, by decide +kernel, by decide +kernel⟩
theorem ok_arenames {f fR fN : Addr} {fd fdR fdN : FuncData} (F : Fun K "are_names" "are_names" sAreNames f fd)
    (GR : FnOk P w K mg base CX0 1 fR fdR ["thing"] (spX C rowD)) (bR : Binds K fdR ["thing"] []) (mR : mg "is_row" = some (.ref fR)) (kR : PySem.W.keepIn K (.ref fR) = true)
    (GN : FnOk P w K mg base CX0 1 fN fdN ["thing"] (spX C nameD)) (bN : Binds K fdN ["thing"] []) (mN : mg "is_name" = some (.ref fN)) (kN : PySem.W.keepIn K (.ref fN) = true)
    (ma : mg "all" = none) (ml : mg "len" = none) : FnOk P w K mg base CX0 2 f fd ["thing"] (spX C namesD) := by
  refine F.ok scAn (fun vs H Q E h => ?_) (fun cdv A outer s H vs Q E hr h => ?_)
  · obtain ⟨b, v, d, rfl, _⟩ := h
    rfl
  · obtain ⟨b, v, d, rfl, hd, hs, hb, q⟩ := h
    refine ⟨_, pss_cons (ps_if (PW.pt (pw_or (pt_not (pt_val (pe_call GR hr (by rfl) mR kR bR .nil pass0 (pa_cons (pv 0) pa_nil)))) (pw_or1 (pt_not (pt_val (pe_callB (cr_all rfl) (by rfl) ma (by decide +kernel) (pa_cons
        (pe_lc (own := [("item", 1)]) (g := gName 1) (tt := tYes) rfl scAn.nd (pi_row (pv 0)) (blkOk_by (N := ["thing", "item"]) (sc := defScope sAreNames) (by decide +kernel))
        (fun _ _ _ _ _ => pg_name (i := 1) scAn.nd rfl (Or.inl rfl)) (fun _ _ _ _ _ => pts_nil) (fun _ _ _ _ _ => pe_call GN hr (by rfl) mN kN bN .nil pass0 (pa_cons (pv 1) pa_nil))) pa_nil)))))))
        (pss_one (ps_ret pe_bl)) pss_nil)
      (pss_one (ps_ret (pe_cmpR op_eq (pe_callB (r := rLenX P w) call_lenX (by rfl) ml PySem.boot_len (pa_cons
        (pe_scX (own := [("item", 1)]) (g := gName 1) (tt := tYes) rfl scAn.nd (pi_row (pv 0)) (blkOk_by (N := ["thing", "item"]) (sc := defScope sAreNames) (by decide +kernel))
        (fun _ _ _ _ _ => pg_name (i := 1) scAn.nd rfl (Or.inl rfl)) (fun _ _ _ _ _ => pts_nil) (fun _ _ _ _ _ => pv 1)) pa_nil)) (pe_callB call_len_seq (by rfl) ml PySem.boot_len (pa_cons (pv 0) pa_nil)) (nomark _)))), ?_⟩
    have e : namesD d = (rowD d && (itemsD d).all nameD && decide ((itemsD d).map strS).Nodup) := rfl
    rw [e] at q
    refine ⟨_, rfl, b, v, d, rfl, hd, hs, hb, fun H1 s1 => ⟨_, rfl, ?_⟩⟩
    cases h0 : rowD d with
    | false =>
      rw [h0] at q
      exact q H1 s1
    | true =>
      rw [h0, Bool.true_and] at q
      have hd1 : Dx C H1 b v d := hd.mono fun a o _ e => s1 a o e
      obtain ⟨a, xs, ds, rfl, hdd, hrow, hx⟩ := hd1.row_of (K := K) h0
      rw [rows_items hdd] at q
      obtain ⟨hl, hok⟩ := rows_ok hdd hs
      have hlen := hx.len
      refine iteF ⟨_, rfl, a, xs, rfl, hrow, fun J G wk hG D hD => ?_⟩
      refine lc_it wk (fun i H' => Same H1 H' ∧ H' D = some (.lst ((ds.take i).map fun d => V.bl (nameD d)))) ⟨same_upd hD, upd_same⟩ (fun i H' _ h => hG H' h.1) ?_ ?_
      · rintro i x H' H2 hi ⟨s', e'⟩ ⟨rfl, hxi⟩
        obtain ⟨dx, hdi, hdx⟩ := hx.get hxi
        refine ⟨rfl, _, rfl, b, x, dx, rfl, hdx.mono fun c o _ e => s' c o e, hok.mem dx (List.mem_of_getElem? hdi), there (s1.trans s') hb, fun H3 s3 => ⟨_, s3 _ _ e', ?_, fun c o e => ?_, ?_⟩⟩
        · rw [List.length_map, List.length_take]
          exact small60 (by omega)
        · rw [upd_ne (ne_of_none e hD)]
          exact s3 _ _ (s' c o e)
        · rw [upd_same, take_map_snoc hdi]
      · rintro H2 ⟨s2, e2⟩
        rw [hlen, List.take_length] at e2
        refine ⟨D, ds.map nameD, rfl, SqL.of (by rw [List.map_map]; exact e2), ?_⟩
        rw [List.all_map]
        refine ⟨ds.all nameD, rfl, ?_⟩
        cases h2 : ds.all nameD with
        | false =>
          rw [h2] at q
          exact iteT (q H2 (s1.trans s2))
        | true =>
          rw [h2, Bool.true_and] at q
          refine iteF ⟨_, rfl, a, xs, rfl, hrow.imp (fun h => h.same s2) (fun h => h.same s2), fun J2 G2 wk2 hG2 D2 hD2 => ?_⟩
          refine sc_it wk2 (fun i H' => Same H2 H' ∧ H' D2 = some (TxtO P w D2 (dedup ((ds.take i).map strS)))) ⟨same_upd hD2, upd_same⟩ (fun i H' _ h => hG2 H' h.1) ?_ ?_
          · rintro i x H' H3 hi ⟨s', e'⟩ ⟨rfl, hxi⟩
            obtain ⟨dx, hdi, hdx⟩ := hx.get hxi
            obtain ⟨z, rfl⟩ := name_str (List.all_eq_true.mp h2 dx (List.mem_of_getElem? hdi))
            cases hdx
            refine ⟨rfl, _, rfl, z, _, rfl, e', ?_, fun c o e => ?_, ?_⟩
            · refine scan4096 (Nat.le_trans (dedup_le _) ?_)
              rw [List.length_map, List.length_take]
              omega
            · rw [upd_ne (ne_of_none e hD2)]
              exact s' c o e
            · rw [upd_same, take_map_snoc hdi, dedup_snoc]
              rfl
          · rintro H3 ⟨s3, e3⟩
            rw [hlen, List.take_length] at e3
            refine ⟨D2, _, rfl, e3, _, rfl, a, xs, rfl, ?_, rfl, ?_⟩
            · exact hrow.imp (fun h => (h.same s2).same s3) (fun h => (h.same s2).same s3)
            · rw [dedup_dec (by rw [hlen, List.length_map])]
              exact q H3 ((s1.trans s2).trans s3)
end
end Fv


/-! Shortest walks: a pure part, no program in it. Facts (x, y, c) as a list of triples; a walk of x to y goes along facts. -/
namespace Fv.M

set_option linter.unusedSectionVars false
variable {S : Type} [DecidableEq S]

abbrev Fa (S : Type) := List (S × S × Int)

/-- a walk from `x` to `z` of sum `c` and `n` facts, all whose points keep `A` -/
inductive Wk (F : Fa S) (A : S → Prop) : S → S → Int → Nat → Prop
  | nil {x} : A x → Wk F A x x 0 0
  | cons {x y z c d n} : (x, y, c) ∈ F → A x → Wk F A y z d n → Wk F A x z (c + d) (n + 1)

/-- a start keeps all facts -/
def Keeps (F : Fa S) (p : S → Int) : Prop := ∀ x y c, (x, y, c) ∈ F → p x - p y ≤ c

theorem Wk.pot {F : Fa S} {A : S → Prop} {p : S → Int} (K : Keeps F p) :
    ∀ {x y c n}, Wk F A x y c n → p x - p y ≤ c := by
  intro x y c n w
  induction w with
  | nil _ => omega
  | @cons x y z c d n h _ _ ih => have := K _ _ _ h; omega

theorem Wk.mono {F : Fa S} {A B : S → Prop} (h : ∀ x, A x → B x) :
    ∀ {x y c n}, Wk F A x y c n → Wk F B x y c n := by
  intro x y c n w
  induction w with
  | nil a => exact .nil (h _ a)
  | cons m a _ ih => exact .cons m (h _ a) ih

theorem Wk.at0 {F : Fa S} {A : S → Prop} : ∀ {x y c n}, Wk F A x y c n → A x := by
  intro x y c n w
  cases w with
  | nil a => exact a
  | cons _ a _ => exact a

theorem Wk.at1 {F : Fa S} {A : S → Prop} : ∀ {x y c n}, Wk F A x y c n → A y := by
  intro x y c n w
  induction w with
  | nil a => exact a
  | cons _ _ _ ih => exact ih

theorem Wk.app {F : Fa S} {A : S → Prop} : ∀ {x y c n} {z d m}, Wk F A x y c n → Wk F A y z d m → Wk F A x z (c + d) (n + m) := by
  intro x y c n z d m w v
  induction w with
  | nil _ => simpa using v
  | @cons x y z c d n h a _ ih =>
    have := Wk.cons h a (ih v)
    rw [Int.add_assoc, Nat.add_right_comm]; exact this

/-- the last visit of `x`: the walk stays away from it, or ends there, or leaves it for good -/
theorem Wk.last {F : Fa S} {A : S → Prop} {p : S → Int} (K : Keeps F p) (x : S) :
    ∀ {u y c n}, Wk F A u y c n →
      (Wk F (fun s => A s ∧ s ≠ x) u y c n) ∨ y = x ∨
      ∃ z e d m, (x, z, e) ∈ F ∧ Wk F (fun s => A s ∧ s ≠ x) z y d m ∧ p u - p x + e + d ≤ c := by
  intro u y c n w
  induction w with
  | @nil u a =>
    by_cases h : u = x
    · exact .inr (.inl h)
    · exact .inl (.nil ⟨a, h⟩)
  | @cons u v y c d n h a w ih =>
    rcases ih with ih | ih | ⟨z, e, d', m, hz, wz, hc⟩
    · by_cases hu : u = x
      · subst hu
        exact .inr (.inr ⟨v, c, d, n, h, ih, by omega⟩)
      · exact .inl (.cons h ⟨a, hu⟩ ih)
    · exact .inr (.inl ih)
    · refine .inr (.inr ⟨z, e, d', m, hz, wz, ?_⟩)
      have := K _ _ _ h
      omega

theorem Wk.inF {F : Fa S} {A : S → Prop} {x y : S} {c : Int} {n : Nat} (w : Wk F A x y c n) : A x ∧ A y := ⟨w.at0, w.at1⟩

/-- each walk has a short one that is no dearer: as many facts as there are points, less one -/
theorem Wk.short {F : Fa S} {p : S → Int} (K : Keeps F p) :
    ∀ (k : Nat) (V : List S), V.length ≤ k → ∀ {x y c n}, Wk F (fun s => s ∈ V) x y c n →
      ∃ c' n', Wk F (fun s => s ∈ V) x y c' n' ∧ c' ≤ c ∧ n' + 1 ≤ k := by
  intro k
  induction k with
  | zero =>
    intro V hV x y c n w
    have := w.at0
    cases V with
    | nil => cases this
    | cons => simp at hV
  | succ k ih =>
    intro V hV x y c n w
    by_cases hxy : y = x
    · subst hxy
      have := w.pot K
      exact ⟨0, 0, .nil w.at0, by omega, by omega⟩
    rcases w.last K x with h | h | ⟨z, e, d, m, hz, wz, hc⟩
    · exact absurd rfl h.at0.2
    · exact absurd h hxy
    · have hlen : (V.filter (fun s => decide (s ≠ x))).length ≤ k := by
        have h1 : (V.filter (fun s => decide (s ≠ x))).length < V.length := by
          have : ∀ (L : List S), x ∈ L → (L.filter (fun s => decide (s ≠ x))).length < L.length := by
            intro L hL
            induction L with
            | nil => cases hL
            | cons a t it =>
              by_cases ha : a = x
              · subst ha
                have := List.length_filter_le (fun s => decide (s ≠ a)) t
                simp only [List.filter_cons, ne_eq, not_true_eq_false, decide_false, List.length_cons, Bool.false_eq_true, if_false]
                simp only [ne_eq] at this
                omega
              · have hm : x ∈ t := by
                  cases hL with
                  | head => exact absurd rfl ha
                  | tail _ h => exact h
                have := it hm
                simp only [ne_eq] at this
                simp only [List.filter_cons, ne_eq, ha, not_false_eq_true, decide_true, if_true, List.length_cons]
                omega
          exact this V w.at0
        omega
      obtain ⟨c', n', w', hc', hn'⟩ := ih _ hlen (wz.mono (B := fun s => s ∈ V.filter (fun s => decide (s ≠ x)))
        (by intro s hs; simp only [List.mem_filter]; exact ⟨hs.1, by simp [hs.2]⟩))
      refine ⟨e + c', n' + 1, .cons hz w.at0 (w'.mono (by intro s hs; exact (List.mem_filter.1 hs).1)), by omega, by omega⟩

end Fv.M


/-! Two ways to the least sums, and that they come to the same (pure). -/
namespace Fv.M
set_option linter.unusedSectionVars false
variable {S : Type} [DecidableEq S]

abbrev Tb (S : Type) := S → S → Option Int

/-- what a table says of `x` and `y` is the least sum of walks, none if there is no walk -/
structure Lst (F : Fa S) (A : S → Prop) (x y : S) (o : Option Int) : Prop where
  there : ∀ g, o = some g → ∃ n, Wk F A x y g n
  least : ∀ c n, Wk F A x y c n → ∃ g, o = some g ∧ g ≤ c

theorem Lst.uniq {F : Fa S} {A : S → Prop} {x y : S} {o o' : Option Int} (h : Lst F A x y o) (h' : Lst F A x y o') : o = o' := by
  cases o with
  | none =>
    cases o' with
    | none => rfl
    | some g =>
      obtain ⟨n, w⟩ := h'.there g rfl
      obtain ⟨g', e, _⟩ := h.least _ _ w
      cases e
  | some g =>
    obtain ⟨n, w⟩ := h.there g rfl
    obtain ⟨g', e', l'⟩ := h'.least _ _ w
    subst e'
    obtain ⟨n', w'⟩ := h'.there g' rfl
    obtain ⟨g2, e2, l2⟩ := h.least _ _ w'
    cases e2
    have : g = g' := by omega
    rw [this]

def put (T : Tb S) (x y : S) (c : Int) : Tb S := fun u v => if u = x ∧ v = y then some c else T u v

/-- one turn of the law's: the way over the fact (x, y, c) to `o` -/
def rx (T : Tb S) (x y : S) (c : Int) (o : S) : Tb S :=
  match T y o with
  | none => T
  | some b =>
    match T x o with
    | none => put T x o (b + c)
    | some a => if b + c < a then put T x o (b + c) else T

def pass (V : List S) (T : Tb S) (f : S × S × Int) : Tb S := V.foldl (fun T o => rx T f.1 f.2.1 f.2.2 o) T
def round (V : List S) (F : Fa S) (T : Tb S) : Tb S := F.foldl (pass V) T

/-- the second table is nowhere worse -/
def Bt (T T' : Tb S) : Prop := ∀ x y g, T x y = some g → ∃ g', T' x y = some g' ∧ g' ≤ g

theorem Bt.rfl' (T : Tb S) : Bt T T := fun _ _ g h => ⟨g, h, Int.le_refl _⟩
theorem Bt.trans {T T' T'' : Tb S} (h : Bt T T') (h' : Bt T' T'') : Bt T T'' := fun x y g e => by
  obtain ⟨g', e', l⟩ := h _ _ _ e
  obtain ⟨g'', e'', l'⟩ := h' _ _ _ e'
  exact ⟨g'', e'', by omega⟩

theorem rx_cases (T : Tb S) (x y : S) (c : Int) (o : S) :
    (T y o = none ∧ rx T x y c o = T) ∨
    ∃ b, T y o = some b ∧ ((rx T x y c o = put T x o (b + c) ∧ ∀ a, T x o = some a → b + c < a) ∨ (rx T x y c o = T ∧ ∃ a, T x o = some a ∧ a ≤ b + c)) := by
  unfold rx
  cases hb : T y o with
  | none => exact .inl ⟨rfl, rfl⟩
  | some b =>
    refine .inr ⟨b, rfl, ?_⟩
    cases ha : T x o with
    | none => exact .inl ⟨rfl, fun a e => by cases e⟩
    | some a =>
      by_cases h : b + c < a
      · exact .inl ⟨by simp only [h, if_true], fun a' e => by cases e; exact h⟩
      · exact .inr ⟨by simp only [h, if_false], a, rfl, by omega⟩

theorem rx_bt (T : Tb S) (x y : S) (c : Int) (o : S) : Bt T (rx T x y c o) := by
  intro u v g h
  rcases rx_cases T x y c o with ⟨_, e⟩ | ⟨b, hb, ⟨e, l⟩ | ⟨e, _⟩⟩
  · exact ⟨g, by rw [e]; exact h, Int.le_refl _⟩
  · rw [e]
    by_cases q : u = x ∧ v = o
    · rw [q.1, q.2] at h
      have := l _ h
      exact ⟨b + c, by simp only [put, q, and_self, if_true], by omega⟩
    · exact ⟨g, by simp only [put, q, if_false]; exact h, Int.le_refl _⟩
  · exact ⟨g, by rw [e]; exact h, Int.le_refl _⟩

theorem rx_hit {T : Tb S} {x y : S} {c : Int} {o : S} {b : Int} (hb : T y o = some b) : ∃ g, rx T x y c o x o = some g ∧ g ≤ b + c := by
  rcases rx_cases T x y c o with ⟨e, _⟩ | ⟨b', hb', ⟨e, l⟩ | ⟨e, a, ha, l⟩⟩
  · rw [hb] at e; cases e
  · rw [hb] at hb'; cases hb'
    exact ⟨b + c, by rw [e]; simp [put], Int.le_refl _⟩
  · rw [hb] at hb'; cases hb'
    exact ⟨a, by rw [e]; exact ha, l⟩

theorem rx_there {F : Fa S} {A : S → Prop} {T : Tb S} {x y : S} {c : Int} {o : S} (hF : (x, y, c) ∈ F) (hx : A x)
    (h : ∀ u v g, T u v = some g → ∃ n, Wk F A u v g n) : ∀ u v g, rx T x y c o u v = some g → ∃ n, Wk F A u v g n := by
  intro u v g
  rcases rx_cases T x y c o with ⟨_, e⟩ | ⟨b, hb, ⟨e, l⟩ | ⟨e, _⟩⟩
  · rw [e]; exact h u v g
  · rw [e]
    unfold put
    split
    · rename_i q
      intro e'
      cases e'
      rw [q.1, q.2]
      obtain ⟨n, w⟩ := h _ _ _ hb
      exact ⟨n + 1, by have := Wk.cons hF hx w; rwa [Int.add_comm] at this⟩
    · exact h u v g
  · rw [e]; exact h u v g

/-- the same for the folds -/
theorem foldl_bt {α : Type} (f : Tb S → α → Tb S) (hf : ∀ T a, Bt T (f T a)) : ∀ (L : List α) (T : Tb S), Bt T (L.foldl f T)
  | [], T => Bt.rfl' T
  | a :: L, T => (hf T a).trans (foldl_bt f hf L (f T a))

theorem foldl_all {α : Type} (P : Tb S → Prop) (f : Tb S → α → Tb S) :
    ∀ (L : List α) (T : Tb S), (∀ T a, a ∈ L → P T → P (f T a)) → P T → P (L.foldl f T)
  | [], _, _, h => h
  | a :: L, T, hf, h => foldl_all P f L (f T a) (fun T b hb => hf T b (List.mem_cons_of_mem _ hb)) (hf T a List.mem_cons_self h)

theorem pass_bt (V : List S) (T : Tb S) (f : S × S × Int) : Bt T (pass V T f) := foldl_bt _ (fun T o => rx_bt T _ _ _ o) V T
theorem round_bt (V : List S) (F : Fa S) (T : Tb S) : Bt T (round V F T) := foldl_bt _ (fun T f => pass_bt V T f) F T

theorem pass_hit (x y : S) (c : Int) (o : S) (b : Int) : ∀ (V : List S) (T : Tb S), o ∈ V → (∃ b', T y o = some b' ∧ b' ≤ b) → ∃ g, pass V T (x, y, c) x o = some g ∧ g ≤ b + c := by
  intro V
  induction V with
  | nil => intro T h; cases h
  | cons v V ih =>
    intro T h ⟨b', hb, l⟩
    by_cases e : v = o
    · subst e
      obtain ⟨g, hg, hl⟩ := rx_hit (x := x) (c := c) hb
      obtain ⟨g', hg', hl'⟩ := foldl_bt (fun T o => rx T x y c o) (fun T o => rx_bt T _ _ _ o) V _ _ _ _ hg
      exact ⟨g', hg', by omega⟩
    · have hm : o ∈ V := by
        cases h with
        | head => exact absurd rfl e
        | tail _ h => exact h
      obtain ⟨b2, h2, l2⟩ := rx_bt T x y c v _ _ _ hb
      exact ih _ hm ⟨b2, h2, by omega⟩

theorem round_hit {V : List S} (x y : S) (c : Int) (o : S) (ho : o ∈ V) (b : Int) : ∀ (F : Fa S) (T : Tb S), (x, y, c) ∈ F → (∃ b', T y o = some b' ∧ b' ≤ b) →
    ∃ g, round V F T x o = some g ∧ g ≤ b + c := by
  intro F
  induction F with
  | nil => intro T h; cases h
  | cons f F ih =>
    intro T h hb
    by_cases e : f = (x, y, c)
    · subst e
      obtain ⟨g, hg, hl⟩ := pass_hit x y c o b V T ho hb
      obtain ⟨g', hg', hl'⟩ := foldl_bt (pass V) (fun T f => pass_bt V T f) F _ _ _ _ hg
      exact ⟨g', hg', by omega⟩
    · have hm : (x, y, c) ∈ F := by
        cases h with
        | head => exact absurd rfl e
        | tail _ h => exact h
      obtain ⟨b', hb', l⟩ := hb
      obtain ⟨b2, h2, l2⟩ := pass_bt V T f _ _ _ hb'
      exact ih _ hm ⟨b2, h2, by omega⟩

/-- `n` rounds -/
def rounds (V : List S) (F : Fa S) : Nat → Tb S → Tb S
  | 0, T => T
  | n + 1, T => round V F (rounds V F n T)

def diag (V : List S) : Tb S := fun x y => if x = y ∧ x ∈ V then some 0 else none

theorem rounds_there {V : List S} {F : Fa S} (hF : ∀ x y c, (x, y, c) ∈ F → x ∈ V) : ∀ n u v g, rounds V F n (diag V) u v = some g → ∃ m, Wk F (fun s => s ∈ V) u v g m := by
  intro n
  induction n with
  | zero =>
    intro u v g h
    simp only [rounds, diag] at h
    split at h
    · rename_i e
      cases h
      rw [← e.1]; exact ⟨0, .nil e.2⟩
    · cases h
  | succ n ih =>
    show ∀ u v g, round V F (rounds V F n (diag V)) u v = some g → _
    refine foldl_all (fun T => ∀ u v g, T u v = some g → ∃ m, Wk F (fun s => s ∈ V) u v g m) (pass V) F _ ?_ ih
    intro T f hf hT
    obtain ⟨x, y, c⟩ := f
    exact foldl_all (fun T => ∀ u v g, T u v = some g → ∃ m, Wk F (fun s => s ∈ V) u v g m) _ V _
      (fun T o _ hT => rx_there hf (hF _ _ _ hf) hT) hT

theorem rounds_up {V : List S} {F : Fa S} (T : Tb S) (n : Nat) : ∀ k, Bt (rounds V F n T) (rounds V F (n + k) T)
  | 0 => Bt.rfl' _
  | k + 1 => (rounds_up T n k).trans (round_bt _ _ _)

theorem rounds_least {V : List S} {F : Fa S} : ∀ {x y c n}, Wk F (fun s => s ∈ V) x y c n → ∃ g, rounds V F n (diag V) x y = some g ∧ g ≤ c := by
  intro x y c n w
  induction w with
  | @nil x a => exact ⟨0, by simp [rounds, diag, a], Int.le_refl _⟩
  | @cons x y z c d n h a w ih =>
    obtain ⟨g, hg, hl⟩ := round_hit x y c z w.at1 d F _ h ih
    exact ⟨g, hg, by omega⟩

/-- the law's table: as many rounds as there are points are enough -/
theorem rounds_lst {V : List S} {F : Fa S} {p : S → Int} (K : Keeps F p) (hF : ∀ x y c, (x, y, c) ∈ F → x ∈ V)
    {n : Nat} (hn : V.length ≤ n) (x y : S) : Lst F (fun s => s ∈ V) x y (rounds V F n (diag V) x y) where
  there := rounds_there hF n x y
  least := fun c m w => by
    obtain ⟨c', n', w', hc, hl⟩ := w.short K V.length V (Nat.le_refl _)
    obtain ⟨g, hg, hg'⟩ := rounds_least w'
    obtain ⟨k, hk⟩ : ∃ k, n = n' + k := ⟨n - n', by omega⟩
    obtain ⟨g2, hg2, hl2⟩ := rounds_up (V := V) (F := F) (diag V) n' k _ _ _ hg
    exact ⟨g2, by rw [hk]; exact hg2, by omega⟩

end Fv.M


/-! The program's way: a table closed point by point (pure). -/
namespace Fv.M
set_option linter.unusedSectionVars false
variable {S : Type} [DecidableEq S]

/-- `T` holds the tightest of the facts of `L` about unlike sources -/
structure Tg (L : Fa S) (T : Tb S) : Prop where
  off : ∀ x, T x x = none
  from_ : ∀ x y g, T x y = some g → (x, y, g) ∈ L
  le : ∀ x y c, (x, y, c) ∈ L → x ≠ y → ∃ g, T x y = some g ∧ g ≤ c

/-- one turn of the loop that makes it -/
def tgStep (T : Tb S) (f : S × S × Int) : Tb S :=
  if f.1 ≠ f.2.1 ∧ (∀ g, T f.1 f.2.1 = some g → f.2.2 < g) then put T f.1 f.2.1 f.2.2 else T

theorem Tg.nil : Tg ([] : Fa S) (fun _ _ => none) := ⟨fun _ => rfl, fun _ _ _ h => (by cases h), fun _ _ _ h => (by cases h)⟩

theorem Tg.step {L : Fa S} {T : Tb S} (h : Tg L T) (f : S × S × Int) : Tg (L ++ [f]) (tgStep T f) := by
  obtain ⟨x, y, c⟩ := f
  unfold tgStep
  dsimp only
  by_cases q : x ≠ y ∧ (∀ g, T x y = some g → c < g)
  · rw [if_pos q]
    refine ⟨fun u => ?_, fun u v g e => ?_, fun u v g m n => ?_⟩
    · unfold put
      split
      · rename_i e; exact absurd (e.1.symm.trans e.2) q.1
      · exact h.off u
    · unfold put at e
      split at e
      · rename_i r; cases e; rw [r.1, r.2]; simp
      · exact List.mem_append_left _ (h.from_ _ _ _ e)
    · unfold put
      by_cases r : u = x ∧ v = y
      · rw [if_pos r]
        refine ⟨c, rfl, ?_⟩
        rcases List.mem_append.1 m with m | m
        · obtain ⟨g', e', l'⟩ := h.le _ _ _ m n
          rw [r.1, r.2] at e'
          have := q.2 _ e'
          omega
        · simp only [List.mem_singleton, Prod.mk.injEq] at m
          omega
      · rw [if_neg r]
        rcases List.mem_append.1 m with m | m
        · exact h.le _ _ _ m n
        · simp only [List.mem_singleton, Prod.mk.injEq] at m
          exact absurd ⟨m.1, m.2.1⟩ r
  · rw [if_neg q]
    refine ⟨h.off, fun u v g e => List.mem_append_left _ (h.from_ _ _ _ e), fun u v g m n => ?_⟩
    rcases List.mem_append.1 m with m | m
    · exact h.le _ _ _ m n
    · simp only [List.mem_singleton, Prod.mk.injEq] at m
      obtain ⟨rfl, rfl, rfl⟩ := m
      cases ht : T u v with
      | none => exact absurd ⟨n, fun g' e' => by rw [ht] at e'; cases e'⟩ q
      | some a =>
        refine ⟨a, rfl, ?_⟩
        by_cases l : a ≤ g
        · exact l
        · exact absurd ⟨n, fun g' e' => by rw [ht] at e'; cases e'; omega⟩ q

/-- the list that a turn of the closing hands on: what the table holds, and the ways over `m` -/
structure Over (T : Tb S) (m : S) (L : Fa S) : Prop where
  from_ : ∀ x y c, (x, y, c) ∈ L → T x y = some c ∨ ∃ a b, T x m = some a ∧ T m y = some b ∧ c = a + b
  own : ∀ x y c, T x y = some c → (x, y, c) ∈ L
  way : ∀ x y a b, T x m = some a → T m y = some b → (x, y, a + b) ∈ L

/-- what stays while the table is closed -/
structure Cl (F : Fa S) (p : S → Int) (M : List S) (T : Tb S) : Prop where
  off : ∀ x, T x x = none
  pot : ∀ x y c, T x y = some c → p x - p y ≤ c
  walk : ∀ x y c, T x y = some c → ∃ n, Wk F (fun _ => True) x y c n
  fact : ∀ x y c, (x, y, c) ∈ F → x ≠ y → ∃ g, T x y = some g ∧ g ≤ c
  tri : ∀ m ∈ M, ∀ x y a b, T x m = some a → T m y = some b → x ≠ y → ∃ g, T x y = some g ∧ g ≤ a + b
  ends : ∀ x y c, T x y = some c → (∃ y' c', (x, y', c') ∈ F ∧ x ≠ y') ∧ ∃ x' c', (x', y, c') ∈ F ∧ x' ≠ y

theorem Cl.first {F : Fa S} {p : S → Int} (K : Keeps F p) {T : Tb S} (h : Tg F T) : Cl F p [] T where
  off := h.off
  pot := fun x y c e => K _ _ _ (h.from_ _ _ _ e)
  walk := fun x y c e => ⟨1, by have := Wk.cons (A := fun _ => True) (h.from_ _ _ _ e) trivial (.nil trivial); simpa using this⟩
  fact := h.le
  tri := fun m hm => by cases hm
  ends := fun x y c e => by
    have hxy : x ≠ y := fun q => by rw [q, h.off] at e; cases e
    exact ⟨⟨y, c, h.from_ _ _ _ e, hxy⟩, ⟨x, c, h.from_ _ _ _ e, hxy⟩⟩

/-- no fact of the next list is about one source and below 0 -/
theorem Cl.fine {F : Fa S} {p : S → Int} {M : List S} {T : Tb S} (h : Cl F p M T) {m : S} {L : Fa S} (o : Over T m L) :
    Keeps L p := fun x y c hm => by
  rcases o.from_ _ _ _ hm with e | ⟨a, b, ha, hb, e⟩
  · exact h.pot _ _ _ e
  · have := h.pot _ _ _ ha; have := h.pot _ _ _ hb; omega

theorem Cl.next {F : Fa S} {p : S → Int} {M : List S} {T T' : Tb S} (h : Cl F p M T) {m : S} {L : Fa S} (o : Over T m L) (t : Tg L T') :
    Cl F p (m :: M) T' := by
  have case' : ∀ x y c, T' x y = some c → T x y = some c ∨ ∃ a b, T x m = some a ∧ T m y = some b ∧ c = a + b :=
    fun x y c e => o.from_ _ _ _ (t.from_ _ _ _ e)
  have low : ∀ x y c, T x y = some c → ∃ g, T' x y = some g ∧ g ≤ c := fun x y c e =>
    t.le _ _ _ (o.own _ _ _ e) (fun q => by rw [q, h.off] at e; cases e)
  have lowM : ∀ x y a b, T x m = some a → T m y = some b → x ≠ y → ∃ g, T' x y = some g ∧ g ≤ a + b := fun x y a b ha hb n =>
    t.le _ _ _ (o.way _ _ _ _ ha hb) n
  have round0 : ∀ x a b, T x m = some a → T m x = some b → 0 ≤ a + b := fun x a b ha hb => by
    have := h.pot _ _ _ ha; have := h.pot _ _ _ hb; omega
  refine ⟨t.off, fun x y c e => (h.fine o) _ _ _ (t.from_ _ _ _ e), fun x y c e => ?_, fun x y c hm n => ?_, ?_, fun x y c e => ?_⟩
  · rcases case' _ _ _ e with e | ⟨a, b, ha, hb, e⟩
    · exact h.walk _ _ _ e
    · obtain ⟨n1, w1⟩ := h.walk _ _ _ ha
      obtain ⟨n2, w2⟩ := h.walk _ _ _ hb
      exact ⟨n1 + n2, by rw [e]; exact w1.app w2⟩
  · obtain ⟨g, e, l⟩ := h.fact _ _ _ hm n
    obtain ⟨g', e', l'⟩ := low _ _ _ e
    exact ⟨g', e', by omega⟩
  · intro k hk x y a b ha hb hxy
    -- the new point: nothing goes over it to itself
    by_cases hkm : k = m
    · subst hkm
      have ha' : T x k = some a := by
        rcases case' _ _ _ ha with e | ⟨_, b', _, hb', _⟩
        · exact e
        · rw [h.off] at hb'; cases hb'
      have hb' : T k y = some b := by
        rcases case' _ _ _ hb with e | ⟨a', _, ha', _, _⟩
        · exact e
        · rw [h.off] at ha'; cases ha'
      exact lowM _ _ _ _ ha' hb' hxy
    have hk' : k ∈ M := by
      cases hk with
      | head => exact absurd rfl hkm
      | tail _ h => exact h
    have tri := h.tri k hk'
    rcases case' _ _ _ ha with ea | ⟨a1, a2, ha1, ha2, ea⟩
    · rcases case' _ _ _ hb with eb | ⟨b1, b2, hb1, hb2, eb⟩
      · obtain ⟨g, e, l⟩ := tri _ _ _ _ ea eb hxy
        obtain ⟨g', e', l'⟩ := low _ _ _ e
        exact ⟨g', e', by omega⟩
      · -- x → k, k → m → y
        by_cases hxm : x = m
        · subst hxm
          have := round0 k b1 a hb1 ea
          obtain ⟨g', e', l'⟩ := low _ _ _ hb2
          exact ⟨g', e', by omega⟩
        · obtain ⟨g, e, l⟩ := tri _ _ _ _ ea hb1 hxm
          obtain ⟨g', e', l'⟩ := lowM _ _ _ _ e hb2 hxy
          exact ⟨g', e', by omega⟩
    · rcases case' _ _ _ hb with eb | ⟨b1, b2, hb1, hb2, eb⟩
      · -- x → m → k, k → y
        by_cases hym : m = y
        · subst hym
          have := round0 k b a2 eb ha2
          obtain ⟨g', e', l'⟩ := low _ _ _ ha1
          exact ⟨g', e', by omega⟩
        · obtain ⟨g, e, l⟩ := tri _ _ _ _ ha2 eb hym
          obtain ⟨g', e', l'⟩ := lowM _ _ _ _ ha1 e hxy
          exact ⟨g', e', by omega⟩
      · have := round0 k b1 a2 hb1 ha2
        obtain ⟨g', e', l'⟩ := lowM _ _ _ _ ha1 hb2 hxy
        exact ⟨g', e', by omega⟩
  · rcases case' _ _ _ e with e | ⟨a, b, ha, hb, _⟩
    · exact h.ends _ _ _ e
    · exact ⟨(h.ends _ _ _ ha).1, (h.ends _ _ _ hb).2⟩

/-- closed over all points that stand at both ends of facts: the least sums -/
theorem Cl.lst {F : Fa S} {p : S → Int} {M : List S} {T : Tb S} (K : Keeps F p) (h : Cl F p M T)
    (hM : ∀ m x y c d, (x, m, c) ∈ F → x ≠ m → (m, y, d) ∈ F → m ≠ y → m ∈ M) {x y : S} (hxy : x ≠ y) :
    Lst F (fun _ => True) x y (T x y) where
  there := h.walk x y
  least := by
    have key : ∀ {x y c n}, Wk F (fun _ => True) x y c n → x ≠ y → ∃ g, T x y = some g ∧ g ≤ c := by
      intro x y c n w
      induction w with
      | nil _ => intro q; exact absurd rfl q
      | @cons x z y c d n hf _ w ih =>
        intro q
        have p1 := K _ _ _ hf
        have p2 := w.pot K
        by_cases hzy : z = y
        · subst hzy
          obtain ⟨g, e, l⟩ := h.fact _ _ _ hf q
          exact ⟨g, e, by omega⟩
        by_cases hxz : x = z
        · subst hxz
          obtain ⟨g, e, l⟩ := ih q
          exact ⟨g, e, by omega⟩
        obtain ⟨a, ea, la⟩ := h.fact _ _ _ hf hxz
        obtain ⟨b, eb, lb⟩ := ih hzy
        obtain ⟨y', d', hd', nd'⟩ := (h.ends _ _ _ eb).1
        obtain ⟨g, e, l⟩ := h.tri z (hM z x y' c d' hf hxz hd' nd') _ _ _ _ ea eb q
        exact ⟨g, e, by omega⟩
    exact fun c n w => key w hxy

theorem Wk.inside {F : Fa S} {A : S → Prop} (hF : ∀ x y c, (x, y, c) ∈ F → A x ∧ A y) : ∀ {x y c n}, Wk F (fun _ => True) x y c n → A x → Wk F A x y c n := by
  intro x y c n w
  induction w with
  | nil _ => exact fun a => .nil a
  | cons h _ _ ih => exact fun a => .cons h a (ih (hF _ _ _ h).2)

/-- the two tables are the same -/
theorem same {F : Fa S} {p : S → Int} {M V : List S} {T : Tb S} {n : Nat} (K : Keeps F p) (h : Cl F p M T)
    (hM : ∀ m x y c d, (x, m, c) ∈ F → x ≠ m → (m, y, d) ∈ F → m ≠ y → m ∈ M)
    (hF : ∀ x y c, (x, y, c) ∈ F → x ∈ V ∧ y ∈ V) (hn : V.length ≤ n) {x y : S} (hx : x ∈ V) (hxy : x ≠ y) :
    T x y = rounds V F n (diag V) x y := by
  have a := h.lst K hM hxy
  have b := rounds_lst K (fun x y c m => (hF x y c m).1) hn x y
  refine Lst.uniq (F := F) (A := fun _ => True) (x := x) (y := y) a ⟨fun g e => ?_, fun c m w => b.least c m (w.inside hF hx)⟩
  obtain ⟨m, w⟩ := b.there g e
  exact ⟨m, w.mono (fun _ _ => trivial)⟩

/-- of one source alike: 0 -/
theorem same0 {F : Fa S} {p : S → Int} {V : List S} {n : Nat} (K : Keeps F p)
    (hF : ∀ x y c, (x, y, c) ∈ F → x ∈ V ∧ y ∈ V) (hn : V.length ≤ n) {x : S} (hx : x ∈ V) : rounds V F n (diag V) x x = some 0 := by
  have b := rounds_lst K (fun x y c m => (hF x y c m).1) hn x x
  obtain ⟨g, e, l⟩ := b.least 0 0 (.nil hx)
  obtain ⟨m, w⟩ := b.there g e
  have := w.pot K
  rw [e]; congr 1; omega

end Fv.M


set_option Elab.async false
set_option linter.all false
set_option maxRecDepth 100000
set_option maxHeartbeats 1000000
namespace Fv
open PySem PySem.Spec PyProof.Rows L2
/-! a sorted list of texts is told by what is in it -/
def leS (a b : Str) : Prop := ¬ (b.cps.toList < a.cps.toList)
theorem leS_trans {a b c : Str} (h : leS a b) (k : leS b c) : leS a c := by
  unfold leS at *
  rw [List.not_lt] at *
  exact List.le_trans h k
theorem leS_anti {a b : Str} (h : leS a b) (k : leS b a) : a = b := by
  unfold leS at *
  rw [List.not_lt] at *
  have := List.le_antisymm h k
  obtain ⟨⟨a⟩⟩ := a
  obtain ⟨⟨b⟩⟩ := b
  simp at this
  rw [this]
theorem rising_pw : ∀ (l : List Str) (p : Str), risingS p l = true → (∀ x ∈ l, leS p x) ∧ l.Pairwise leS
  | [], p, _ => ⟨fun x hx => (List.not_mem_nil hx).elim, List.Pairwise.nil⟩
  | y :: l, p, h => by
    unfold risingS at h
    rw [Bool.and_eq_true] at h
    have h1 : leS p y := by
      have h1 := h.1
      rw [ltCps_eq] at h1
      unfold leS
      simpa using h1
    obtain ⟨h2, h3⟩ := rising_pw l y h.2
    refine ⟨fun x hx => ?_, List.pairwise_cons.mpr ⟨h2, h3⟩⟩
    rcases List.mem_cons.mp hx with rfl | hx
    · exact h1
    · exact leS_trans h1 (h2 x hx)
theorem sorted_pw : ∀ {l : List Str}, sortedS l = true → l.Pairwise leS
  | [], _ => List.Pairwise.nil
  | x :: l, h => by
    obtain ⟨h1, h2⟩ := rising_pw l x h
    exact List.pairwise_cons.mpr ⟨h1, h2⟩
theorem sorted_one : ∀ {l m : List Str}, l.Pairwise leS → m.Pairwise leS → l.Perm m → l = m
  | [], m, _, _, p => (List.nil_perm.mp p).symm
  | x :: l, [], _, _, p => by
    have := p.length_eq
    simp at this
  | x :: l, y :: m, hl, hm, p => by
    obtain ⟨a1, a2⟩ := List.pairwise_cons.mp hl
    obtain ⟨b1, b2⟩ := List.pairwise_cons.mp hm
    have exy : x = y := by
      have i1 := p.mem_iff.mp (List.mem_cons_self (a := x))
      have i2 := p.mem_iff.mpr (List.mem_cons_self (a := y))
      rcases List.mem_cons.mp i1 with h | h
      · exact h
      · rcases List.mem_cons.mp i2 with k | k
        · exact k.symm
        · exact leS_anti (a1 y k) (b1 x h)
    subst exy
    rw [sorted_one a2 b2 (List.Perm.cons_inv p)]
theorem sorted_same {l m a b : List Str} (hl : sortedS l = true) (hm : sortedS m = true) (pl : l.Perm a) (pm : m.Perm b) (h : a.Perm b) : l = m := sorted_one (sorted_pw hl) (sorted_pw hm) ((pl.trans h).trans pm.symm)
end Fv


set_option Elab.async false
set_option linter.all false
set_option maxRecDepth 100000
set_option maxHeartbeats 2000000
/-! enumerate over a tuple -/
namespace Fv
open PySem PySem.Spec PyProof.Rows L2
open AutoSeq1 (wpAny_loadPart')
theorem draws_tup {prog : Program} {w : World} {A : Around} (hh : A.handled = none) (it t : Addr) (hne : t ≠ it) (items : Array Value) :
    Draws prog w A it [it, t] items.size (fun i v => items[i]? = some v) (fun i h => h.IsTupleIter it t i ∧ h.IsTuple t items) where
  live := fun _ _ st => let ⟨o, ho, _⟩ := st.1; ⟨o, ho⟩
  frame := fun _ _ _ st hk => ⟨st.1.at fun o e => hk it (by simp) o e, let ⟨o, ho, r⟩ := st.2; ⟨o, hk t (by simp) o ho, r⟩⟩
  item := fun i s Q E hi st hQ => by
    refine RZ.nextOf_tuple_item st.1 st.2 (x := items[i]) (by simp [hi]) fun h' hit' hs' => ?_
    obtain ⟨o, ho, r⟩ := st.2
    exact hQ _ h' s.toks (by simp [hi]) ⟨hit', o, hs'.extBut t o hne ho, r⟩ hs'
  done := fun s Q E st hE => RZ.nextOf_tuple_end hh st.1 st.2 (by simp) hE
theorem enum_new (l : Addr) (items : Array Value) (n : Nat) (dct : Option Addr) (sl : Array (Option Value)) :
    Meets (Builtin.«enumerate.__new__» ⟨[.type "enumerate", .ref l], []⟩) (fun _ R s => s.heap.get? l = some { cls := .type "tuple", dict := dct, data := .seq items n, slots := sl } ∧
      R (.ok (.ret (.ref (s.heap.push { cls := .type "tuple_iterator", data := .fields #[.ref l, .int 0 0] }).objs.size)))
        { s with heap := (s.heap.push { cls := .type "tuple_iterator", data := .fields #[.ref l, .int 0 0] }).push { cls := .type "enumerate", data := .fields #[.none, .bool false, .ref s.heap.objs.size, rawInt 0, .none, .none] } }) :=
  .of_wp fun prog w A R s h => by
    obtain ⟨hp, g, d, tk, os⟩ := s
    obtain ⟨hl, h⟩ := h
    have hsub := sub_enumerate
    have hL : Heap.IsTuple (Shared.heap ⟨hp, g, d, tk, os⟩) l items := ⟨_, hl, rfl, n, rfl⟩
    wp_walk using wpAny_loadPart' hl
    refine wpAny_stack_any fun st => wpAny_pure ?_
    split
    · rename_i c _ _ _ _ _
      cases (c == Value.type "enumerate") <;> (wp_walk using wpAny_loadPart' hl, wpAny_pyIter_tuple hL; exact ⟨_, rfl, h⟩)
    · wp_walk using wpAny_loadPart' hl, wpAny_pyIter_tuple hL
      exact ⟨_, rfl, h⟩
section
variable {prog : Program} {w : World} {A : Around} {E : Value → Shared → Prop} {s : Shared}
theorem call_enumT {l : Addr} {items : Array Value} {Q : Value → Shared → Prop} (hL : s.heap.IsTuple l items)
    (h : ∀ h', IsEnum h' (s.heap.objs.size + 1) s.heap.objs.size 0 .none → h'.IsTupleIter s.heap.objs.size l 0 → h'.objs.size = s.heap.objs.size + 2 → (∀ b o, s.heap.get? b = some o → h'.get? b = some o) → Q (.ref (s.heap.objs.size + 1)) { s with heap := h' }) :
    wpAny (model prog w) A (call (.type "enumerate") [.ref l]) Q E s := by
  obtain ⟨⟨c, dct, dt, sl⟩, hl, hc, n, hd⟩ := hL
  simp only at hc hd
  subst hc hd
  have z1 : (s.heap.push { cls := .type "tuple_iterator", data := .fields #[.ref l, .int 0 0] }).objs.size = s.heap.objs.size + 1 := Heap.size_push ..
  have he : IsEnum ((s.heap.push { cls := .type "tuple_iterator", data := .fields #[.ref l, .int 0 0] }).push { cls := .type "enumerate", data := .fields #[.none, .bool false, .ref s.heap.objs.size, rawInt 0, .none, .none] }) (s.heap.objs.size + 1) s.heap.objs.size 0 .none := by
    have := Heap.get?_push_size (s.heap.push { cls := .type "tuple_iterator", data := .fields #[.ref l, .int 0 0] }) (o := { cls := .type "enumerate", data := .fields #[.none, .bool false, .ref s.heap.objs.size, rawInt 0, .none, .none] }) rfl
    rw [z1] at this
    exact this
  refine callType_new F.called_enumerate (by decide) (F.typeCall_enumerate_1 _) (F.newCall_enumerate_1 _) (fun obj => F.args_object_init_2 obj _) F.entry_enumerate_new (enum_new l items n dct sl) ⟨hl, ?_⟩
  show _ ∧ _
  rw [z1]
  exact ⟨⟨_, he, rfl⟩, h _ he ⟨_, Heap.get?_push_of_some _ (Heap.get?_push_size _ rfl), rfl, rfl⟩ (by rw [Heap.size_push, z1]) fun b o x => Heap.get?_push_of_some _ (Heap.get?_push_of_some _ x)⟩
theorem enum_endT {e it l : Addr} {i : Nat} {j : Int} {items : Array Value} {old : Value} {Q : Option Value → Shared → Prop} (hh : A.handled = none) (he : IsEnum s.heap e it j old) (hit : s.heap.IsTupleIter it l i) (hl : s.heap.IsTuple l items) (hx : items[i]? = none)
    (hQ : ∀ h', Heap.ExtBut it s.heap h' → Q none { s with heap := h' }) : wpAny (model prog w) A (pyNext (.ref e)) Q E s := by
  have hT : s.TypeIs (.ref e) "enumerate" := ⟨_, he, rfl⟩
  unfold pyNext
  refine wpAny_bind (wpAny_attempt (wpAny_callSpecial?_slot (name := Str.ofString "__next__") hT F.slot_enumerate_next (wpAny_call_entry F.slot_enumerate_next hT F.entry_enumerate_next ?_ (F.args_enumerate_next_1 _))))
  show wpAny _ _ (field (.ref e) 2 >>= _) _ _ _
  refine wpAny_bind (wpAny_field he rfl (x := .ref it) rfl (wpAny_bind (RZ.nextOf_tuple_end hh hit hl hx fun h' x k ⟨o, ho, hc⟩ => ?_)))
  exact wpAny_bind (wpAny_isInstance (T := "StopIteration") (b := true) ⟨o, ho, hc⟩ isSubtype_stop (wpAny_pure (hQ _ k)))
end
/-- the tuple at a as it stands at each turn, its items in new pairs with their numbers -/
def Iet (K : PySem.W.Frag) (a : Addr) : It :=
  ⟨fun i H => ∃ (xs : List V) (x : V), SqT K H a xs ∧ xs[i]? = some x, fun i H v H' => ∃ T x, v = .ref T ∧ H T = none ∧ H' = upd H T (.tup [.int (i : Nat), x]) ∧ ∀ xs, SqT K H a xs → xs[i]? = some x, fun i H => ∃ xs : List V, SqT K H a xs ∧ xs.length ≤ i⟩
theorem turn_enumT {P : Program} {w : World} {K : PySem.W.Frag} {elts : List Expr} {kk : Nat} {tpos : Pos} (a e it : Addr) (ha1 : a ≠ it) (ha2 : a ≠ e) :
    Turn P w K (.Tuple elts kk tpos) (Iet K a) [e, it] e (fun i h => (∃ old, IsEnum h e it ((i : Nat) : Int) old) ∧ h.IsTupleIter it a i ∧ e ≠ it) where
  mem := by simp
  obj := fun i h st b hb => by
    obtain ⟨⟨old, he⟩, ⟨o, ho, hc, hd⟩, _⟩ := st
    rcases (show b = e ∨ b = it by simpa using hb) with rfl | rfl
    · exact ⟨_, he, fun v q => nomatch q⟩
    · exact ⟨o, ho, fun v q => by rw [hd] at q; cases q⟩
  keep := fun i h h' st k => ⟨let ⟨old, he⟩ := st.1; ⟨old, k e (by simp) _ he⟩, st.2.1.at fun o q => k it (by simp) o q, st.2.2⟩
  item := by
    intro X hP hw hK hc i pins s σ H E I hf st hg
    subst hP hw hK
    obtain ⟨⟨old, he⟩, hit, hne⟩ := st
    obtain ⟨xs, x, hq, hx⟩ := hg
    obtain ⟨its, rv, p, hz⟩ := I.tuple hq
    have p' : s.heap.IsTuple a its.toArray := p
    obtain ⟨u, hu, ru⟩ := rv.get hx
    have hlt : i < its.toArray.size := by
      have := (List.getElem?_eq_some_iff.mp hu).1
      simpa using this
    have hel : e < s.heap.objs.size := Heap.lt_size he
    have hil : it < s.heap.objs.size := by obtain ⟨_, q, _⟩ := hit; exact Heap.lt_size q
    refine wpAny_pyNext_enum_itemD (draws_tup (A := X.A.in1) (I.ok.hd hc) it a ha1 its.toArray) he ⟨hit, p'⟩ hlt hne (by simp [hne, Ne.symm ha2]) fun y h' tk py ho st' hT hsz hk => ?_
    have ey : y = u := by
      have : some u = some y := hu.symm.trans (by simpa using py)
      exact (Option.some.inj this).symm
    subst ey
    refine ⟨_, rfl, wpAny_letOwnedTupleGo_enum (s := { s with heap := h', toks := tk + 1 }) ho fun h'' he' sb => ?_⟩
    have hT2 : h''.get? s.heap.objs.size = some { cls := .type "tuple", data := .seq #[.int i tk, y] } := (sb.2 _ (Nat.ne_of_gt hel)).trans hT
    have new : ObjOk X.prog X.w (upd H s.heap.objs.size (.tup [.int (i : Nat), x])) h'' s.heap.objs.size (.tup [.int (i : Nat), x]) :=
      ⟨by show 2 ≤ sizeLine; decide, [.int i tk, y], .cons ⟨_, rfl⟩ (.cons ru .nil), ⟨_, hT2, rfl, _, rfl⟩⟩
    have I1 : Inv X pins σ (upd H s.heap.objs.size (.tup [.int (i : Nat), x])) { s with heap := h'', toks := tk + 1 } :=
      I.turnedNew (ch := [e, it]) (fun b ob hb q => (sb.2 b (fun z => hb (by simp [z]))).trans (hk b ob (fun z => hb (by simp [z])) (fun z => hb (by simp [z])) q)) hf (Nat.le_refl _) new
    refine ⟨.ref s.heap.objs.size, _, I1, rfl, ⟨_, x, rfl, I.hok.fresh (Nat.le_refl _), rfl, fun ys hy => by rw [I.tuple_inj hy hq]; exact hx⟩, ⟨⟨y, ?_⟩, st'.1.at fun o q => (sb.2 it (Ne.symm hne)).trans q, hne⟩, fun b hb => ?_⟩
    · rw [show ((i + 1 : Nat) : Int) = (i : Int) + 1 by omega]
      exact he'
    · have hb' : b < s.heap.objs.size := by
        rcases (show b = e ∨ b = it by simpa using hb) with rfl | rfl
        · exact hel
        · exact hil
      rw [upd_ne (Nat.ne_of_lt hb')]
      exact (hf b hb).1
  done := by
    intro X hP hw hK hc i pins s σ H E I hf st hg
    subst hP hw hK
    obtain ⟨⟨old, he⟩, hit, hne⟩ := st
    obtain ⟨xs, hq, hx⟩ := hg
    obtain ⟨its, rv, p, hz⟩ := I.tuple hq
    obtain ⟨f0, f1, f2, f3, f4, f5⟩ := hf it (by simp)
    have hl := rv.length
    exact enum_endT (I.ok.hd hc) he hit (show s.heap.IsTuple a its.toArray from p) (by simp; omega) fun h' eb => ⟨rfl, I.turned (t' := s.toks) (fun b o hb q => eb b o hb q) f0 f1 f3 f4 f5⟩
  self := fun A i s Q E st h => let ⟨⟨_, he⟩, _⟩ := st; wpAny_pyIter_enum he h
def iEnumT (K : PySem.W.Frag) (ta : TA) : TI := fun σ H R => ta σ H fun vs H1 => ∃ a xs, vs = [.ref a] ∧ SqT K H1 a xs ∧ R (Iet K a) H1
theorem pi_enumT {X : Cx} {e : Expr} {ta : TA} {p pos tpos : Pos} {elts : List Expr} {kk : Nat} (hg : Gl X "enumerate") (hm : X.mg "enumerate" = none) (ha : PA X [e] ta) (hs : starEach [e] X.env = [(false, eval e X.env)] := by rfl) :
    PI X (.Tuple elts kk tpos) (.Call (.Name "enumerate" p) [e] [] pos) (iEnumT X.K ta) := by
  refine ⟨fun pins s σ H R I h => ?_⟩
  refine Call_ (ld_blt I hg hm boot_enumerate (PyProof.Rows.callWith_type1 (thn (ha.run pos pins s σ H _ I h) fun us s1 ⟨vs, H1, I1, r1, a, xs, ex, hq, q⟩ => ?_) hs rfl))
  subst ex
  rw [Vals.ref1 r1]
  obtain ⟨its, rv, p', hz⟩ := I1.tuple hq
  have hal : a < s1.heap.objs.size := by obtain ⟨o, ho, _⟩ := p'; exact Heap.lt_size ho
  refine call_enumT (show s1.heap.IsTuple a its.toArray from p') fun h' he hit hsz hk => wpAny_pyIter_enum he ?_
  have I2 : Inv X pins σ H1 { s1 with heap := h' } := I1.kept (t' := s1.toks) hk
  refine ⟨s1.heap.objs.size + 1, [s1.heap.objs.size + 1, s1.heap.objs.size], _, _, H1, rfl, I2, turn_enumT a (s1.heap.objs.size + 1) s1.heap.objs.size (Nat.ne_of_lt hal) (Nat.ne_of_lt (Nat.lt_succ_of_lt hal)), ⟨⟨.none, he⟩, hit, Nat.succ_ne_self _⟩, fun b hb => ?_, q⟩
  have hle : s1.heap.objs.size ≤ b := by
    rcases (show b = s1.heap.objs.size + 1 ∨ b = s1.heap.objs.size by simpa using hb) with z | z
    · rw [z]
      exact Nat.le_succ _
    · exact Nat.le_of_eq z.symm
  exact I1.fpOk hle (I1.hok.fresh hle)
theorem walk_enumT {K : PySem.W.Frag} {a : Addr} {xs : List V} : Walk (Iet K a) xs.length (fun H => SqT K H a xs) (YPair (fun i => some (.int (i : Nat))) (fun i => xs[i]?)) := by
  refine ⟨fun i _ hi q => ⟨xs, xs[i], q, by simp [hi]⟩, fun _ q => ⟨xs, q, Nat.le_refl _⟩, fun i H v H' _ q y => ?_⟩
  obtain ⟨T, x, h1, h2, h3, h4⟩ := y
  exact ⟨T, .int (i : Nat), x, h1, h2, h3, rfl, h4 xs q⟩
end Fv


set_option Elab.async false
set_option linter.all false
set_option maxRecDepth 100000
set_option maxHeartbeats 2000000
/-! y = {k: v for ..}, y a local -/
namespace Fv
open PySem PySem.Spec PyProof.Rows L2
theorem swD_true {kx vx : Expr} {gs : List Comprehension} {scope : Scope} {pos py : Pos} {y : PySem.Str} {l : Nat} {env : Env}
    (h1 : env.scope.kind = ScopeKind.function) (h2 : env.scope.names.lookup y = some NameKind.local) (h3 : (py.line == pos.line) = true)
    (h4 : (scope.names.any fun x => match x with | (n, k) => n == y && (k == NameKind.local || k == NameKind.cell)) = false) : swapsWith (kx.DictComp vx gs scope pos) (some (.Name y py)) l env = pure true := by
  have := sw_true (elt := kx) (gs := gs) (l := l) h1 h2 h3 h4
  unfold swapsWith at this ⊢
  exact this
section
variable {X : Cx}
theorem ps_setDc {i : Nat} {y : PySem.Str} {py : Pos} {kx vx tg iter : Expr} {ifs : List Expr} {scope : Scope} {own : List (PySem.Str × Nat)} {pos spos : Pos} {wi : TI} {g : TG} {tt : TT} {tk tv : TE} (hc : X.calm = true) (hN : X.N.Nodup)
    (hy : X.N[i]? = some y) (hl : X.env.scope.names.lookup y = some NameKind.local) (hsw : swapsWith (kx.DictComp vx [⟨tg, iter, ifs, 0⟩] scope pos) (some (.Name y py)) spos.line X.env = pure true) (hi : PI X tg iter wi) (ok : BlkOk X.N X.env.scope scope own)
    (hg : ∀ (s : Shared) (H : Hp) (C : Addr) (cl : List (PySem.Str × Addr)) (fp : List Addr), PG (X.blk s H scope (compEnvC scope cl C X.env) fp) tg g) (ht : ∀ (s : Shared) (H : Hp) (C : Addr) (cl : List (PySem.Str × Addr)) (fp : List Addr), PTs (X.blk s H scope (compEnvC scope cl C X.env) fp) ifs tt)
    (hk : ∀ (s : Shared) (H : Hp) (C : Addr) (cl : List (PySem.Str × Addr)) (fp : List Addr), PE (X.blk s H scope (compEnvC scope cl C X.env) fp) kx tk) (hv : ∀ (s : Shared) (H : Hp) (C : Addr) (cl : List (PySem.Str × Addr)) (fp : List Addr), PE (X.blk s H scope (compEnvC scope cl C X.env) fp) vx tv)
    (hs : ∀ x, foldedSetIterable iter X.env x = pure x := by intro _; rfl) :
    PS X (.Assign [.Name y py] (.DictComp kx vx [⟨tg, iter, ifs, 0⟩] scope pos) spos) (tAsg (tDc wi g tt tk tv (own.map (·.2))) (gName i)) := by
  refine ⟨fun pins s σ H D I h => ?_⟩
  rw [exec_Assign_arm]
  refine wpAny_bind (wpAny_standAt (wpAny_bind (wpAny_of_eq (a := true) hsw ?_)))
  rw [if_pos rfl]
  refine wpAny_bind ?_
  rw [evalThenUse]
  refine wpAny_bind (wpAny_mono (dc_core (pos' := firstIterPos [⟨tg, iter, ifs, 0⟩] pos) (Qf := fun _ s' => SP X pins D .next s') hc hN I hi ok hg ht hk hv hs h fun C0 C s' m H' I' q hn fp => ?_) (fun v s' z => wpAny_pure (wpAny_pure z)) fun _ _ z => z)
  obtain ⟨o, es, ep, ho, hd⟩ := id hn
  have P' := I'.pinned (fp := [C]) (fun b hb => by rw [List.mem_singleton.mp hb]; exact fp) (fun b hb => by
    rw [List.mem_singleton.mp hb]
    exact ⟨o, ho, fun v e => by rw [hd.1] at e; cases e⟩)
  have mem : (C, o) ∈ pinsAt [C] s'.heap := mem_pinsAt List.mem_cons_self ho
  refine wpAny_mono ((pg_name (pos := py) hN hy (.inl hl) (.inr hl)).run _ s' σ H' (.ref C0) (.ref C0) (fun σ1 H1 => H1 = H' ∧ D.nx σ1 H1) P' rfl ⟨rfl, q⟩) (fun _ s'' z => ?_) fun _ _ z => z
  obtain ⟨σ1, H1, J, rfl, q1⟩ := z
  have z := J.pin (C, o) (List.mem_append_right _ (List.mem_append_right _ mem))
  obtain ⟨f0, f1, f2, f3, f4, f5⟩ := fp
  refine ⟨m, ⟨o, es, ep, z.1, hd⟩, fun h' sb => ?_⟩
  exact ⟨σ1, H1, J.unpinned.turned (t' := s''.toks) (fun b o hb e => (sb.2 b hb).trans e) f0 f1 f3 f4 f5, q1⟩
end
theorem dc_it {J : It} {n : Nat} {G : Hp → Prop} {Y : Nat → Hp → V → Hp → Prop} (wk : Walk J n G Y) {g : TG} {tt : TT} {tk tv : TE} {vs : List Nat} {σ : L2.St} {H1 : Hp} {D : Addr} {Qd : Hp → Prop} (Pv : Nat → Hp → Prop) (h0 : Pv 0 (upd H1 D (.dK []))) (hG : ∀ i H, i ≤ n → Pv i H → G H)
    (hs : ∀ i x H H', i < n → Pv i H → Y i H x H' → g x (wipe σ vs) H' fun σ2 H2 => wipe σ2 vs = wipe σ vs ∧ tt σ2 H2 fun b H3 =>
      if b = true then tk σ2 H3 fun y H4 => tv σ2 H4 fun z H5 => ∃ (kvs : List (Key × V)) (k : Key), y = kV k ∧ H5 D = some (.dK kvs) ∧ kvs.length < sizeLine ∧ Pv (i + 1) (upd H5 D (.dK (putK kvs k z))) else Pv (i + 1) H3) (hd : ∀ H, Pv n H → Qd H) :
    ∃ W : Nat → Nat → Hp → Prop, (∃ m, W 0 m (upd H1 D (.dK []))) ∧ ∀ i m H, W i m H →
      (J.stop i H ∧ Qd H) ∨ (J.go i H ∧ ∃ Nx : Hp → Prop, (∀ H', Nx H' → ∃ m', m' < m ∧ W (i + 1) m' H') ∧ ∀ x H', J.yld i H x H' → g x (wipe σ vs) H' fun σ2 H2 => wipe σ2 vs = wipe σ vs ∧ tt σ2 H2 fun b H3 =>
        if b = true then tk σ2 H3 fun y H4 => tv σ2 H4 fun z H5 => ∃ (kvs : List (Key × V)) (k : Key), y = kV k ∧ H5 D = some (.dK kvs) ∧ kvs.length < sizeLine ∧ Nx (upd H5 D (.dK (putK kvs k z))) else Nx H3) := by
  refine ⟨fun i m H => m + i = n ∧ Pv i H, ⟨n, rfl, h0⟩, fun i m H ⟨hm, p⟩ => ?_⟩
  rcases Nat.lt_or_ge i n with hlt | hge
  · exact .inr ⟨wk.goes i H hlt (hG i H (Nat.le_of_lt hlt) p), Pv (i + 1), fun H' p' => ⟨n - (i + 1), by omega, by omega, p'⟩, fun x H' y => hs i x H H' hlt p (wk.yields i H x H' hlt (hG i H (Nat.le_of_lt hlt) p) y)⟩
  · obtain rfl : i = n := by omega
    exact .inl ⟨wk.stops H (hG i H hge p), hd H p⟩
end Fv


set_option Elab.async false
set_option linter.all false
set_option maxRecDepth 100000
set_option maxHeartbeats 4000000
namespace Fv
open PySem PySem.Spec PyProof.Rows L2
/-! ### the rows of facts, of any data -/
abbrev sChk : Stmt := top 14
abbrev sAreFacts : Stmt := top 19
abbrev sIsFact : Stmt := top 20
/-- what is not come to -/
def tDead : TE := fun _ _ _ => False
def sDead : TS := fun _ _ _ => False
theorem pe_dead {X : Cx} {e : Expr} : PE X e tDead := ⟨fun _ _ _ _ _ _ h => False.elim h⟩
theorem pss_dead {X : Cx} {st : List Stmt} : PSs X st sDead := ⟨fun _ _ _ _ _ _ h => False.elim h⟩
def spChk : Sp := fun vs H Q _ => ∃ a, vs = [.ref a] ∧ H a = some (.lst [.bl true, .bl true]) ∧ ∀ H', Same H H' → Q .non H'
def factD : PyData → Bool
  | .tuple [x, y, z] => sourceD x && sourceD y && intD z
  | _ => false
def factsD (d : PyData) : Bool := rowD d && (itemsD d).all factD
theorem fact_not {d : PyData} (h : isTupD d = false) : factD d = false := by cases d <;> first | rfl | cases h
theorem fact_len {ds : List PyData} (h : ds.length ≠ 3) : factD (.tuple ds) = false := by
  match ds, h with
  | [], _ => rfl
  | [_], _ => rfl
  | [_, _], _ => rfl
  | [_, _, _], h => exact absurd rfl h
  | _ :: _ :: _ :: _ :: _, _ => rfl
section
variable {P : Program} {w : World} {K : PySem.W.Frag} {mg : Str → Option Value} {base : Heap} {C : Addr}
theorem scCk : FnScope ["rights", "place", "right"] ["rights"] (defScope sChk) := ⟨rfl, rfl, rfl, by decide +kernel, rfl, by decide +kernel, by decide +kernel⟩
theorem ok_chk {f : Addr} {fd : FuncData} (F : Fun K "check_arguments" "check_arguments" sChk f fd) (me : mg "enumerate" = none) : FnOk P w K mg base CX0 1 f fd ["rights"] spChk := by
  refine F.ok scCk (fun vs H Q E h => ?_) (fun cdv A outer s H vs Q E hr h => ?_)
  · obtain ⟨a, rfl, _⟩ := h
    rfl
  · obtain ⟨a, rfl, ha, q⟩ := h
    refine ⟨_, pss_one (ps_for PassesOwn.never rfl (pi_enum (by rfl) me (pa_cons (pv 0) pa_nil)) (pg_tup (by rfl) (pgs_cons (pg_name (i := 1) scCk.nd rfl (.inl rfl)) (pgs_cons (pg_name (i := 2) scCk.nd rfl (.inl rfl)) pgs_nil)))
      (pss_one (ps_if (pt_not (pt_val (pv 2))) pss_dead pss_nil))), ?_⟩
    refine ⟨_, rfl, a, _, rfl, SqL.of ha, ?_⟩
    refine for_it (walk_enum (K := K) (a := a) (xs := [.bl true, .bl true])) (fun i σ H' => ∃ y1 y2 : Option V, σ = [some (.ref a), y1, y2] ∧ Same H H') ⟨none, none, rfl, fun _ _ e => e⟩ (fun i σ H' _ h => ?_) ?_ ?_
    · obtain ⟨_, _, _, s'⟩ := h
      exact SqL.of (s' _ _ ha)
    · rintro i x σ H' H2 hi ⟨y1, y2, rfl, s'⟩ ⟨T, vi, vx, rfl, nT, rfl, ei, ex⟩
      have sT := same_upd (o := .tup [vi, vx]) nT
      have hv : vx = .bl true := by
        match i, hi with
        | 0, _ => cases ex; rfl
        | 1, _ => cases ex; rfl
      subst hv
      refine ⟨T, _, rfl, SqT.of upd_same, rfl, _, _, rfl, _, _, rfl, rfl, ?_⟩
      refine ⟨_, rfl, _, rfl, iteF ?_⟩
      exact ⟨_, _, rfl, s'.trans sT⟩
    · rintro σ H' ⟨y1, y2, rfl, s'⟩
      exact q H' s'
theorem scIf : FnScope ["thing"] ["thing"] (defScope sIsFact) := ⟨rfl, rfl, rfl, by decide +kernel, rfl, by decide +kernel, by decide +kernel⟩
theorem ok_isfact {f fS fI : Addr} {fd fdS fdI : FuncData} (T : KFn K C) (F : Fun K "_is_fact" "_is_fact" sIsFact f fd)
    (GS : FnOk P w K mg base CX0 2 fS fdS ["thing"] (spX C sourceD)) (bS : Binds K fdS ["thing"] []) (mS : mg "is_source" = some (.ref fS)) (kS : PySem.W.keepIn K (.ref fS) = true)
    (GI : FnOk P w K mg base CX0 1 fI fdI ["thing"] (spX C intD)) (bI : Binds K fdI ["thing"] []) (mI : mg "is_integer" = some (.ref fI)) (kI : PySem.W.keepIn K (.ref fI) = true)
    (mq : mg "isinstance" = none) (mt : mg "tuple" = none) (ml : mg "len" = none) : FnOk P w K mg base CX0 3 f fd ["thing"] (spX C factD) := by
  refine F.ok scIf (fun vs H Q E h => ?_) (fun cdv A outer s H vs Q E hr h => ?_)
  · obtain ⟨b, v, d, rfl, _⟩ := h
    rfl
  · obtain ⟨b, v, d, rfl, hd, hs, hb, q⟩ := h
    obtain ⟨t, I⟩ := hd.isa T
    have hr1 : Room 1 _ := hr.mono (by decide)
    refine ⟨_, pss_cons (ps_if (PW.pt (pw_or (pt_not (pt_val (pe_callB call_isi (by rfl) mq (by decide +kernel) (pa_cons (pv 0) (pa_cons (pe_bltn (v := .ty "tuple") (by rfl) mt boot_tuple rfl) pa_nil)))))
        (pw_or1 (pt_cmpR op_ne (pe_callB call_len_seq (by rfl) ml PySem.boot_len (pa_cons (pv 0) pa_nil)) pe_int (nomark _)))))
        (pss_one (ps_ret pe_bl)) pss_nil)
      (pss_one (ps_ret (pe_and (pe_call GS hr (by rfl) mS kS bS .nil pass0 (pa_cons (pe_ix ix_tup (pv 0) pe_int (fun _ _ => rfl)) pa_nil))
        (pe_and (pe_call GS hr (by rfl) mS kS bS .nil pass0 (pa_cons (pe_ix ix_tup (pv 0) pe_int (fun _ _ => rfl)) pa_nil))
        (pe_one (pe_call GI hr1 (by rfl) mI kI bI .nil pass0 (pa_cons (pe_ix ix_tup (pv 0) pe_int (fun _ _ => rfl)) pa_nil))))))), ?_⟩
    refine ⟨_, rfl, _, _, _, _, _, rfl, .ty "tuple", I.ty, I.t, _, rfl, ?_⟩
    cases h1 : isTupD d with
    | false =>
      rw [fact_not h1] at q
      exact q H fun _ _ e => e
    | true =>
      obtain ⟨a, xs, ds, rfl, rfl, e1, hx⟩ := hd.tup_of h1
      have hlen := hx.len
      refine ⟨_, rfl, a, xs, rfl, .inr (SqT.of e1), rfl, _, rfl, ite2 (fun e => ?_) (fun e => ?_)⟩
      · have n2 : ds.length ≠ 3 := fun z => by
          rw [hlen, z] at e
          exact absurd e (by decide)
        rw [fact_len n2] at q
        exact q H fun _ _ e => e
      · obtain ⟨x, y, z, rfl⟩ := three_of (len_of e)
        obtain ⟨dx, dy, dz, rfl, h1, h2, h4⟩ := hx.three
        · have hs2 : okD dx ∧ okD dy ∧ okD dz ∧ True := hs.2
          refine ⟨_, rfl, a, _, _, _, rfl, rfl, SqT.of e1, atI_nat (j := 0) rfl, b, x, dx, rfl, h1, hs2.1, hb, fun H1 s1 => ⟨_, rfl, ?_⟩⟩
          have ep : factD (.tuple [dx, dy, dz]) = (sourceD dx && sourceD dy && intD dz) := rfl
          rw [ep] at q
          cases h3 : sourceD dx with
          | false =>
            rw [h3] at q
            exact q H1 s1
          | true =>
            rw [h3, Bool.true_and] at q
            refine iteT ⟨_, rfl, a, _, _, _, rfl, rfl, SqT.of (s1 _ _ e1), atI_nat (j := 1) rfl, b, y, dy, rfl, h2.mono fun c o _ e => s1 c o e, hs2.2.1, there s1 hb, fun H2 s2 => ⟨_, rfl, ?_⟩⟩
            cases h5 : sourceD dy with
            | false =>
              rw [h5] at q
              exact q H2 (s1.trans s2)
            | true =>
              rw [h5] at q
              refine ⟨_, rfl, a, _, _, _, rfl, rfl, SqT.of (s2 _ _ (s1 _ _ e1)), atI_nat (j := 2) rfl, b, z, dz, rfl, h4.mono fun c o _ e => s2 _ _ (s1 c o e), hs2.2.2.1, there (s1.trans s2) hb, fun H3 s3 => ?_⟩
              exact q H3 ((s1.trans s2).trans s3)
theorem scAf : FnScope ["thing", "item"] ["thing"] (defScope sAreFacts) := ⟨rfl, rfl, rfl, by decide +kernel, rfl, by decide +kernel, by decide +kernel⟩
theorem ok_arefacts {f fR fN : Addr} {fd fdR fdN : FuncData} (F : Fun K "_are_facts" "_are_facts" sAreFacts f fd)
    (GR : FnOk P w K mg base CX0 1 fR fdR ["thing"] (spX C rowD)) (bR : Binds K fdR ["thing"] []) (mR : mg "is_row" = some (.ref fR)) (kR : PySem.W.keepIn K (.ref fR) = true)
    (GN : FnOk P w K mg base CX0 3 fN fdN ["thing"] (spX C factD)) (bN : Binds K fdN ["thing"] []) (mN : mg "_is_fact" = some (.ref fN)) (kN : PySem.W.keepIn K (.ref fN) = true)
    (ma : mg "all" = none) : FnOk P w K mg base CX0 4 f fd ["thing"] (spX C factsD) := by
  refine F.ok scAf (fun vs H Q E h => ?_) (fun cdv A outer s H vs Q E hr h => ?_)
  · obtain ⟨b, v, d, rfl, _⟩ := h
    rfl
  · obtain ⟨b, v, d, rfl, hd, hs, hb, q⟩ := h
    have hr1 : Room 1 _ := hr.mono (by decide)
    refine ⟨_, pss_one (ps_ret (pe_and (pe_call GR hr1 (by rfl) mR kR bR .nil pass0 (pa_cons (pv 0) pa_nil))
      (pe_one (pe_callB (cr_all rfl) (by rfl) ma (by decide +kernel) (pa_cons
        (pe_lc (own := [("item", 1)]) (g := gName 1) (tt := tYes) rfl scAf.nd (pi_row (pv 0)) (blkOk_by (N := ["thing", "item"]) (sc := defScope sAreFacts) (by decide +kernel))
        (fun _ _ _ _ _ => pg_name (i := 1) scAf.nd rfl (Or.inl rfl)) (fun _ _ _ _ _ => pts_nil) (fun _ _ _ _ _ => pe_call GN hr (by rfl) mN kN bN .nil pass0 (pa_cons (pv 1) pa_nil))) pa_nil))))), ?_⟩
    have e : factsD d = (rowD d && (itemsD d).all factD) := rfl
    rw [e] at q
    refine ⟨_, rfl, b, v, d, rfl, hd, hs, hb, fun H1 s1 => ⟨_, rfl, ?_⟩⟩
    cases h0 : rowD d with
    | false =>
      rw [h0] at q
      exact q H1 s1
    | true =>
      rw [h0, Bool.true_and] at q
      have hd1 : Dx C H1 b v d := hd.mono fun a o _ e => s1 a o e
      obtain ⟨a, xs, ds, rfl, hdd, hrow, hx⟩ := hd1.row_of (K := K) h0
      rw [rows_items hdd] at q
      obtain ⟨hl, hok⟩ := rows_ok hdd hs
      have hlen := hx.len
      refine iteT ⟨_, rfl, a, xs, rfl, hrow, fun J G wk hG D hD => ?_⟩
      refine lc_it wk (fun i H' => Same H1 H' ∧ H' D = some (.lst ((ds.take i).map fun d => V.bl (factD d)))) ⟨same_upd hD, upd_same⟩ (fun i H' _ h => hG H' h.1) ?_ ?_
      · rintro i x H' H2 hi ⟨s', e'⟩ ⟨rfl, hxi⟩
        obtain ⟨dx, hdi, hdx⟩ := hx.get hxi
        refine ⟨rfl, _, rfl, b, x, dx, rfl, hdx.mono fun c o _ e => s' c o e, hok.mem dx (List.mem_of_getElem? hdi), there (s1.trans s') hb, fun H3 s3 => ⟨_, s3 _ _ e', ?_, fun c o e => ?_, ?_⟩⟩
        · rw [List.length_map, List.length_take]
          exact small60 (by omega)
        · rw [upd_ne (ne_of_none e hD)]
          exact s3 _ _ (s' c o e)
        · rw [upd_same, take_map_snoc hdi]
      · rintro H2 ⟨s2, e2⟩
        rw [hlen, List.take_length] at e2
        refine ⟨D, ds.map factD, rfl, SqL.of (by rw [List.map_map]; exact e2), ?_⟩
        rw [List.all_map]
        exact q H2 (s1.trans s2)
end
end Fv


set_option Elab.async false
set_option linter.all false
set_option maxRecDepth 100000
set_option maxHeartbeats 4000000
namespace Fv
open PySem PySem.Spec PyProof.Rows L2
/-! ### the tightest facts: a dict by pairs of texts -/
abbrev sTight : Stmt := top 22
abbrev FaT : Type := Str × Str × Int
/-- the item holds the fact -/
def FaIt (H : Hp) (v : V) (f : FaT) : Prop := ∃ t, v = .ref t ∧ H t = some (.tup [.str f.1, .str f.2.1, .int f.2.2])
structure Its (H : Hp) (xs : List V) (L : List FaT) : Prop where
  len : xs.length = L.length
  at_ : ∀ (i : Nat) (x : V), xs[i]? = some x → ∃ f : FaT, L[i]? = some f ∧ FaIt H x f
theorem Its.same {H H' : Hp} {xs : List V} {L : List FaT} (h : Its H xs L) (s : Same H H') : Its H' xs L :=
  ⟨h.len, fun i x e => by obtain ⟨f, hf, t, ht, hh⟩ := h.at_ i x e; exact ⟨f, hf, t, ht, s _ _ hh⟩⟩
theorem small6k {n : Nat} (h : n ≤ 6000) : n < sizeLine := by rw [sizeLine_eq]; omega
def kP (x y : Str) : List Key := [Sum.inr x, Sum.inr y]
theorem kP_inj {x y u v : Str} : kP x y = kP u v ↔ x = u ∧ y = v := by
  unfold kP
  constructor
  · intro h
    simp only [List.cons.injEq, Sum.inr.injEq, and_true] at h
    exact h
  · rintro ⟨rfl, rfl⟩
    rfl
/-- the dict holds the table -/
structure TbL (kvs : List (List Key × V)) (T : M.Tb Str) : Prop where
  val : ∀ x y, valV kvs (kP x y) = (T x y).map V.int
  form : ∀ kv ∈ kvs, ∃ x y c, kv = (kP x y, V.int c) ∧ T x y = some c
  nd : (kvs.map (·.1)).Nodup
theorem TbL.nil : TbL [] (fun _ _ => none) := ⟨fun _ _ => rfl, fun _ h => absurd h List.not_mem_nil, List.nodup_nil⟩
theorem TbL.put {kvs : List (List Key × V)} {T : M.Tb Str} (h : TbL kvs T) (x y : Str) (c : Int) : TbL (putK kvs (kP x y) (.int c)) (M.put T x y c) := by
  refine ⟨fun u v => ?_, fun kv hkv => ?_, ?_⟩
  · rw [valV_put, h.val]
    unfold M.put
    by_cases e : u = x ∧ v = y
    · rw [if_pos e, if_pos (kP_inj.mpr e)]
      rfl
    · rw [if_neg e, if_neg (fun z => e (kP_inj.mp z))]
  · unfold putK at hkv
    split at hkv
    · obtain ⟨w, hw, rfl⟩ := List.mem_map.mp hkv
      obtain ⟨u, v, d, rfl, hT⟩ := h.form w hw
      by_cases e : u = x ∧ v = y
      · refine ⟨x, y, c, ?_, by simp [M.put]⟩
        rw [if_pos (kP_inj.mpr e), e.1, e.2]
      · refine ⟨u, v, d, if_neg (fun z => e (kP_inj.mp z)), ?_⟩
        unfold M.put
        rw [if_neg e]
        exact hT
    · rename_i ha
      rcases List.mem_append.mp hkv with z | z
      · obtain ⟨u, v, d, rfl, hT⟩ := h.form _ z
        refine ⟨u, v, d, rfl, ?_⟩
        unfold M.put
        by_cases e : u = x ∧ v = y
        · refine absurd ?_ ha
          rw [List.any_eq_true]
          exact ⟨_, z, decide_eq_true (kP_inj.mpr e)⟩
        · rw [if_neg e]
          exact hT
      · rw [List.mem_singleton.mp z]
        exact ⟨x, y, c, rfl, by simp [M.put]⟩
  · have nd := h.nd
    unfold putK
    split
    · have e : (kvs.map fun kv => if kv.1 = kP x y then (kv.1, V.int c) else kv).map (·.1) = kvs.map (·.1) := by
        rw [List.map_map]
        refine List.map_congr_left fun kv _ => ?_
        show (if kv.1 = kP x y then (kv.1, V.int c) else kv).1 = kv.1
        split <;> rfl
      rw [e]
      exact nd
    · rename_i ha
      rw [List.map_append, List.nodup_append]
      refine ⟨nd, by simp, fun u hu v hv => ?_⟩
      obtain rfl : v = kP x y := by simpa using hv
      rintro rfl
      obtain ⟨kv, hkv, ek⟩ := List.mem_map.mp hu
      exact ha (List.any_eq_true.mpr ⟨kv, hkv, decide_eq_true ek⟩)
theorem nodup_pairs {α : Type} [DecidableEq α] (V : List α) : ∀ (L : List (α × α)), L.Nodup → (∀ e ∈ L, e.1 ∈ V ∧ e.2 ∈ V) → L.length ≤ V.length * V.length := by
  intro L nd h
  have sub : ∀ (A B : List (α × α)), A.Nodup → (∀ e ∈ A, e ∈ B) → A.length ≤ B.length := by
    intro A
    induction A with
    | nil => intro B _ _; exact Nat.zero_le _
    | cons a A ih =>
      intro B nd h
      have ha := h a List.mem_cons_self
      have nd' := List.nodup_cons.mp nd
      have := ih (B.erase a) nd'.2 fun e he => (List.mem_erase_of_ne (a := e) (b := a) (fun z => nd'.1 (by rw [← z]; exact he))).mpr (h e (List.mem_cons_of_mem _ he))
      rw [List.length_erase_of_mem ha] at this
      have pos : 0 < B.length := List.length_pos_of_mem ha
      rw [List.length_cons]
      omega
  have all_ := sub L (V.flatMap fun x => V.map fun y => (x, y)) nd fun e he => by
    rw [List.mem_flatMap]
    exact ⟨e.1, (h e he).1, List.mem_map.mpr ⟨e.2, (h e he).2, rfl⟩⟩
  have len : ∀ W : List α, (W.flatMap fun x => V.map fun y => (x, y)).length = W.length * V.length := by
    intro W
    induction W with
    | nil => simp
    | cons a W ih => rw [List.flatMap_cons, List.length_append, ih, List.length_map, List.length_cons, Nat.succ_mul, Nat.add_comm]
  rw [len] at all_
  exact all_
/-- few entries: the pairs of points are few -/
theorem TbL.few {kvs : List (List Key × V)} {T : M.Tb Str} (h : TbL kvs T) (W : List Str) (hW : ∀ x y c, T x y = some c → x ∈ W ∧ y ∈ W) : kvs.length ≤ W.length * W.length := by
  obtain ⟨L, hL, hk⟩ : ∃ L : List (Str × Str), kvs.map (·.1) = L.map (fun e => kP e.1 e.2) ∧ ∀ e ∈ L, e.1 ∈ W ∧ e.2 ∈ W := by
    have f := h.form
    clear h
    induction kvs with
    | nil => exact ⟨[], rfl, fun _ h => absurd h List.not_mem_nil⟩
    | cons kv kvs ih =>
      obtain ⟨L, hL, hk⟩ := ih fun e he => f e (List.mem_cons_of_mem _ he)
      obtain ⟨x, y, c, rfl, hT⟩ := f kv List.mem_cons_self
      refine ⟨(x, y) :: L, by rw [List.map_cons, List.map_cons, hL], fun e he => ?_⟩
      rcases List.mem_cons.mp he with rfl | he
      · exact hW _ _ _ hT
      · exact hk e he
  have nd := h.nd
  rw [hL] at nd
  have ndL : L.Nodup := List.Pairwise.of_map (fun e : Str × Str => kP e.1 e.2) (fun a b n z => n (by rw [z])) nd
  have := nodup_pairs W L ndL hk
  have e := congrArg List.length hL
  rw [List.length_map, List.length_map] at e
  omega
theorem putK_le (c : List (List Key × V)) (k : List Key) (x : V) : (putK c k x).length ≤ c.length + 1 := by
  unfold putK
  split
  · rw [List.length_map]; omega
  · rw [List.length_append]; exact Nat.le_refl _
def spTight : Sp := fun vs H Q _ => ∃ (a : Addr) (xs : List V) (L : List FaT) (p : Str → Int), vs = [.ref a] ∧ H a = some (.lst xs) ∧ Its H xs L ∧ L.length ≤ 6000 ∧ M.Keeps L p ∧
  ∀ (q : Addr) (kvs : List (List Key × V)) (T : M.Tb Str) (H' : Hp), H q = none → Same H H' → H' q = some (.dT kvs) → TbL kvs T → M.Tg L T → kvs.length ≤ L.length → Q (.ref q) H'
section
variable {P : Program} {w : World} {K : PySem.W.Frag} {mg : Str → Option Value} {base : Heap} {C : Addr}
abbrev nTg : List Str := ["facts", "table", "x", "y", "c"]
theorem scTg : FnScope nTg ["facts"] (defScope sTight) := ⟨rfl, rfl, rfl, by decide +kernel, rfl, by decide +kernel, by decide +kernel⟩
theorem ok_tight {f : Addr} {fd : FuncData} (F : Fun K "_tightest" "_tightest" sTight f fd) : FnOk P w K mg base CX0 1 f fd ["facts"] spTight := by
  refine F.ok scTg (fun vs H Q E h => ?_) (fun cdv A outer s H vs Q E hr h => ?_)
  · obtain ⟨a, xs, L, p, rfl, _⟩ := h
    rfl
  · obtain ⟨a, xs, L, p, rfl, ha, hx, hl, K0, q⟩ := h
    have hu := hu_of hr
    refine ⟨_, pss_cons (ps_set (i := 1) scTg.nd rfl (.inl rfl) pe_dnewT)
      (pss_cons (ps_for PassesOwn.never rfl (pi_list (pv 0)) (pg_tup (by rfl) (pgs_cons (pg_name (i := 2) scTg.nd rfl (.inl rfl)) (pgs_cons (pg_name (i := 3) scTg.nd rfl (.inl rfl)) (pgs_cons (pg_name (i := 4) scTg.nd rfl (.inl rfl)) pgs_nil))))
        (pss_cons (ps_if (PW.pt (pw_and (pt_cmpR op_eq (pv 2) (pv 3) (nomark _)) (pw_and1 (pt_cmpR op_lt (pv 4) pe_int (nomark _))))) pss_dead pss_nil)
        (pss_one (ps_if (PW.pt (pw_and (pt_cmpR op_ne (pv 2) (pv 3) (nomark _)) (pw_and1 (pt_cmpR op_lt (pv 4) (pe_dget2 hu (pv 1) (pe_tup (pa_cons (pv 2) (pa_cons (pv 3) pa_nil))) (pe_op op_add (pv 4) pe_int) ⟨rfl, rfl, rfl, rfl⟩) (nomark _)))))
          (pss_one (ps_dput hu (pv 1) (pe_tup (pa_cons (pv 2) (pa_cons (pv 3) pa_nil))) (pv 4) rfl)) pss_nil))))
      (pss_one (ps_ret (pv 1)))), ?_⟩
    intro q0 nq
    have w1 := same_upd (o := .dT []) nq
    dsimp only [gName]
    refine ⟨_, rfl, a, rfl, ⟨_, SqL.of (w1 _ _ ha)⟩, ?_⟩
    refine for_list (K := K) (a := a) (xs := xs) (fun i σ H' => ∃ (y2 y3 y4 : Option V) (kvs : List (List Key × V)) (T : M.Tb Str), σ = [some (.ref a), some (.ref q0), y2, y3, y4] ∧ Same H H' ∧ H' q0 = some (.dT kvs) ∧ TbL kvs T ∧ M.Tg (L.take i) T ∧ kvs.length ≤ i)
      ⟨none, none, none, [], _, rfl, w1, upd_same, .nil, .nil, Nat.le_refl _⟩ (fun i σ H' _ h => by obtain ⟨_, _, _, _, _, _, s', _⟩ := h; exact SqL.of (s' _ _ ha)) ?_ ?_
    · rintro i x σ H' hxi ⟨y2, y3, y4, kvs, T, rfl, s', eq, hT, tg, hk⟩
      obtain ⟨⟨fx, fy, fc⟩, hf, t, rfl, ht⟩ := hx.at_ i x hxi
      have ilt : i < L.length := (List.getElem?_eq_some_iff.mp hf).1
      have hm : (fx, fy, fc) ∈ L := List.mem_of_getElem? hf
      have tg' := tg.step (fx, fy, fc)
      have et : L.take (i + 1) = L.take i ++ [(fx, fy, fc)] := by rw [List.take_succ, hf]; rfl
      rw [← et] at tg'
      refine ⟨t, _, rfl, SqT.of (s' _ _ ht), rfl, _, _, rfl, _, _, rfl, _, _, rfl, rfl, ?_⟩
      refine ⟨_, rfl, _, rfl, rfl, _, rfl, ?_⟩
      by_cases hxy : fx = fy
      · subst hxy
        have h0 : 0 ≤ fc := by have := K0 _ _ _ hm; omega
        have e1 : M.tgStep T (fx, fx, fc) = T := by simp [M.tgStep]
        rw [e1] at tg'
        refine ite2 (fun e => ?_) (fun e => absurd (decide_eq_true (Eq.refl (V.str fx))) e)
        refine ⟨_, rfl, _, _, rfl, rfl, _, rfl, ite2 (fun e2 => ?_) (fun e2 => ?_)⟩
        · have z : fc < 0 := of_decide_eq_true e2
          omega
        refine ⟨_, rfl, _, rfl, rfl, _, rfl, ite2 (fun e3 => ?_) (fun e3 => ?_)⟩
        · simp at e3
        · exact ⟨_, _, _, kvs, T, rfl, s', eq, hT, tg', by omega⟩
      · have ne : V.str fx ≠ V.str fy := fun z => hxy (V.str.inj z)
        refine ite2 (fun e => absurd (of_decide_eq_true e) ne) (fun e => ?_)
        refine ⟨_, rfl, _, rfl, rfl, _, rfl, ite2 (fun e3 => ?_) (fun e3 => ?_)⟩
        · refine ⟨_, rfl, _, rfl, ?_⟩
          refine ⟨q0, rfl, .inr ⟨kvs, .inl eq⟩, _, rfl, _, rfl, by show 2 ≤ sizeLine; decide, fun pk npk => ?_⟩
          have kq : pk ≠ q0 := (ne_of_none eq npk).symm
          have sK := same_upd (o := .tup [.str fx, .str fy]) npk
          refine ⟨_, rfl, _, _, rfl, rfl, _, DGet.t (k := kP fx fy) (sK _ _ eq) upd_same, ?_⟩
          rw [hT.val]
          obtain ⟨z, ez, hp, hn⟩ : ∃ z : Int, ((T fx fy).map V.int).getD (V.int (fc + 1)) = V.int z ∧ (fc < z → M.tgStep T (fx, fy, fc) = M.put T fx fy fc) ∧ (¬ fc < z → M.tgStep T (fx, fy, fc) = T) := by
            cases eT : T fx fy with
            | none =>
              refine ⟨fc + 1, rfl, fun _ => ?_, fun n => absurd (Int.lt_succ fc) n⟩
              unfold M.tgStep
              rw [if_pos ⟨hxy, fun g e => by rw [eT] at e; cases e⟩]
            | some g =>
              refine ⟨g, rfl, fun l => ?_, fun n => ?_⟩
              · unfold M.tgStep
                rw [if_pos ⟨hxy, fun g' e => by rw [eT] at e; cases e; exact l⟩]
              · unfold M.tgStep
                rw [if_neg (fun z => n (z.2 g eT))]
          refine ⟨_, _, rfl, ez, _, rfl, ite2 (fun e4 => ?_) (fun e4 => ?_)⟩
          · have lt : fc < z := of_decide_eq_true e4
            rw [hp lt] at tg'
            refine ⟨_, rfl, _, rfl, _, rfl, _, rfl, by show 2 ≤ sizeLine; decide, fun p2 np2 => ?_⟩
            have sK2 := sK.trans (same_upd (o := .tup [.str fx, .str fy]) np2)
            refine ⟨q0, _, rfl, DPut.t (k := kP fx fy) (sK2 _ _ eq) upd_same (Nat.lt_of_le_of_lt hk (small6k (by omega))), ?_⟩
            exact ⟨_, _, _, _, _, rfl, fun c o e => by rw [upd_ne (ne_of_none e nq)]; exact sK2 _ _ (s' c o e), upd_same, hT.put fx fy fc, tg', Nat.le_trans (putK_le _ _ _) (by omega)⟩
          · have nl : ¬ fc < z := fun l => e4 (decide_eq_true l)
            rw [hn nl] at tg'
            exact ⟨_, _, _, kvs, T, rfl, s'.trans sK, sK _ _ eq, hT, tg', by omega⟩
        · simp [hxy] at e3
    · rintro σ H' ⟨y2, y3, y4, kvs, T, rfl, s', eq, hT, tg, hk⟩
      rw [hx.len, List.take_length] at tg
      exact ⟨_, rfl, q q0 kvs T H' nq s' eq hT tg (by rw [← hx.len]; exact hk)⟩
end
end Fv


set_option Elab.async false
set_option linter.all false
set_option maxRecDepth 100000
set_option maxHeartbeats 4000000
namespace Fv
open PySem PySem.Spec PyProof.Rows L2
/-! ### the sources of facts are known -/
abbrev sChkSrc : Stmt := top 21
def dkOf (zs : List Str) : List (Key × V) := zs.foldl (fun kvs z => putK kvs (Sum.inr z) (.bl true)) []
theorem dkOf_snoc (zs : List Str) (z : Str) : dkOf (zs ++ [z]) = putK (dkOf zs) (Sum.inr z) (.bl true) := by
  unfold dkOf
  rw [List.foldl_append]
  rfl
theorem putKK_le (c : List (Key × V)) (k : Key) (x : V) : (putK c k x).length ≤ c.length + 1 := by
  unfold putK
  split
  · rw [List.length_map]; omega
  · rw [List.length_append]; exact Nat.le_refl _
theorem dkOf_both : ∀ (n : Nat) (zs : List Str), zs.length = n → (dkOf zs).length ≤ n ∧ ∀ z, (valV (dkOf zs) (Sum.inr z)).isSome = decide (z ∈ zs)
  | 0, zs, h => by
    obtain rfl := List.length_eq_zero_iff.mp h
    exact ⟨Nat.le_refl _, fun z => by simp [dkOf, valV]⟩
  | n + 1, zs, h => by
    obtain ⟨ys, y, rfl⟩ : ∃ ys y, zs = ys ++ [y] := by
      have ne : zs ≠ [] := fun e => by rw [e] at h; cases h
      exact ⟨zs.dropLast, zs.getLast ne, (List.dropLast_concat_getLast ne).symm⟩
    have hl : ys.length = n := by simpa using h
    obtain ⟨h1, h2⟩ := dkOf_both n ys hl
    rw [dkOf_snoc]
    refine ⟨Nat.le_trans (putKK_le _ _ _) (by omega), fun z => ?_⟩
    rw [valV_put]
    by_cases e : z = y
    · subst e
      rw [if_pos rfl]
      simp
    · rw [if_neg (fun q => e (Sum.inr.inj q)), h2]
      simp [e]
def spChkS : Sp := fun vs H Q _ => ∃ (n a : Addr) (zs : List Str) (xs : List V) (L : List FaT), vs = [.ref n, .ref a] ∧ H n = some (.lst (zs.map V.str)) ∧ zs.length ≤ 60 ∧ H a = some (.lst xs) ∧ Its H xs L ∧
  (∀ f ∈ L, (f.1 = "" ∨ f.1 ∈ zs) ∧ (f.2.1 = "" ∨ f.2.1 ∈ zs)) ∧ ∀ H', Same H H' → Q .non H'
section
variable {P : Program} {w : World} {K : PySem.W.Frag} {mg : Str → Option Value} {base : Heap} {C : Addr}
abbrev nCs : List Str := ["names", "facts", "known", "x", "y", "_", "source", "name"]
theorem scCs : FnScope nCs ["names", "facts"] (defScope sChkSrc) := ⟨rfl, rfl, rfl, by decide +kernel, rfl, by decide +kernel, by decide +kernel⟩
theorem ok_chks {f : Addr} {fd : FuncData} (F : Fun K "_check_sources" "_check_sources" sChkSrc f fd) : FnOk P w K mg base CX0 1 f fd ["names", "facts"] spChkS := by
  refine F.ok scCs (fun vs H Q E h => ?_) (fun cdv A outer s H vs Q E hr h => ?_)
  · obtain ⟨n, a, zs, xs, L, rfl, _⟩ := h
    rfl
  · obtain ⟨n, a, zs, xs, L, rfl, hn, hz, ha, hx, hs, q⟩ := h
    have hu := hu_of hr
    refine ⟨_, pss_cons (ps_setDc (i := 2) (own := [("name", 7)]) (g := gName 7) (tt := tYes) rfl scCs.nd rfl rfl (swD_true rfl rfl rfl (by decide +kernel)) (pi_list (pv 0)) (blkOk_by (N := nCs) (sc := defScope sChkSrc) (by decide +kernel))
        (fun _ _ _ _ _ => pg_name (i := 7) scCs.nd rfl (Or.inl rfl)) (fun _ _ _ _ _ => pts_nil) (fun _ _ _ _ _ => pv 7) (fun _ _ _ _ _ => pe_bl))
      (pss_one (ps_for PassesOwn.never rfl (pi_list (pv 1)) (pg_tup (by rfl) (pgs_cons (pg_name (i := 3) scCs.nd rfl (.inl rfl)) (pgs_cons (pg_name (i := 4) scCs.nd rfl (.inl rfl)) (pgs_cons (pg_name (i := 5) scCs.nd rfl (.inl rfl)) pgs_nil))))
        (pss_one (ps_for PassesOwn.never rfl (pi_tup (pe_tup (pa_cons (pv 3) (pa_cons (pv 4) pa_nil)))) (pg_name (i := 6) scCs.nd rfl (.inl rfl))
          (pss_one (ps_if (PW.pt (pw_and (pt_cmpR op_ne (pv 6) pe_str (nomark _)) (pw_and1 (pt_cmp (pc_dnotin hu (pv 6) (pv 2)))))) pss_dead pss_nil)))))), ?_⟩
    refine ⟨_, rfl, n, rfl, ⟨_, SqL.of hn⟩, fun D hD => ?_⟩
    refine dc_it (walk_list (K := K) (a := n) (xs := zs.map V.str)) (fun i H' => Same H H' ∧ H' D = some (.dK (dkOf (zs.take i)))) ⟨same_upd hD, upd_same⟩ (fun i H' _ h => SqL.of (h.1 _ _ hn)) ?_ ?_
    · rintro i x H' H2 hi ⟨s', e'⟩ ⟨rfl, hxi⟩
      obtain ⟨z, hzi, rfl⟩ : ∃ z, zs[i]? = some z ∧ x = .str z := by
        rw [List.getElem?_map] at hxi
        cases e : zs[i]? with
        | none => rw [e] at hxi; cases hxi
        | some z => rw [e] at hxi; cases hxi; exact ⟨z, rfl, rfl⟩
      have et : zs.take (i + 1) = zs.take i ++ [z] := by rw [List.take_succ, hzi]; rfl
      refine ⟨rfl, _, rfl, _, Sum.inr z, rfl, e', ?_, fun c o e => ?_, ?_⟩
      · exact Nat.lt_of_le_of_lt (dkOf_both _ _ rfl).1 (small60 (by rw [List.length_take]; omega))
      · rw [upd_ne (ne_of_none e hD)]
        exact s' c o e
      · rw [upd_same, et, dkOf_snoc]
    · rintro H1 ⟨s1, e1⟩
      rw [List.length_map, List.take_length] at e1
      have vz := (dkOf_both _ zs rfl).2
      dsimp only [gName]
      refine ⟨_, rfl, a, rfl, ⟨_, SqL.of (s1 _ _ ha)⟩, ?_⟩
      refine for_list (K := K) (a := a) (xs := xs) (fun i σ H' => ∃ y3 y4 y5 y6 y7 : Option V, σ = [some (.ref n), some (.ref a), some (.ref D), y3, y4, y5, y6, y7] ∧ Same H1 H') ⟨none, none, none, none, _, rfl, fun _ _ e => e⟩ (fun i σ H' _ h => by obtain ⟨_, _, _, _, _, _, s'⟩ := h; exact SqL.of (s' _ _ (s1 _ _ ha))) ?_ ?_
      · rintro i x σ H' hxi ⟨y3, y4, y5, y6, y7, rfl, s'⟩
        obtain ⟨⟨fx, fy, fc⟩, hf, t, rfl, ht⟩ := hx.at_ i x hxi
        obtain ⟨sx, sy⟩ := hs _ (List.mem_of_getElem? hf)
        refine ⟨t, _, rfl, SqT.of (s' _ _ (s1 _ _ ht)), rfl, _, _, rfl, _, _, rfl, _, _, rfl, rfl, ?_⟩
        refine ⟨_, rfl, _, rfl, by show 2 ≤ sizeLine; decide, fun p np => ?_⟩
        have sp := same_upd (o := .tup [.str fx, .str fy]) np
        refine ⟨p, rfl, ⟨_, SqT.of upd_same⟩, ?_⟩
        refine for_tup (K := K) (a := p) (xs := [.str fx, .str fy]) (fun i σ H2 => ∃ y6 y7 : Option V, σ = [some (.ref n), some (.ref a), some (.ref D), some (.str fx), some (.str fy), some (.int fc), y6, y7] ∧ H2 = upd H' p (.tup [.str fx, .str fy])) ⟨y6, y7, rfl, rfl⟩ (fun i σ H2 _ h => by obtain ⟨_, _, _, rfl⟩ := h; exact SqT.of upd_same) ?_ ?_
        · rintro j x σ H2 hxj ⟨y6, y7, rfl, rfl⟩
          obtain ⟨z, rfl, hz⟩ : ∃ z, x = .str z ∧ (z = "" ∨ z ∈ zs) := by
            match j, hxj with
            | 0, h => cases h; exact ⟨fx, rfl, sx⟩
            | 1, h => cases h; exact ⟨fy, rfl, sy⟩
          refine ⟨_, rfl, rfl, _, rfl, ite2 (fun e => ?_) (fun e => ?_)⟩
          · have nz : z ≠ "" := fun q => by simp [q] at e
            have hm := hz.resolve_left nz
            have sm := vz z
            rw [decide_eq_true hm] at sm
            refine ⟨_, rfl, _, rfl, D, _, rfl, DGet.k (k := Sum.inr z) (sp _ _ (s' _ _ e1)), ?_⟩
            refine ⟨_, rfl, ite2 (fun e5 => ?_) (fun e5 => ⟨_, _, rfl, rfl⟩)⟩
            rw [sm] at e5
            cases e5
          · exact ⟨_, _, rfl, rfl⟩
        · rintro σ H2 ⟨y6, y7, rfl, rfl⟩
          exact ⟨_, _, _, _, _, rfl, s'.trans sp⟩
      · rintro σ H' ⟨y3, y4, y5, y6, y7, rfl, s'⟩
        exact q H' (s1.trans s')
end
end Fv


set_option Elab.async false
set_option linter.all false
set_option maxRecDepth 100000
set_option maxHeartbeats 4000000
/-! zip over a tuple and a list -/
namespace Fv
open PySem PySem.Spec PyProof.Rows L2
abbrev mz1 (h : Heap) (a : Addr) : Heap := h.push { cls := .type "tuple_iterator", data := .fields #[.ref a, .int 0 0] }
abbrev mz2 (h : Heap) (a b : Addr) : Heap := (mz1 h a).push { cls := .type "list_iterator", data := .fields #[.ref b, .int 0 0] }
abbrev mz3 (h : Heap) (a b : Addr) : Heap := (mz2 h a b).push { cls := .type "tuple", data := .seq #[.ref h.objs.size, .ref (mz1 h a).objs.size] }
abbrev mz4 (h : Heap) (a b : Addr) : Heap := (mz3 h a b).push { cls := .type "tuple", data := .seq #[.none, .none] }
abbrev mz5 (h : Heap) (a b : Addr) : Heap := (mz4 h a b).push { cls := .type "zip", data := .fields #[.none, .bool false, .bool false, .ref (mz2 h a b).objs.size, .ref (mz3 h a b).objs.size] }
theorem mz_new (a b : Addr) (us vs : Array Value) : Meets (Builtin.«zip.__new__» ⟨[.type "zip", .ref a, .ref b], []⟩) (fun _ R s => s.heap.IsTuple a us ∧ s.heap.IsList b vs ∧
    R (.ok (.ret (.ref (mz4 s.heap a b).objs.size))) { s with heap := mz5 s.heap a b }) :=
  .of_wp fun prog w A R s hh => by
    obtain ⟨hp, g, d, tk, os⟩ := s
    obtain ⟨ha, hb, h⟩ := hh
    have hsub := sub_zip
    have h1 : Heap.IsTuple (Shared.heap ⟨hp, g, d, tk, os⟩) a us := ha
    have h2 : Heap.IsList (Shared.heap ⟨hp.push { cls := .type "tuple_iterator", data := .fields #[.ref a, .int 0 0] }, g, d, tk, os⟩) b vs := Heap.IsList.push hb _
    wp_walk using wpAny_pyIter_tuple h1, wpAny_pyIter_list h2
    exact ⟨_, rfl, h⟩
theorem call_mz {prog : Program} {w : World} {A : Around} {E : Value → Shared → Prop} {s : Shared} {a b : Addr} {us vs : Array Value} {Q : Value → Shared → Prop} (ha : s.heap.IsTuple a us) (hb : s.heap.IsList b vs)
    (k : ∀ h', IsZip h' (s.heap.objs.size + 4) (s.heap.objs.size + 2) (s.heap.objs.size + 3) .none → IsTupOf2 h' (s.heap.objs.size + 2) (.ref s.heap.objs.size) (.ref (s.heap.objs.size + 1)) → IsTupOf2 h' (s.heap.objs.size + 3) .none .none →
      h'.IsTupleIter s.heap.objs.size a 0 → h'.IsListIter (s.heap.objs.size + 1) b 0 → (∀ c o, s.heap.get? c = some o → h'.get? c = some o) → Q (.ref (s.heap.objs.size + 4)) { s with heap := h' }) :
    wpAny (model prog w) A (call (.type "zip") [.ref a, .ref b]) Q E s := by
  refine callType_new F.called_zip (by decide) (F.typeCall_zip_2 _ _) (F.newCall_zip_2 _ _) (fun obj => F.args_object_init_3 obj _ _) F.entry_zip_new (mz_new a b us vs) ⟨ha, hb, ?_⟩
  have n1 : (mz1 s.heap a).objs.size = s.heap.objs.size + 1 := Heap.size_push ..
  have n2 : (mz2 s.heap a b).objs.size = s.heap.objs.size + 2 := (Heap.size_push ..).trans (by rw [n1])
  have n3 : (mz3 s.heap a b).objs.size = s.heap.objs.size + 3 := (Heap.size_push ..).trans (by rw [n2])
  have n4 : (mz4 s.heap a b).objs.size = s.heap.objs.size + 4 := (Heap.size_push ..).trans (by rw [n3])
  have up : ∀ {h : Heap} {c : Addr} {o u : Obj}, h.get? c = some o → (h.push u).get? c = some o := fun e => Heap.get?_push_of_some _ e
  have g5 : (mz5 s.heap a b).get? (mz4 s.heap a b).objs.size = some _ := Heap.get?_push_size _ rfl
  have g4 : (mz5 s.heap a b).get? (mz3 s.heap a b).objs.size = some _ := up (Heap.get?_push_size _ rfl)
  have g3 : (mz5 s.heap a b).get? (mz2 s.heap a b).objs.size = some _ := up (up (Heap.get?_push_size _ rfl))
  have g2 : (mz5 s.heap a b).get? (mz1 s.heap a).objs.size = some _ := up (up (up (Heap.get?_push_size _ rfl)))
  have g1 : (mz5 s.heap a b).get? s.heap.objs.size = some _ := up (up (up (up (Heap.get?_push_size _ rfl))))
  show _ ∧ _
  rw [n2, n3, n4] at g5
  rw [n1, n2] at g3
  rw [n3] at g4
  rw [n1] at g2
  rw [n4]
  exact ⟨⟨_, g5, rfl⟩, k _ g5 g3 g4 ⟨_, g1, rfl, rfl⟩ ⟨_, g2, rfl, rfl⟩ fun c o x => up (up (up (up (up x))))⟩
theorem apart_tup {h : Heap} {i a : Addr} {k : Nat} {us : Array Value} (hi : h.IsTupleIter i a k) (ha : h.IsTuple a us) : a ≠ i := fun e => by
  obtain ⟨o1, e1, c1, _⟩ := hi
  obtain ⟨o2, e2, c2, _⟩ := ha
  rw [e, e1] at e2
  cases e2
  rw [c1] at c2
  simp at c2
theorem apart_lst {h : Heap} {i a : Addr} {k : Nat} {us : Array Value} (hi : h.IsListIter i a k) (ha : h.IsList a us) : a ≠ i := fun e => by
  obtain ⟨o1, e1, c1, _⟩ := hi
  obtain ⟨o2, e2, c2, _⟩ := ha
  rw [e, e1] at e2
  cases e2
  rw [c1] at c2
  simp at c2
/-- the tuple at a and the list at b as they stand at each turn, their items in new pairs -/
def Izm (K : PySem.W.Frag) (a b : Addr) : It :=
  ⟨fun i H => ∃ (xs ys : List V) (x y : V), SqT K H a xs ∧ SqL K H b ys ∧ xs[i]? = some x ∧ ys[i]? = some y,
    fun i H v H' => ∃ T x y, v = .ref T ∧ H T = none ∧ H' = upd H T (.tup [x, y]) ∧ (∀ xs, SqT K H a xs → xs[i]? = some x) ∧ ∀ ys, SqL K H b ys → ys[i]? = some y,
    fun i H => ∃ xs ys : List V, SqT K H a xs ∧ SqL K H b ys ∧ i ≤ xs.length ∧ i ≤ ys.length ∧ (i = xs.length ∨ i = ys.length)⟩
theorem turn_mz {P : Program} {w : World} {K : PySem.W.Frag} {elts : List Expr} {kk : Nat} {tpos : Pos} {a b z ti to i1 i2 : Addr} (S : ZipSep2 z ti to i1 i2 [i1, a] [i2, b]) :
    Turn P w K (.Tuple elts kk tpos) (Izm K a b) [z, ti, to, i1, i2] z (fun i h => IsZip h z ti to .none ∧ IsTupOf2 h ti (.ref i1) (.ref i2) ∧ (∃ x y, IsTupOf2 h to x y) ∧ h.IsTupleIter i1 a i ∧ h.IsListIter i2 b i) where
  mem := by simp
  obj := fun i h st c hc => by
    obtain ⟨pz, pi, ⟨x, y, po⟩, ⟨o1, e1, _, d1⟩, ⟨o2, e2, _, d2⟩⟩ := st
    rcases (show c = z ∨ c = ti ∨ c = to ∨ c = i1 ∨ c = i2 by simpa using hc) with rfl | rfl | rfl | rfl | rfl
    · exact ⟨_, pz, fun v q => nomatch q⟩
    · exact ⟨_, pi, fun v q => nomatch q⟩
    · exact ⟨_, po, fun v q => nomatch q⟩
    · exact ⟨o1, e1, fun v q => by rw [d1] at q; cases q⟩
    · exact ⟨o2, e2, fun v q => by rw [d2] at q; cases q⟩
  keep := fun i h h' st k => by
    obtain ⟨pz, pi, ⟨x, y, po⟩, h1, h2⟩ := st
    exact ⟨k z (by simp) _ pz, k ti (by simp) _ pi, ⟨x, y, k to (by simp) _ po⟩, h1.at fun o q => k i1 (by simp) o q, h2.at fun o q => k i2 (by simp) o q⟩
  item := by
    intro X hP hw hK hc i pins s σ H E I hf st hg
    subst hP hw hK
    obtain ⟨pz, pi, ⟨x0, y0, po⟩, h1, h2⟩ := st
    obtain ⟨xs, ys, x, y, qx, qy, hx, hy⟩ := hg
    obtain ⟨us, rv, p, _⟩ := I.tuple qx
    obtain ⟨vs, rv2, p2, _⟩ := I.list qy
    have pa : s.heap.IsTuple a us.toArray := p
    obtain ⟨u, hu, ru⟩ := rv.get hx
    obtain ⟨u2, hu2, ru2⟩ := rv2.get hy
    have lt1 : i < us.toArray.size := by
      have := (List.getElem?_eq_some_iff.mp hu).1
      simpa using this
    have lt2 : i < vs.toArray.size := by
      have := (List.getElem?_eq_some_iff.mp hu2).1
      simpa using this
    have lz : z < s.heap.objs.size := Heap.lt_size pz
    have na : a ≠ i1 := apart_tup h1 pa
    have nb : b ≠ i2 := apart_lst h2 p2.isList
    refine wpAny_pyNext_zipD2_item S (draws_tup (A := X.A.in1) (I.ok.hd hc) i1 a na us.toArray) (Draws.list (A := X.A.in1) (I.ok.hd hc) i2 b nb vs.toArray) pz pi po ⟨h1, pa⟩ ⟨h2, p2.isList⟩ lt1 lt2 fun y1 y2 h' tk r1 r2 z' to' s1' s2' hT hsz hk => ?_
    have e1 : y1 = u := by
      have : some u = some y1 := hu.symm.trans (by simpa using r1)
      exact (Option.some.inj this).symm
    have e2 : y2 = u2 := by
      have : some u2 = some y2 := hu2.symm.trans (by simpa using r2)
      exact (Option.some.inj this).symm
    subst e1 e2
    refine ⟨_, rfl, wpAny_letOwnedTupleGo_zip (s := { s with heap := h', toks := tk }) z' fun h'' z'' sb => ?_⟩
    have hT2 : h''.get? s.heap.objs.size = some { cls := .type "tuple", data := .seq #[y1, y2] } := (sb.2 _ (Nat.ne_of_gt lz)).trans hT
    have ok : ObjOk X.prog X.w (upd H s.heap.objs.size (.tup [x, y])) h'' s.heap.objs.size (.tup [x, y]) := ⟨by show 2 ≤ sizeLine; decide, [y1, y2], .cons ru (.cons ru2 .nil), ⟨_, hT2, rfl, _, rfl⟩⟩
    have kk : ∀ c o, c ∉ [z, ti, to, i1, i2] → s.heap.get? c = some o → h''.get? c = some o := fun c o hb q => (sb.2 c (fun q' => hb (by simp [q']))).trans (hk c o (fun q' => hb (by simp [q'])) (fun q' => hb (by simp [q'])) (fun q' => hb (by simp [q'])) (fun q' => hb (by simp [q'])) q)
    have I1 : Inv X pins σ (upd H s.heap.objs.size (.tup [x, y])) { s with heap := h'', toks := tk } := I.turnedNew (ch := [z, ti, to, i1, i2]) kk hf (Nat.le_refl _) ok
    refine ⟨.ref s.heap.objs.size, _, I1, rfl, ⟨_, x, y, rfl, I.hok.fresh (Nat.le_refl _), rfl, fun l hl => by rw [I.tuple_inj hl qx]; exact hx, fun l hl => by rw [I.list_inj hl qy]; exact hy⟩, ⟨z'', ?_, ⟨y1, y2, ?_⟩, ?_, ?_⟩, fun c hcm => ?_⟩
    · exact (sb.2 _ S.TIz).trans (hk _ _ S.TIz S.TITO S.TIi1 S.TIi2 pi)
    · exact (sb.2 _ S.TOz).trans to'
    · exact s1'.1.at fun o q => (sb.2 _ S.zi1.symm).trans q
    · exact s2'.1.at fun o q => (sb.2 _ S.zi2.symm).trans q
    · have lc : c < s.heap.objs.size := by
        rcases (show c = z ∨ c = ti ∨ c = to ∨ c = i1 ∨ c = i2 by simpa using hcm) with rfl | rfl | rfl | rfl | rfl
        · exact lz
        · exact Heap.lt_size pi
        · exact Heap.lt_size po
        · obtain ⟨_, e1, _⟩ := h1; exact Heap.lt_size e1
        · obtain ⟨_, e2, _⟩ := h2; exact Heap.lt_size e2
      rw [upd_ne (Nat.ne_of_lt lc)]
      exact (hf c hcm).1
  done := by
    intro X hP hw hK hc i pins s σ H E I hf st hg
    subst hP hw hK
    obtain ⟨pz, pi, ⟨x0, y0, po⟩, h1, h2⟩ := st
    obtain ⟨xs, ys, qx, qy, l1, l2, hend⟩ := hg
    obtain ⟨us, rv, p, _⟩ := I.tuple qx
    obtain ⟨vs, rv2, p2, _⟩ := I.list qy
    have pa : s.heap.IsTuple a us.toArray := p
    have e1 : us.toArray.size = xs.length := by rw [List.size_toArray, rv.length]
    have e2 : vs.toArray.size = ys.length := by rw [List.size_toArray, rv2.length]
    exact wpAny_pyNext_zipD2_end S (draws_tup (A := X.A.in1) (I.ok.hd hc) i1 a (apart_tup h1 pa) us.toArray) (Draws.list (A := X.A.in1) (I.ok.hd hc) i2 b (apart_lst h2 p2.isList) vs.toArray) pz pi po ⟨h1, pa⟩ ⟨h2, p2.isList⟩ (by rw [e1]; exact l1) (by rw [e2]; exact l2) (by rw [e1, e2]; exact hend) fun h' tk hk => ⟨rfl, I.turnedL (t' := tk) (ch := [z, ti, to, i1, i2]) (fun c o hb q =>
      hk c o (fun q' => hb (by simp [q'])) (fun q' => hb (by simp [q'])) (fun q' => hb (by simp [q'])) (fun q' => hb (by simp [q'])) q) hf⟩
  self := fun A i s Q E st h => wpAny_pyIter_zip st.1 h
theorem not_pair {x p q : Nat} (h1 : x ≠ p) (h2 : x ≠ q) : x ∉ [p, q] := by simp [h1, h2]
theorem sep_new {n a b : Nat} (ha : a < n) (hb : b < n) : ZipSep2 (n + 4) (n + 2) (n + 3) n (n + 1) [n, a] [n + 1, b] where
  TIz := by simp
  TOz := by simp
  TITO := by simp
  TIi1 := by simp
  mem1 := by simp
  zf1 := not_pair (by omega) (by omega)
  Tf1 := not_pair (by omega) (by omega)
  TIi2 := by simp
  mem2 := by simp
  zf2 := not_pair (by omega) (by omega)
  Tf2 := not_pair (by omega) (by omega)
  sep1_2 := not_pair (by omega) (by omega)
  sep2_1 := not_pair (by omega) (by omega)
def iZm (K : PySem.W.Frag) (ta : TA) : TI := fun σ H R => ta σ H fun vs H1 => ∃ a b xs ys, vs = [.ref a, .ref b] ∧ SqT K H1 a xs ∧ SqL K H1 b ys ∧ R (Izm K a b) H1
theorem pi_mz {X : Cx} {e e2 : Expr} {ta : TA} {p pos tpos : Pos} {elts : List Expr} {kk : Nat} (hg : Gl X "zip") (hm : X.mg "zip" = none) (ha : PA X [e, e2] ta)
    (st : starEach [e, e2] X.env = (false, eval e X.env) :: starEach [e2] X.env := by rfl) (pl : (backTo pos (starEach [e2] X.env)).any (·.1) = false := by rfl) :
    PI X (.Tuple elts kk tpos) (.Call (.Name "zip" p) [e, e2] [] pos) (iZm X.K ta) := by
  refine ⟨fun pins s σ H R I h => ?_⟩
  refine Call_ (ld_blt I hg hm PyProof.Rows.boot_zip (PyProof.Rows.callWith_type1 (thn (ha.run pos pins s σ H _ I h) fun us s1 ⟨vs, H1, I1, r1, a, b, xs, ys, ex, qx, qy, q⟩ => ?_) st pl))
  subst ex
  cases r1 with
  | cons r rr =>
    cases rr with
    | cons r' rr =>
      cases rr
      cases r
      cases r'
      obtain ⟨us, rv, p1, _⟩ := I1.tuple qx
      obtain ⟨ws, rv2, p2, _⟩ := I1.list qy
      have pa : s1.heap.IsTuple a us.toArray := p1
      have la : a < s1.heap.objs.size := by obtain ⟨o, ho, _⟩ := pa; exact Heap.lt_size ho
      refine call_mz pa p2.isList fun h' z' ti' to' j1 j2 hk => wpAny_pyIter_zip z' ?_
      have I2 : Inv X pins σ H1 { s1 with heap := h' } := I1.kept (t' := s1.toks) hk
      refine ⟨s1.heap.objs.size + 4, [s1.heap.objs.size + 4, s1.heap.objs.size + 2, s1.heap.objs.size + 3, s1.heap.objs.size, s1.heap.objs.size + 1], _, _, H1, rfl, I2, turn_mz (sep_new la p2.lt), ⟨z', ti', ⟨_, _, to'⟩, j1, j2⟩, fun c hc => ?_, q⟩
      have hle : s1.heap.objs.size ≤ c := by
        rcases (show c = s1.heap.objs.size + 4 ∨ c = s1.heap.objs.size + 2 ∨ c = s1.heap.objs.size + 3 ∨ c = s1.heap.objs.size ∨ c = s1.heap.objs.size + 1 by simpa using hc) with z | z | z | z | z
        all_goals rw [z]
        · exact Nat.le_add_right _ 4
        · exact Nat.le_add_right _ 2
        · exact Nat.le_add_right _ 3
        · exact Nat.le_refl _
        · exact Nat.le_add_right _ 1
      exact I1.fpOk hle (I1.hok.fresh hle)
theorem walk_mz {K : PySem.W.Frag} {a b : Addr} {xs ys : List V} {n : Nat} (hn : n = min xs.length ys.length) : Walk (Izm K a b) n (fun H => SqT K H a xs ∧ SqL K H b ys) (YPair (fun i => xs[i]?) (fun i => ys[i]?)) := by
  subst hn
  refine ⟨fun i _ hi q => ?_, fun _ q => ⟨xs, ys, q.1, q.2, by omega, by omega, by omega⟩, fun i H v H' _ q y => ?_⟩
  · have h1 : i < xs.length := by omega
    have h2 : i < ys.length := by omega
    exact ⟨xs, ys, xs[i], ys[i], q.1, q.2, by simp [h1], by simp [h2]⟩
  · obtain ⟨T, x, z, h1, h2, h3, h4, h5⟩ := y
    exact ⟨T, x, z, h1, h2, h3, h4 xs q.1, h5 ys q.2⟩
end Fv


set_option Elab.async false
set_option linter.all false
set_option maxRecDepth 100000
set_option maxHeartbeats 1000000
/-! own rule: for (x, y), c in d.items() over a dict whose keys are tuples (locked) -/
namespace Fv
open PySem PySem.Spec PyProof.Rows L2
/-- at each turn a new pair of the key's own tuple and the value -/
def Itit (d : Addr) (o : Obj) (kvs : List (List Key × V)) : It where
  go i G := G d = some (.frz o (.dT kvs)) ∧ i < kvs.length
  yld i G u G2 := ∃ (N kq : Addr) (kk : List Key) (val : V), kvs[i]? = some (kk, val) ∧ u = .ref N ∧ G N = none ∧ G kq = some (.tup (kk.map kV)) ∧ G2 = upd G N (.tup [.ref kq, val])
  stop i G := G d = some (.frz o (.dT kvs)) ∧ kvs.length ≤ i
section
variable {X : Cx} {pins : List (Addr × Obj)} {σ : L2.St} {H : Hp} {s : Shared} {d : Addr} {o : Obj}
theorem frzV {kvs : List (List Key × V)} (I : Inv X pins σ H s) (h : H d = some (.frz o (.dT kvs))) :
    (d == sysModules) = false ∧ ∃ (es : Array DictEntry) (ep : Nat), o.data = .dict es ep ∧ s.heap.DictRaw d es ep ∧ es.size = kvs.length ∧
      ∀ (i : Nat) (k : List Key) (v : V), kvs[i]? = some (k, v) → ∃ (en : DictEntry) (q : Addr), es[i]? = some en ∧ en.key = .ref q ∧ H q = some (.tup (k.map kV)) ∧ RelV v en.val := by
  obtain ⟨atd, _, notsys, rows, pairs, ob, es, ep, get, exact_, dat, ents, _⟩ := I.hok d _ h
  rw [atd] at get
  cases get
  refine ⟨notsys, es, ep, dat, ⟨_, atd, exact_, dat⟩, ?_, fun i k v e => ?_⟩
  · have a1 : es.size = rows.length := size_of_entries ents
    have a2 : kvs.length = rows.length := Paired.length pairs
    omega
  · obtain ⟨row, hrow, r1, r2, r3⟩ := L2.paired_get pairs e
    have at_i := entry_at ents i
    rw [hrow] at at_i
    exact ⟨_, row.2.1, at_i, rfl, r2, r3⟩
end
section
variable {P : Program} {w : World} {K : PySem.W.Frag} {d : Addr} {o : Obj} {es : Array DictEntry} {ep : Nat}
theorem turn_itemsT {kvs : List (List Key × V)} {parts : List Expr} {ctx : Nat} {at_ : Pos} (it : Addr) (hod : o.data = .dict es ep) :
    Turn P w K (.Tuple parts ctx at_) (Itit d o kvs) [it] it (fun i h => ∃ u v, IsItemIter h it d i kvs.length ep u v) where
  mem := by simp
  obj := fun i h st c hc => by
    obtain rfl : c = it := by simpa using hc
    obtain ⟨u, v, e⟩ := st
    exact ⟨_, e, fun _ z => nomatch z⟩
  keep := fun i h h' st k => by
    obtain ⟨u, v, e⟩ := st
    exact ⟨u, v, k it (by simp) _ e⟩
  item := by
    rintro X rfl rfl rfl calm i pins s σ H E I hf st ⟨atd, lt⟩
    obtain ⟨notsys, es2, ep2, dat, raw, size, ent⟩ := frzV I atd
    obtain ⟨rfl, rfl⟩ := dict_ep hod dat
    obtain ⟨⟨k, v⟩, hkv⟩ : ∃ e, kvs[i]? = some e := ⟨kvs[i], List.getElem?_eq_getElem lt⟩
    obtain ⟨en, q, hen, hkey, hq, hv⟩ := ent i k v hkv
    obtain ⟨u0, v0, he⟩ := st
    rw [← size] at he
    have small : it < s.heap.objs.size := Heap.lt_size he
    obtain ⟨hi, een⟩ := Array.getElem?_eq_some_iff.mp hen
    refine wpAny_pyNext_items_item_raw he raw hi fun h1 out tup sz old => ?_
    rw [een] at out tup
    rw [hkey] at out tup
    refine ⟨_, rfl, wpAny_letOwnedTupleGo_items (s := { s with heap := h1 }) out fun h2 inn but => ?_⟩
    have tup2 := (but.2 _ (Nat.ne_of_gt small)).trans tup
    have fresh : H s.heap.objs.size = none := I.hok.fresh (Nat.le_refl _)
    have obj_ : ObjOk X.prog X.w (upd H s.heap.objs.size (.tup [.ref q, v])) h2 s.heap.objs.size (.tup [.ref q, v]) :=
      ⟨by show 2 ≤ sizeLine; decide, [.ref q, en.val], .cons rfl (.cons hv .nil), ⟨_, tup2, rfl, _, rfl⟩⟩
    have inv2 : Inv X pins σ (upd H s.heap.objs.size (.tup [.ref q, v])) { s with heap := h2 } :=
      I.turnedNew (t' := s.toks) (ch := [it]) (fun c ob hc e => (but.2 c (by simpa using hc)).trans (old c ob (by simpa using hc) e)) hf (Nat.le_refl _) obj_
    refine ⟨.ref s.heap.objs.size, _, inv2, rfl, ⟨_, q, k, v, hkv, rfl, fresh, hq, rfl⟩, ⟨_, _, by rw [← size]; exact inn⟩, fun c hc => ?_⟩
    obtain rfl : c = it := by simpa using hc
    rw [upd_ne (Nat.ne_of_lt small)]
    exact (hf c (by simp)).1
  done := by
    rintro X rfl rfl rfl calm i pins s σ H E I hf st ⟨atd, le⟩
    obtain ⟨f0, f1, f2, f3, f4, f5⟩ := hf it (by simp)
    obtain ⟨notsys, es2, ep2, dat, raw, size, ent⟩ := frzV I atd
    obtain ⟨rfl, rfl⟩ := dict_ep hod dat
    obtain ⟨u0, v0, he⟩ := st
    rw [← size] at he
    exact wpAny_pyNext_items_end_raw (I.ok.hd calm) he raw (by omega) fun h1 eb => ⟨rfl, I.turned (t' := s.toks) (fun c ob hc e => eb c ob hc e) f0 f1 f3 f4 f5⟩
  self := fun A i s Q E st h => by
    obtain ⟨_, _, e⟩ := st
    exact PySem.W.kcp_self e h
end
def iItemsT (td : TE) : TI := fun σ H R => td σ H fun u G => ∃ d o kvs, u = .ref d ∧ G d = some (.frz o (.dT kvs)) ∧ R (Itit d o kvs) G
section
variable {X : Cx} {dict : Expr} {td : TE} {pa pc : Pos}
theorem pi_itemsT {parts : List Expr} {ctx : Nat} {at_ : Pos} (he : PE X dict td) (base : attributeBase dict "items" X.env (eval dict X.env) = eval dict X.env := by rfl) (line : (pa.endLine == pc.line) = true := by rfl) :
    PI X (.Tuple parts ctx at_) (.Call (.Attribute dict "items" pa) [] [] pc) (iItemsT td) := by
  constructor
  intro pins s σ H R I h
  refine wpAny_Call_method base rfl line F.plainAttrs_dict F.slot_dict_items F.type_dict_items (thn (he.run pins s σ H _ I h) ?_)
  rintro u s1 ⟨x, G, I1, rel, d, o, kvs, rfl, atd, more⟩
  obtain rfl : u = Value.ref d := rel
  obtain ⟨notsys, es, ep, dat, raw, size, ent⟩ := frzV I1 atd
  obtain ⟨ty_, nodict, _⟩ := isD_at I1 (.inr ⟨kvs, .inr ⟨o, atd⟩⟩)
  refine ⟨ty_, nodict, ?_⟩
  have up : ∀ (c : Addr) ob, s1.heap.get? c = some ob → (s1.heap.push { cls := .type "dict_items", data := .fields #[.ref d] }).get? c = some ob := fun c ob e => Heap.get?_push_of_some _ e
  have I2 : Inv X pins σ G { s1 with heap := s1.heap.push { cls := .type "dict_items", data := .fields #[.ref d] } } := I1.kept (t' := s1.toks) up
  have last : wpAny (model X.prog X.w) X.A (pyIter (.ref s1.heap.objs.size)) (PIE X pins σ (.Tuple parts ctx at_) R) X.xe { s1 with heap := s1.heap.push { cls := .type "dict_items", data := .fields #[.ref d] } } := by
    refine wpAny_pyIter_items_raw (d := d) (es := es) (ep := ep) ⟨_, Heap.get?_push_size _ rfl, rfl, rfl⟩ (raw.at (up d)) (pi_one (tk := s1.toks) I2 _ (turn_itemsT _ dat) ⟨.none, .none, ?_⟩ more)
    rw [← size]
    exact Heap.get?_push_size _ rfl
  show wpAny _ _ (callWith pc (.builtin "dict.items") [.ref d] [] []) _ X.xe s1
  exact method_meetsIn F.slot_dict_items F.entry_dict_items rfl (PySem.evalArgs_none ⟨rfl, ty_, F.args_dict_items_1 _, _, meets_dict_items_raw d notsys, ⟨es, ep, raw⟩, last⟩)
theorem walk_itemsT {d : Addr} {o : Obj} {kvs : List (List Key × V)} : Walk (Itit d o kvs) kvs.length (fun G => G d = some (.frz o (.dT kvs)))
    (fun i G u G2 => ∃ (N kq : Addr) (kk : List Key) (val : V), kvs[i]? = some (kk, val) ∧ u = .ref N ∧ G N = none ∧ G kq = some (.tup (kk.map kV)) ∧ G2 = upd G N (.tup [.ref kq, val])) :=
  ⟨fun _ _ lt e => ⟨e, lt⟩, fun _ e => ⟨e, Nat.le_refl _⟩, fun _ _ _ _ _ _ e => e⟩
end
end Fv


set_option Elab.async false
set_option linter.all false
set_option maxRecDepth 100000
set_option maxHeartbeats 4000000
namespace Fv
open PySem PySem.Spec PyProof.Rows L2
/-! ### Facts that stand: their greatest -/
abbrev sGreatest : Stmt := inClass (top 18) 2
abbrev sCheckM : Stmt := inClass (top 18) 10
structure FacC (K : PySem.W.Frag) (C : Addr) : Prop where
  cl : Cls K C
  n1 : NoAttr K C "_names"
  n2 : NoAttr K C "_table"
/-- at x stands a Facts over the names (at n), whose table is T -/
def FacAtN (C : Addr) (H : Hp) (x n : Addr) (zs : List Str) (T : M.Tb Str) : Prop :=
  ∃ (dx q : Addr) (kvs : List (List Key × V)), H x = some (.ins C dx [(("_names" : Str), .ref n), (("_table" : Str), .ref q)]) ∧
    H n = some (.lst (zs.map V.str)) ∧ zs.length ≤ 60 ∧ H q = some (.dT kvs) ∧ TbL kvs T
def FacAt (C : Addr) (H : Hp) (x : Addr) (zs : List Str) (T : M.Tb Str) : Prop := ∃ n, FacAtN C H x n zs T
/-- things that are no lists, and the names, stand -/
theorem FacAtN.keep {C : Addr} {H H' : Hp} {x n : Addr} {zs : List Str} {T : M.Tb Str} (h : FacAtN C H x n zs T) (s : ∀ a o, (∀ ys, o = .lst ys → a = n) → H a = some o → H' a = some o) : FacAtN C H' x n zs T := by
  obtain ⟨dx, q, kvs, h1, h4, h5, h6, h7⟩ := h
  exact ⟨dx, q, kvs, s _ _ (fun _ z => nomatch z) h1, s _ _ (fun _ _ => rfl) h4, h5, s _ _ (fun _ z => nomatch z) h6, h7⟩
theorem FacAt.same {C : Addr} {H H' : Hp} {x : Addr} {zs : List Str} {T : M.Tb Str} (h : FacAt C H x zs T) (s : Same H H') : FacAt C H' x zs T := by
  obtain ⟨n, h⟩ := h
  exact ⟨n, h.keep fun a o _ e => s a o e⟩
theorem fac_made {n q : Addr} : putF "_table" (.ref q) (putF "_names" (.ref n) []) = [(("_names" : Str), V.ref n), (("_table" : Str), V.ref q)] := rfl
def SrcIn (zs : List Str) (u : Str) : Prop := u = "" ∨ u ∈ zs
def spCheckM (C : Addr) : Sp := fun vs H Q _ => ∃ (x : Addr) (zs : List Str) (T : M.Tb Str) (u v : Str), vs = [.ref x, .str u, .str v] ∧ FacAt C H x zs T ∧ SrcIn zs u ∧ SrcIn zs v ∧ ∀ H', Same H H' → Q .non H'
def optV : Option Int → V
  | none => .str "endless"
  | some g => .int g
def grV (T : M.Tb Str) (u v : Str) : V := if u = v then .int 0 else optV (T u v)
def spGr (C : Addr) : Sp := fun vs H Q _ => ∃ (x : Addr) (zs : List Str) (T : M.Tb Str) (u v : Str), vs = [.ref x, .str u, .str v] ∧ FacAt C H x zs T ∧ SrcIn zs u ∧ SrcIn zs v ∧ ∀ H', Same H H' → Q (grV T u v) H'
section
variable {P : Program} {w : World} {K : PySem.W.Frag} {mg : Str → Option Value} {base : Heap} {C : Addr}
theorem scCm : FnScope ["self", "x", "y"] ["self", "x", "y"] (defScope sCheckM) := ⟨rfl, rfl, rfl, by decide +kernel, rfl, by decide +kernel, by decide +kernel⟩
theorem ok_checkm {f fS : Addr} {fd fdS : FuncData} (T : FacC K C) (F : Fun K "_check" "Facts._check" sCheckM f fd)
    (GS : FnOk P w K mg base CX0 1 fS fdS ["names", "facts"] spChkS) (bS : Binds K fdS ["names", "facts"] []) (mS : mg "_check_sources" = some (.ref fS)) (kS : PySem.W.keepIn K (.ref fS) = true) :
    FnOk P w K mg base CX0 2 f fd ["self", "x", "y"] (spCheckM C) := by
  refine F.ok scCm (fun vs H Q E h => ?_) (fun cdv A outer s H vs Q E hr h => ?_)
  · obtain ⟨x, zs, T0, u, v, rfl, _⟩ := h
    rfl
  · obtain ⟨x, zs, T0, u, v, rfl, ⟨n, dx, q0, kvs, h1, h4, h5, h6, h7⟩, su, sv, q⟩ := h
    refine ⟨_, pss_one (ps_expr (pe_call GS hr (by rfl) mS kS bS .nil pass0 (pa_cons (pe_fld (pv 0) rfl) (pa_cons (pe_lst (pa_cons (pe_tup (pa_cons (pv 1) (pa_cons (pv 2) (pa_cons pe_int pa_nil)))) pa_nil)) pa_nil)))), ?_⟩
    refine ⟨_, rfl, x, C, dx, _, _, rfl, h1, T.cl, T.n1, rfl, _, rfl, _, rfl, by show 3 ≤ sizeLine; decide, fun t nt => ?_⟩
    have s1 := same_upd (o := .tup [.str u, .str v, .int 0]) nt
    refine ⟨by show 1 ≤ sizeLine; decide, fun l nl => ?_⟩
    have s2 := s1.trans (same_upd (o := .lst [.ref t]) nl)
    refine ⟨n, l, zs, [.ref t], [(u, v, 0)], rfl, s2 _ _ h4, h5, upd_same, ⟨rfl, fun i x e => ?_⟩, fun f hf => ?_, fun H' s' => q H' (s2.trans s')⟩
    · match i, e with
      | 0, e =>
        cases e
        exact ⟨_, rfl, t, rfl, by rw [upd_ne (ne_of_none upd_same nl)]; exact upd_same⟩
    · rw [List.mem_singleton.mp hf]
      exact ⟨su, sv⟩
theorem scGr : FnScope ["self", "x", "y"] ["self", "x", "y"] (defScope sGreatest) := ⟨rfl, rfl, rfl, by decide +kernel, rfl, by decide +kernel, by decide +kernel⟩
theorem ok_greatest {f fc : Addr} {fd fdc : FuncData} (T : FacC K C) (F : Fun K "greatest" "Facts.greatest" sGreatest f fd)
    (Mc : Meth K C "_check" fc) (Gc : FnOk P w K mg base CX0 2 fc fdc ["self", "x", "y"] (spCheckM C)) (bc : Binds K fdc ["self", "x", "y"] []) :
    FnOk P w K mg base CX0 3 f fd ["self", "x", "y"] (spGr C) := by
  refine F.ok scGr (fun vs H Q E h => ?_) (fun cdv A outer s H vs Q E hr h => ?_)
  · obtain ⟨x, zs, T0, u, v, rfl, _⟩ := h
    rfl
  · obtain ⟨x, zs, T0, u, v, rfl, FA, su, sv, q⟩ := h
    have hu := hu_of hr
    refine ⟨_, pss_cons (ps_expr (pe_meth (pv 0) T.cl Mc Gc hr bc .nil pass0 (pa_cons (pv 1) (pa_cons (pv 2) pa_nil))))
      (pss_cons (ps_if (pt_cmpR op_eq (pv 1) (pv 2) (nomark _)) (pss_one (ps_ret pe_int)) pss_nil)
      (pss_one (ps_ret (pe_dget2 hu (pe_fld (pv 0) rfl) (pe_tup (pa_cons (pv 1) (pa_cons (pv 2) pa_nil))) pe_str ⟨rfl, rfl, rfl, rfl⟩)))), ?_⟩
    obtain ⟨n, dx, q0, kvs, h1, h4, h5, h6, h7⟩ := id FA
    refine ⟨_, rfl, x, dx, _, rfl, h1, rfl, _, rfl, _, rfl, x, zs, T0, u, v, rfl, FA, su, sv, fun H1 s1 => ?_⟩
    refine ⟨_, rfl, _, rfl, rfl, _, rfl, ite2 (fun e => ?_) (fun e => ?_)⟩
    · have euv : u = v := V.str.inj (of_decide_eq_true e)
      have q1 := q H1 s1
      unfold grV at q1
      rw [if_pos euv] at q1
      exact q1
    · have nuv : u ≠ v := fun z => e (decide_eq_true (by rw [z]))
      refine ⟨_, rfl, x, C, dx, _, _, rfl, s1 _ _ h1, T.cl, T.n2, rfl, q0, rfl, .inr ⟨kvs, .inl (s1 _ _ h6)⟩, _, rfl, _, rfl, by show 2 ≤ sizeLine; decide, fun t nt => ?_⟩
      have s2 := s1.trans (same_upd (o := .tup [.str u, .str v]) nt)
      refine ⟨_, DGet.t (k := kP u v) (s2 _ _ h6) upd_same, ?_⟩
      rw [h7.val]
      have q1 := q _ s2
      unfold grV at q1
      rw [if_neg nuv] at q1
      cases eT : T0 u v with
      | none => rw [eT] at q1; exact q1
      | some g => rw [eT] at q1; exact q1
end
end Fv


set_option Elab.async false
set_option linter.all false
set_option maxRecDepth 100000
set_option maxHeartbeats 2000000
/-! & of two sets of texts -/
namespace Fv
open PySem PySem.Spec PyProof.Rows L2
section
variable {P : Program} {w : World} {A : Around} {E : Value → Shared → Prop} {s : Shared}
theorem quiet_ok {sets : List Addr} {Q : Bool → Shared → Prop} (h : ∀ a ∈ sets, ∃ L, TxtS P w s.heap a L) (q : Q true s) : wpAny (model P w) A (setsQuiet sets) Q E s := by
  unfold setsQuiet
  refine wpAny_bind (wpAny_forIn_list _ (fun rest b s' => b = (none, ()) ∧ s' = s ∧ ∀ a ∈ rest, ∃ L, TxtS P w s.heap a L) _ ?_ ?_ _ _ ⟨rfl, rfl, h⟩)
  · rintro a rest b s' ⟨rfl, rfl, hr⟩
    obtain ⟨L, o, es, ep, t, T⟩ := hr a List.mem_cons_self
    unfold setEntries
    refine wpAny_bind (wpAny_bind (wpAny_setState_of T.get T.data T.fit (wpAny_pure ?_)))
    dsimp only
    refine wpAny_bind (wpAny_forIn_array' _ (fun rest b s2 => b = (none, ()) ∧ s2 = s' ∧ ∀ e ∈ rest, TxE P w e) _ ?_ ?_ _ _ ⟨rfl, rfl, T.good⟩)
    · rintro ⟨n, x⟩ rest2 b s2 ⟨rfl, rfl, he⟩
      obtain ⟨k, tk, hx, _⟩ := he _ List.mem_cons_self
      dsimp only at hx
      subst hx
      exact wpAny_pure ⟨rfl, rfl, fun e m => he e (List.mem_cons_of_mem _ m)⟩
    · rintro b s2 ⟨rfl, rfl, _⟩
      exact wpAny_pure ⟨rfl, rfl, fun c m => hr c (List.mem_cons_of_mem _ m)⟩
  · rintro b s' ⟨rfl, rfl, _⟩
    exact wpAny_pure q
/-- a walk that is not drawn -/
theorem tx_walk {a : Addr} {L : List Str} {o : Obj} {es : Array (Int × Value)} {ep : Nat} {t : SetTable} {Q : Array (Int × Value) → Shared → Prop} (T : TxS P w s.heap a L o es ep t)
    (hd : w.params.followText "set-order" = true ∨ t.plain = true ∨ es.size ≤ 1) (q : ∀ fs, fs.toList.Perm es.toList → Q fs s) : wpAny (model P w) A (setWalk a) Q E s := by
  unfold setWalk
  refine wpAny_bind (wpAny_setState_of T.get T.data T.fit ?_)
  dsimp only
  refine wpAny_bind (wpAny_byText ?_)
  cases hb : w.params.followText "set-order" with
  | true =>
    refine wp_if_pos rfl (wpAny_bind (wpAny_askSetting (wpAny_pure ?_)))
    exact q _ (pick_perm (w.params.setOrder a ep) es)
  | false =>
    rw [hb] at hd
    have hd2 := hd.resolve_left (by simp)
    have led := T.led.resolve_left (by rw [hb]; simp)
    refine wp_if_neg Bool.false_ne_true ?_
    try refine wpAny_bind (wpAny_pure ?_)
    refine wp_if_neg (by
      show ¬ ((!t.plain && decide (es.size > 1)) = true)
      rcases hd2 with h | h
      · simp [h]
      · simp; intro _; omega) ?_
    try refine wpAny_bind (wpAny_pure ?_)
    refine wpAny_bind (wpAny_of_eq (a := ()) (by show (if (!t.led && decide (es.size > 1)) = true then unsupported _ else pure ()) = pure (); simp [led]) ?_)
    exact wpAny_pure (q es (List.Perm.refl _))
theorem tx_unseen {a b r : Addr} {L M : List Str} {N : List Str} {o : Obj} {es : Array (Int × Value)} {ep : Nat} {t : SetTable} {Q : Array (Int × Value) → Shared → Prop} (T : TxS P w s.heap a L o es ep t) (Rb : TxtS P w s.heap b M) (Rr : TxtS P w s.heap r N)
    (q : ∀ fs h', fs.toList.Perm es.toList → Heap.SameBut r s.heap h' → TxtS P w h' r N → Q fs { s with heap := h' }) : wpAny (model P w) A (setWalkUnseen a [b, r] (some r)) Q E s := by
  have q0 : ∀ fs, fs.toList.Perm es.toList → Q fs s := fun fs hp => q fs s.heap hp (Heap.SameBut.refl _ _) Rr
  unfold setWalkUnseen
  refine wpAny_bind (wpAny_setState_of T.get T.data T.fit ?_)
  dsimp only
  refine wpAny_bind (wpAny_byText ?_)
  by_cases hc : (w.params.followText "set-order" || t.led && t.plain || decide (es.size ≤ 1)) = true
  · rw [if_pos hc]
    refine tx_walk T ?_ q0
    simp only [Bool.or_eq_true, Bool.and_eq_true, decide_eq_true_eq] at hc
    rcases hc with (h | h) | h
    · exact .inl h
    · exact .inr (.inl h.2)
    · exact .inr (.inr h)
  · rw [if_neg hc]
    refine wpAny_bind (quiet_ok (fun c m => ?_) ?_)
    · simp only [List.mem_cons, List.not_mem_nil, or_false] at m
      rcases m with rfl | rfl | rfl
      · exact ⟨L, o, es, ep, t, T⟩
      · exact ⟨M, Rb⟩
      · exact ⟨N, Rr⟩
    have nb : w.params.followText "set-order" = false := by
      cases h : w.params.followText "set-order"
      · rfl
      · simp [h] at hc
    have led : t.led = true := T.led.resolve_left (by rw [nb]; simp)
    refine wp_if_neg (by simp) ?_
    refine wpAny_bind (wpAny_rule ?_)
    obtain ⟨o2, es2, ep2, t2, T2⟩ := id Rr
    refine wpAny_bind (wpAny_setState_of T2.get T2.data T2.fit ?_)
    dsimp only
    by_cases hd : (t2.led && !t.led || t2.plain && !t.plain) = true
    · rw [if_pos hd]
      have T3 := TxS.stored (P := P) (t' := { t2 with led := t2.led && t.led, plain := t2.plain && t.plain }) T2.get T2.ex T2.data T2.good T2.perm T2.nodup T2.few (by have := T2.fit; exact this) (by have := T2.ris; exact this) (.inr (by
        show (t2.led && t.led) = true
        rw [led, T2.led.resolve_left (by rw [nb]; simp)]
        rfl))
      exact wpAny_bind (wpAny_storeSet_of T2.get T2.data (wpAny_pure (q es _ (List.Perm.refl _) (Heap.SameBut.update _ _ _) ⟨_, _, _, _, T3⟩)) (fits_of_scanBound T2.few))
    · rw [if_neg hd]
      exact wpAny_pure (q0 es (List.Perm.refl _))
theorem TxtS.nodup {h : Heap} {a : Addr} {L : List Str} (R : TxtS P w h a L) : L.Nodup := by
  obtain ⟨o, es, ep, t, T⟩ := R
  exact T.nodup
theorem mem_insL {L : List Str} {k x : Str} : x ∈ insL L k ↔ x ∈ L ∨ x = k := by
  unfold insL
  split
  · rename_i h
    exact ⟨.inl, fun z => z.elim id fun e => e ▸ h⟩
  · rw [List.mem_append, List.mem_singleton]
theorem insL_le (L : List Str) (k : Str) : (insL L k).length ≤ L.length + 1 := by
  unfold insL
  split
  · omega
  · rw [List.length_append]
    exact Nat.le_refl _
/-- the turns -/
theorem meet_loop {id : String} {x y r : Addr} {W V : List Str} {o : Obj} {es fs : Array (Int × Value)} {ep : Nat} {t : SetTable} {Q : PUnit → Shared → Prop} (hx : x ≠ r) (hy : y ≠ r) (T : TxS P w s.heap x W o es ep t) (Ry : TxtS P w s.heap y V) (Rr : TxtS P w s.heap r [])
    (hp : fs.toList.Perm es.toList) (q : ∀ h' N, Heap.SameBut r s.heap h' → (∀ k, k ∈ N ↔ k ∈ V ∧ k ∈ W) → TxtS P w h' r N → Q ⟨⟩ { s with heap := h' }) :
    wpAny (model P w) A (forIn fs PUnit.unit fun z (_ : PUnit) =>
      match z with
      | (h, v) => do
        holding [v] do
            let f ← setFind y v h
            if f.isSome = true then do
                let _ ← setAddHashed r v h
                pure ()
              else pure ()
        Builtin.Frozenset.unchanged id x ep
        pure (ForInStep.yield PUnit.unit)) Q E s := by
  have good : ∀ e ∈ fs.toList, TxE P w e := fun e he => T.good e (hp.mem_iff.mp he)
  have pW : (fs.toList.map txtOf).Perm W := (hp.map txtOf).trans T.perm
  have few : fs.toList.length < scanBound := by rw [hp.length_eq, Array.length_toList]; exact T.few
  refine wpAny_forIn_array' _ (fun rest _ s' => ∃ (dn : List (Int × Value)) (N : List Str) (h' : Heap), dn ++ rest = fs.toList ∧ s' = { s with heap := h' } ∧ Heap.SameBut r s.heap h' ∧ TxtS P w h' r N ∧ N.length ≤ dn.length ∧ ∀ k, k ∈ N ↔ k ∈ V ∧ k ∈ dn.map txtOf) _ ?_ ?_ _ _
    ⟨[], [], s.heap, rfl, rfl, Heap.SameBut.refl _ _, Rr, Nat.le_refl _, fun k => by simp⟩
  · rintro ⟨h, v⟩ rest _ s' ⟨dn, N, h', e, rfl, sb, R, hl, hm⟩
    have hmem : (h, v) ∈ fs.toList := by rw [← e]; simp
    obtain ⟨k, tk, hv, hh⟩ := good _ hmem
    dsimp only at hv hh
    subst hv
    subst hh
    have Ry' : TxtS P w h' y V := Ry.at fun o e => (sb.2 y hy).trans e
    have Tx' : h'.get? x = some o := (sb.2 x hx).trans T.get
    have et : txtOf ((strKind P w).hash k, Value.str k tk) = k := rfl
    have hlen : dn.length + (rest.length + 1) = fs.toList.length := by rw [← e, List.length_append, List.length_cons]
    dsimp only
    have fin : ∀ {s2 : Shared} {N' : List Str} {h2 : Heap} {Post : ForInStep PUnit → Shared → Prop}, s2 = { s with heap := h2 } → Heap.SameBut r s.heap h2 → TxtS P w h2 r N' → N'.length ≤ dn.length + 1 → (∀ z, z ∈ N' ↔ z ∈ V ∧ (z ∈ dn.map txtOf ∨ z = k)) →
        ((∃ (dn : List (Int × Value)) (N : List Str) (h' : Heap), dn ++ rest = fs.toList ∧ s2 = { s with heap := h' } ∧ Heap.SameBut r s.heap h' ∧ TxtS P w h' r N ∧ N.length ≤ dn.length ∧ ∀ k, k ∈ N ↔ k ∈ V ∧ k ∈ dn.map txtOf) → Post (.yield PUnit.unit) s2) →
        wpAny (model P w) A (do
          Builtin.Frozenset.unchanged id x ep
          pure (ForInStep.yield PUnit.unit)) Post E s2 := fun {s2 N' h2 Post} e2 sb2 R2 l2 m2 post => by
      subst e2
      unfold Builtin.Frozenset.unchanged
      refine wpAny_bind (wpAny_bind (wpAny_setEpoch_of ((sb2.2 x hx).trans T.get) T.data T.fit ?_))
      refine wp_if_neg (by simp) (wpAny_pure (wpAny_pure (post ?_)))
      refine ⟨dn ++ [((strKind P w).hash k, Value.str k tk)], N', h2, by rw [← e, List.append_assoc]; rfl, rfl, sb2, R2, by rw [List.length_append]; exact l2, fun z => ?_⟩
      rw [m2, List.map_append, List.mem_append, List.map_cons, List.map_nil, List.mem_singleton, et]
    refine wpAny_bind (wpAny_holding (wpAny_bind (wpAny_setFind_of (knd := strKind P w) (k := k) (strKind_is _ _ _ _) rfl Ry'.setOf fun f hf => ?_)))
    by_cases hk : k ∈ V
    · have f1 : f.isSome = true := by rw [hf, decide_eq_true hk]
      rw [if_pos f1]
      refine wpAny_bind (tx_hashed (s := { s with heap := h' }) R (by omega) fun h2 sb2 R2 => wpAny_pure ?_)
      refine fin rfl (sb.trans sb2) R2 (Nat.le_trans (insL_le _ _) (by omega)) (fun z => ?_) fun q => q
      rw [mem_insL, hm]
      constructor
      · rintro (⟨a1, a2⟩ | rfl)
        · exact ⟨a1, .inl a2⟩
        · exact ⟨hk, .inr rfl⟩
      · rintro ⟨a1, a2 | rfl⟩
        · exact .inl ⟨a1, a2⟩
        · exact .inr rfl
    · have f1 : ¬ f.isSome = true := by rw [hf, decide_eq_false hk]; simp
      rw [if_neg f1]
      refine wpAny_pure (fin rfl sb R (by omega) (fun z => ?_) fun q => q)
      rw [hm]
      constructor
      · rintro ⟨a1, a2⟩
        exact ⟨a1, .inl a2⟩
      · rintro ⟨a1, a2 | rfl⟩
        · exact ⟨a1, a2⟩
        · exact absurd a1 hk
  · rintro _ s' ⟨dn, N, h', e, rfl, sb, R, hl, hm⟩
    rw [List.append_nil] at e
    subst e
    exact q h' N sb (fun k => by rw [hm, pW.mem_iff]) R
/-- what is in both -/
theorem tx_meetL {a b : Addr} {L M : List Str} {Q : Value → Shared → Prop} (hne : a ≠ b) (Ra : TxtS P w s.heap a L) (Rb : TxtS P w s.heap b M)
    (hQ : ∀ h' N, N.Nodup → (∀ k, k ∈ N ↔ k ∈ L ∧ k ∈ M) → TxtS P w h' s.heap.objs.size N → (∀ c u, s.heap.get? c = some u → h'.get? c = some u) → Q (.ref s.heap.objs.size) { s with heap := h' }) :
    wpAny (model P w) A (binaryOp .BitAnd (.ref a) (.ref b)) Q E s := by
  obtain ⟨oa, ea, pa, ta, Ta⟩ := Ra
  obtain ⟨ob, eb, pb, tb, Tb⟩ := Rb
  have ya : s.TypeIs (.ref a) "set" := ⟨oa, Ta.get, Ta.ex.1⟩
  have yb : s.TypeIs (.ref b) "set" := ⟨ob, Tb.get, Tb.ex.1⟩
  refine wpAny_binaryOp_same ya yb F.fills_set_and F.slot_set_and (wpAny_call_entry F.slot_set_and ya entry_set_meet ?_ (F.args_set_and_2 _ _))
  show wpAny (model P w) A.in1 (do
    let (self, other) ← Builtin.Frozenset.slot1 "__and__" _
    let (l, r) := if false then (other, self) else (self, other)
    if !(← (Builtin.Frozenset.isAnySet l <&&> Builtin.Frozenset.isAnySet r)) then rule _; return ← ret .notImplemented
    ret (← Builtin.Frozenset.intersection _ (← Builtin.Frozenset.addrOf l) r)) _ _ s
  refine wpAny_bind (m := Builtin.Frozenset.slot1 _ _) (wpAny_of_eq (a := (Value.ref a, Value.ref b)) (by rfl) ?_)
  dsimp only
  refine wpAny_bind (wpAny_bind (any_set ya (any_set yb ?_)))
  refine wp_if_neg (by simp) ?_
  try refine wpAny_bind (wpAny_pure ?_)
  show wpAny (model P w) A.in1 (Builtin.Frozenset.intersection _ a (.ref b) >>= fun v => ret v) _ _ s
  refine wpAny_bind ?_
  unfold Builtin.Frozenset.intersection
  refine wp_if_neg (by simp [Ne.symm hne]) ?_
  try refine wpAny_bind (wpAny_pure ?_)
  unfold Builtin.Frozenset.baseOf
  refine wpAny_bind (wpAny_bind (wpAny_isInstance (b := true) ya sub_set_self (wpAny_pure ?_)))
  refine wpAny_bind (PpSet.newSet_ok ?_)
  have nw := tx_fresh (P := P) (w := w) (h := s.heap)
  have kp : ∀ c u, s.heap.get? c = some u → (s.heap.push { cls := .type "set", dict := none, data := .set #[] 0 (.fresh 0 0 (!w.params.followText "set-order")) }).get? c = some u := fun c u e => Heap.get?_push_of_some _ e
  have Ta' := { Ta with get := kp _ _ Ta.get }
  have Tb' := { Tb with get := kp _ _ Tb.get }
  have aN : a ≠ s.heap.objs.size := Nat.ne_of_lt (Heap.lt_size Ta.get)
  have bN : b ≠ s.heap.objs.size := Nat.ne_of_lt (Heap.lt_size Tb.get)
  unfold Builtin.Frozenset.addrOf
  refine wpAny_bind (wpAny_pure (wpAny_bind (wpAny_holding (wpAny_bind (any_set (a := b) ⟨ob, Tb'.get, Tb.ex.1⟩ (wp_if_pos rfl (wpAny_bind (wpAny_pure ?_))))))))
  unfold Builtin.Frozenset.sizeOf
  refine wpAny_bind (wpAny_bind (wpAny_setEntries_of Tb'.get Tb.data Tb.fit (wpAny_pure ?_)))
  refine wpAny_bind (wpAny_bind (wpAny_setEntries_of Ta'.get Ta.data Ta.fit (wpAny_pure ?_)))
  have go : ∀ {x y : Addr} {W V : List Str} {o : Obj} {es : Array (Int × Value)} {ep : Nat} {t : SetTable} {h0 : Heap} {s0 : Shared}, s0 = { s with heap := h0 } → (∀ c u, s.heap.get? c = some u → h0.get? c = some u) → x ≠ s.heap.objs.size → y ≠ s.heap.objs.size → TxS P w h0 x W o es ep t → TxtS P w h0 y V → TxtS P w h0 s.heap.objs.size [] →
      (∀ k, k ∈ W ∧ k ∈ V ↔ k ∈ L ∧ k ∈ M) → wpAny (model P w) A.in1 (do
      let was ← setEpoch x
      let fs ← setWalkUnseen x [y, s.heap.objs.size] (some s.heap.objs.size)
      forIn fs PUnit.unit fun z (_ : PUnit) =>
        match z with
        | (h, v) => do
          holding [v] do
              let f ← setFind y v h
              if f.isSome = true then do
                  let _ ← setAddHashed s.heap.objs.size v h
                  pure ()
                else pure ()
          Builtin.Frozenset.unchanged (toString "frozenset." ++ toString "__and__") x was
          pure (ForInStep.yield PUnit.unit)
      pure ()) (fun a s' =>
      wpAny (model P w) A.in1 (pure (Value.ref s.heap.objs.size))
        (fun a s' =>
          wpAny (model P w) A.in1 (ret a)
            (fun fin s' => ∃ v, fin = Fin.done (Flow.ret v) ∧ v ≠ Value.notImplemented ∧ Q v s') E s')
        E s')
    E s0 := fun {x y W V o es ep t h0 s0} es0 kp hx hy T Ry Rr hWV => by
    subst es0
    refine wpAny_bind (wpAny_setEpoch_of T.get T.data T.fit (wpAny_bind (tx_unseen T Ry Rr fun fs h1 hp sb R1 => ?_)))
    refine wpAny_bind (meet_loop (s := { s with heap := h1 }) hx hy { T with get := (sb.2 x hx).trans T.get } (Ry.at fun o e => (sb.2 y hy).trans e) R1 hp fun h2 N sb2 hN R2 => ?_)
    refine wpAny_pure (wpAny_pure (wpAny_pure ⟨_, rfl, by simp, hQ h2 N R2.nodup (fun k => by rw [hN, and_comm, hWV]) R2 fun c u e => ?_⟩))
    have cn : c ≠ s.heap.objs.size := Nat.ne_of_lt (Heap.lt_size e)
    exact (sb2.2 c cn).trans ((sb.2 c cn).trans (kp c u e))
  by_cases hz : eb.size > ea.size
  · rw [if_pos hz]
    exact go rfl kp aN bN Ta' ⟨_, _, _, _, Tb'⟩ nw fun k => Iff.rfl
  · rw [if_neg hz]
    exact go rfl kp bN aN Tb' ⟨_, _, _, _, Ta'⟩ nw fun k => and_comm
end
/-- & of two sets of texts: a new one, of what is in both -/
def rMeet (P : Program) (w : World) : R2 := fun x y H Q => ∃ a b L M, x = .ref a ∧ y = .ref b ∧ a ≠ b ∧ H a = some (TxtO P w a L) ∧ H b = some (TxtO P w b M) ∧ ∀ p N, N.Nodup → (∀ k, k ∈ N ↔ k ∈ L ∧ k ∈ M) → H p = none → Q (.ref p) (upd H p (TxtO P w p N))
theorem op_meet {X : Cx} : OpR X (binaryOp .BitAnd) (rMeet X.prog X.w) := by
  intro pins s σ H x y v u Q I rx ry h
  obtain ⟨a, b, L, M, rfl, rfl, ne, ha, hb, q⟩ := h
  cases rx
  cases ry
  refine tx_meetL ne (txtO_get I ha) (txtO_get I hb) fun h' N nd hN R k => ?_
  exact ⟨.ref _, _, I.laid (t' := s.toks) k (Nat.le_refl _) (txtO_new R), rfl, q _ N nd hN (I.hok.fresh (Nat.le_refl _))⟩
end Fv


set_option Elab.async false
set_option linter.all false
set_option maxRecDepth 100000
set_option maxHeartbeats 1000000
/-! walks of comprehensions of any body; things locked and unlocked -/
namespace Fv
open PySem PySem.Spec PyProof.Rows L2
theorem loop_it {J : It} {n : Nat} {G : Hp → Prop} {Y : Nat → Hp → V → Hp → Prop} (wk : Walk J n G Y) {B : (Hp → Prop) → V → Hp → Prop} {H0 : Hp} {Qd : Hp → Prop} (Pv : Nat → Hp → Prop) (h0 : Pv 0 H0) (hG : ∀ i H, i ≤ n → Pv i H → G H)
    (hs : ∀ i x H H', i < n → Pv i H → Y i H x H' → B (Pv (i + 1)) x H') (hd : ∀ H, Pv n H → Qd H) :
    ∃ W : Nat → Nat → Hp → Prop, (∃ m, W 0 m H0) ∧ ∀ i m H, W i m H →
      (J.stop i H ∧ Qd H) ∨ (J.go i H ∧ ∃ Nx : Hp → Prop, (∀ H', Nx H' → ∃ m', m' < m ∧ W (i + 1) m' H') ∧ ∀ x H', J.yld i H x H' → B Nx x H') := by
  refine ⟨fun i m H => m + i = n ∧ Pv i H, ⟨n, rfl, h0⟩, fun i m H ⟨hm, p⟩ => ?_⟩
  rcases Nat.lt_or_ge i n with hlt | hge
  · exact .inr ⟨wk.goes i H hlt (hG i H (Nat.le_of_lt hlt) p), Pv (i + 1), fun H' p' => ⟨n - (i + 1), by omega, by omega, p'⟩, fun x H' y => hs i x H H' hlt p (wk.yields i H x H' hlt (hG i H (Nat.le_of_lt hlt) p) y)⟩
  · obtain rfl : i = n := by omega
    exact .inl ⟨wk.stops H (hG i H hge p), hd H p⟩
theorem unlock {H H' : Hp} {q : Addr} {u : HO} {od : Obj} (e : H q = some u) (s : Same (upd H q (.frz od u)) H') : Same H (upd H' q u) := fun c o ec => by
  by_cases z : c = q
  · subst z
    rw [upd_same, ← ec, e]
  · rw [upd_ne z]
    exact s c o (by rw [upd_ne z]; exact ec)
theorem locked_new {H : Hp} {q D : Addr} {u : HO} (n : (upd H q u) D = none) : D ≠ q ∧ H D = none := by
  have h : D ≠ q := fun z => by
    rw [z, upd_same] at n
    cases n
  exact ⟨h, by rwa [upd_ne h] at n⟩
theorem set_wipe {σ : L2.St} {i : Nat} {x : Option V} : ∀ {vs : List Nat}, i ∈ vs → wipe (σ.set i x) vs = wipe σ vs
  | v :: vs, h => by
    show (wipe (σ.set i x) vs).set v none = (wipe σ vs).set v none
    by_cases hv : i ∈ vs
    · rw [set_wipe hv]
    · have e : i = v := by
        rcases List.mem_cons.mp h with e | e
        · exact e
        · exact absurd e hv
      subst e
      have key : ∀ (us : List Nat), i ∉ us → wipe (σ.set i x) us = (wipe σ us).set i x := by
        intro us
        induction us with
        | nil => intro _; rfl
        | cons u us ih =>
          intro n
          have n1 : i ≠ u := fun z => n (by rw [z]; exact List.mem_cons_self)
          show (wipe (σ.set i x) us).set u none = ((wipe σ us).set u none).set i x
          rw [ih fun z => n (List.mem_cons_of_mem _ z), List.set_comm _ _ n1]
      rw [key vs hv, List.set_set]
theorem wipe_twice {σ : L2.St} : ∀ {us vs : List Nat}, (∀ u ∈ us, u ∈ vs) → wipe (wipe σ us) vs = wipe σ vs
  | [], _, _ => rfl
  | u :: us, vs, h => by
    show wipe ((wipe σ us).set u none) vs = _
    rw [set_wipe (h u List.mem_cons_self), wipe_twice fun z hz => h z (List.mem_cons_of_mem _ hz)]
/-- the names of the block are as before, step by step -/
theorem wp1 {σ τ : L2.St} {i : Nat} {x : Option V} {vs : List Nat} (e : wipe σ vs = τ) (h : i ∈ vs := by decide) : wipe (σ.set i x) vs = τ := (set_wipe h).trans e
theorem wp0 {σ : L2.St} {vs : List Nat} : wipe (wipe σ vs) vs = wipe σ vs := wipe_twice fun _ h => h
end Fv


set_option Elab.async false
set_option linter.all false
set_option maxRecDepth 100000
set_option maxHeartbeats 4000000
namespace Fv
open PySem PySem.Spec PyProof.Rows L2
/-! ### _closed -/
abbrev sClosed : Stmt := top 23
def entOf : List Key × V → FaT
  | ([Sum.inr x, Sum.inr y], .int c) => (x, y, c)
  | _ => ("", "", 0)
def ents (kvs : List (List Key × V)) : List FaT := kvs.map entOf
theorem TbL.item {kvs : List (List Key × V)} {T : M.Tb Str} (h : TbL kvs T) {i : Nat} {kk : List Key} {v : V} (e : kvs[i]? = some (kk, v)) : ∃ x y c, kk = kP x y ∧ v = .int c ∧ T x y = some c ∧ (ents kvs)[i]? = some (x, y, c) := by
  obtain ⟨x, y, c, h1, h2⟩ := h.form _ (List.mem_of_getElem? e)
  cases h1
  exact ⟨x, y, c, rfl, rfl, h2, by unfold ents; rw [List.getElem?_map, e]; rfl⟩
theorem ents_len {kvs : List (List Key × V)} : (ents kvs).length = kvs.length := List.length_map _
theorem valV_mem {kvs : List (List Key × V)} {k : List Key} {v : V} (h : valV kvs k = some v) : (k, v) ∈ kvs := by
  unfold valV at h
  obtain ⟨kv, h1, h2⟩ := Option.map_eq_some_iff.mp h
  have := List.find?_some h1
  have hm := List.mem_of_find?_eq_some h1
  have ek : kv.1 = k := by simpa using this
  rw [← ek, ← h2]
  exact hm
theorem TbL.mem {kvs : List (List Key × V)} {T : M.Tb Str} (h : TbL kvs T) {x y : Str} {c : Int} : (x, y, c) ∈ ents kvs ↔ T x y = some c := by
  constructor
  · intro hm
    obtain ⟨⟨kk, v⟩, h1, h2⟩ := List.mem_map.mp hm
    obtain ⟨u, w, d, e, hT⟩ := h.form _ h1
    cases e
    cases h2
    exact hT
  · intro e
    have := h.val x y
    rw [e] at this
    exact List.mem_map.mpr ⟨_, valV_mem this, rfl⟩
/-- pairs of a text and a number -/
structure Prs (H : Hp) (xs : List V) (A : List (Str × Int)) : Prop where
  len : xs.length = A.length
  at_ : ∀ (i : Nat) (x : V), xs[i]? = some x → ∃ f : Str × Int, A[i]? = some f ∧ ∃ t, x = .ref t ∧ H t = some (.tup [.str f.1, .int f.2])
theorem Prs.nil {H : Hp} : Prs H [] [] := ⟨rfl, fun _ _ e => by cases e⟩
theorem Prs.same {H H' : Hp} {xs : List V} {A : List (Str × Int)} (h : Prs H xs A) (s : ∀ t ys, H t = some (.tup ys) → H' t = some (.tup ys)) : Prs H' xs A :=
  ⟨h.len, fun i x e => by obtain ⟨f, hf, t, ht, hh⟩ := h.at_ i x e; exact ⟨f, hf, t, ht, s _ _ hh⟩⟩
theorem Prs.snoc {H : Hp} {xs : List V} {A : List (Str × Int)} (h : Prs H xs A) {t : Addr} {z : Str} {c : Int} (e : H t = some (.tup [.str z, .int c])) : Prs H (xs ++ [.ref t]) (A ++ [(z, c)]) := by
  refine ⟨by rw [List.length_append, List.length_append, h.len]; rfl, fun i x ex => ?_⟩
  rcases Nat.lt_trichotomy i xs.length with l | l | l
  · rw [List.getElem?_append_left l] at ex
    obtain ⟨f, hf, r⟩ := h.at_ i x ex
    exact ⟨f, by rw [List.getElem?_append_left (by rw [← h.len]; exact l)]; exact hf, r⟩
  · subst l
    rw [List.getElem?_append_right (Nat.le_refl _), Nat.sub_self] at ex
    cases ex
    exact ⟨(z, c), by rw [List.getElem?_append_right (by rw [h.len]; exact Nat.le_refl _), h.len, Nat.sub_self]; rfl, t, rfl, e⟩
  · rw [List.getElem?_eq_none (by rw [List.length_append]; exact l)] at ex
    cases ex
theorem Its.nil {H : Hp} : Its H [] [] := ⟨rfl, fun _ _ e => by cases e⟩
theorem Its.samT {H H' : Hp} {xs : List V} {L : List FaT} (h : Its H xs L) (s : ∀ t ys, H t = some (.tup ys) → H' t = some (.tup ys)) : Its H' xs L :=
  ⟨h.len, fun i x e => by obtain ⟨f, hf, t, ht, hh⟩ := h.at_ i x e; exact ⟨f, hf, t, ht, s _ _ hh⟩⟩
theorem Its.snoc {H : Hp} {xs : List V} {L : List FaT} (h : Its H xs L) {t : Addr} {x y : Str} {c : Int} (e : H t = some (.tup [.str x, .str y, .int c])) : Its H (xs ++ [.ref t]) (L ++ [(x, y, c)]) := by
  refine ⟨by rw [List.length_append, List.length_append, h.len]; rfl, fun i v ex => ?_⟩
  rcases Nat.lt_trichotomy i xs.length with l | l | l
  · rw [List.getElem?_append_left l] at ex
    obtain ⟨f, hf, r⟩ := h.at_ i v ex
    exact ⟨f, by rw [List.getElem?_append_left (by rw [← h.len]; exact l)]; exact hf, r⟩
  · subst l
    rw [List.getElem?_append_right (Nat.le_refl _), Nat.sub_self] at ex
    cases ex
    exact ⟨(x, y, c), by rw [List.getElem?_append_right (by rw [h.len]; exact Nat.le_refl _), h.len, Nat.sub_self]; rfl, t, rfl, e⟩
  · rw [List.getElem?_eq_none (by rw [List.length_append]; exact l)] at ex
    cases ex
theorem Its.app {H : Hp} {xs ys : List V} {L M : List FaT} (h : Its H xs L) (k : Its H ys M) : Its H (xs ++ ys) (L ++ M) := by
  refine ⟨by rw [List.length_append, List.length_append, h.len, k.len], fun i v ex => ?_⟩
  rcases Nat.lt_or_ge i xs.length with l | l
  · rw [List.getElem?_append_left l] at ex
    obtain ⟨f, hf, r⟩ := h.at_ i v ex
    exact ⟨f, by rw [List.getElem?_append_left (by rw [← h.len]; exact l)]; exact hf, r⟩
  · rw [List.getElem?_append_right l] at ex
    obtain ⟨f, hf, r⟩ := k.at_ _ v ex
    exact ⟨f, by rw [List.getElem?_append_right (by rw [← h.len]; exact l), ← h.len]; exact hf, r⟩
/-- what the table says of points ahead of m, behind it -/
def aheadOf (E : List FaT) (m : Str) : List (Str × Int) := (E.filter fun f => decide (f.2.1 = m)).map fun f => (f.1, f.2.2)
def behindOf (E : List FaT) (m : Str) : List (Str × Int) := (E.filter fun f => decide (f.1 = m)).map fun f => (f.2.1, f.2.2)
def waysOf (A B : List (Str × Int)) : List FaT := A.flatMap fun a => B.map fun b => (a.1, b.1, a.2 + b.2)
theorem ahead_mem {E : List FaT} {m x : Str} {c : Int} : (x, c) ∈ aheadOf E m ↔ (x, m, c) ∈ E := by
  unfold aheadOf
  rw [List.mem_map]
  constructor
  · rintro ⟨⟨u, v, d⟩, h, e⟩
    rw [List.mem_filter] at h
    cases e
    have := of_decide_eq_true h.2
    dsimp only at this
    rw [← this]
    exact h.1
  · intro h
    exact ⟨(x, m, c), List.mem_filter.mpr ⟨h, by simp⟩, rfl⟩
theorem behind_mem {E : List FaT} {m y : Str} {c : Int} : (y, c) ∈ behindOf E m ↔ (m, y, c) ∈ E := by
  unfold behindOf
  rw [List.mem_map]
  constructor
  · rintro ⟨⟨u, v, d⟩, h, e⟩
    rw [List.mem_filter] at h
    cases e
    have := of_decide_eq_true h.2
    dsimp only at this
    rw [← this]
    exact h.1
  · intro h
    exact ⟨(m, y, c), List.mem_filter.mpr ⟨h, by simp⟩, rfl⟩
theorem ways_mem {A B : List (Str × Int)} {x y : Str} {c : Int} : (x, y, c) ∈ waysOf A B ↔ ∃ a b, (x, a) ∈ A ∧ (y, b) ∈ B ∧ c = a + b := by
  unfold waysOf
  rw [List.mem_flatMap]
  constructor
  · rintro ⟨⟨u, a⟩, h1, h2⟩
    obtain ⟨⟨v, b⟩, h3, h4⟩ := List.mem_map.mp h2
    cases h4
    exact ⟨a, b, h1, h3, rfl⟩
  · rintro ⟨a, b, h1, h2, rfl⟩
    exact ⟨(x, a), h1, List.mem_map.mpr ⟨(y, b), h2, rfl⟩⟩
theorem over_of {kvs : List (List Key × V)} {T : M.Tb Str} (h : TbL kvs T) (m : Str) : M.Over T m (ents kvs ++ waysOf (aheadOf (ents kvs) m) (behindOf (ents kvs) m)) := by
  refine ⟨fun x y c hm => ?_, fun x y c e => List.mem_append_left _ (h.mem.mpr e), fun x y a b ha hb => List.mem_append_right _ (ways_mem.mpr ⟨a, b, ahead_mem.mpr (h.mem.mpr ha), behind_mem.mpr (h.mem.mpr hb), rfl⟩)⟩
  rcases List.mem_append.mp hm with hm | hm
  · exact .inl (h.mem.mp hm)
  · obtain ⟨a, b, h1, h2, rfl⟩ := ways_mem.mp hm
    exact .inr ⟨a, b, h.mem.mp (ahead_mem.mp h1), h.mem.mp (behind_mem.mp h2), rfl⟩
theorem ahead_len {E : List FaT} {m : Str} : (aheadOf E m).length ≤ E.length := by
  unfold aheadOf
  rw [List.length_map]
  exact List.length_filter_le _ _
theorem behind_len {E : List FaT} {m : Str} : (behindOf E m).length ≤ E.length := by
  unfold behindOf
  rw [List.length_map]
  exact List.length_filter_le _ _
theorem ways_len {A B : List (Str × Int)} : (waysOf A B).length = A.length * B.length := by
  unfold waysOf
  induction A with
  | nil => simp
  | cons a A ih => rw [List.flatMap_cons, List.length_append, ih, List.length_map, List.length_cons, Nat.succ_mul, Nat.add_comm]
theorem ahead_snoc {E : List FaT} {m : Str} {i : Nat} {x y : Str} {c : Int} (e : E[i]? = some (x, y, c)) : aheadOf (E.take (i + 1)) m = aheadOf (E.take i) m ++ (if y = m then [(x, c)] else []) := by
  unfold aheadOf
  rw [List.take_succ, e]
  rw [List.filter_append, List.map_append]
  congr 1
  by_cases h : y = m
  · simp [h]
  · simp [h]
theorem behind_snoc {E : List FaT} {m : Str} {i : Nat} {x y : Str} {c : Int} (e : E[i]? = some (x, y, c)) : behindOf (E.take (i + 1)) m = behindOf (E.take i) m ++ (if x = m then [(y, c)] else []) := by
  unfold behindOf
  rw [List.take_succ, e]
  rw [List.filter_append, List.map_append]
  congr 1
  by_cases h : x = m
  · simp [h]
  · simp [h]
end Fv


set_option Elab.async false
set_option linter.all false
set_option maxRecDepth 100000
set_option maxHeartbeats 4000000
namespace Fv
open PySem PySem.Spec PyProof.Rows L2
theorem nodup_len {α : Type} [DecidableEq α] : ∀ {A B : List α}, A.Nodup → (∀ e ∈ A, e ∈ B) → A.length ≤ B.length := by
  intro A
  induction A with
  | nil => intro B _ _; exact Nat.zero_le _
  | cons a A ih =>
    intro B nd h
    have ha := h a List.mem_cons_self
    have nd' := List.nodup_cons.mp nd
    have := ih (B := B.erase a) nd'.2 fun e he => (List.mem_erase_of_ne (a := e) (b := a) (fun z => nd'.1 (by rw [← z]; exact he))).mpr (h e (List.mem_cons_of_mem _ he))
    rw [List.length_erase_of_mem ha] at this
    have pos : 0 < B.length := List.length_pos_of_mem ha
    rw [List.length_cons]
    omega
def spClosed : Sp := fun vs H Q _ => ∃ (a : Addr) (xs : List V) (L : List FaT) (p : Str → Int) (W : List Str), vs = [.ref a] ∧ H a = some (.lst xs) ∧ Its H xs L ∧ L.length ≤ 1000 ∧ M.Keeps L p ∧ (∀ f ∈ L, f.1 ∈ W ∧ f.2.1 ∈ W) ∧ W.length ≤ 7 ∧
  ∀ (q : Addr) (kvs : List (List Key × V)) (T : M.Tb Str) (Z : List Str) (H' : Hp), H q = none → Same H H' → H' q = some (.dT kvs) → TbL kvs T → M.Cl L p Z T →
    (∀ m x y c d, (x, m, c) ∈ L → x ≠ m → (m, y, d) ∈ L → m ≠ y → m ∈ Z) → Q (.ref q) H'
section
variable {P : Program} {w : World} {K : PySem.W.Frag} {mg : Str → Option Value} {base : Heap} {C : Addr}
abbrev nCd : List Str := ["facts", "table", "middle", "ahead", "behind", "known", "x", "y", "_", "c", "d"]
theorem scCd : FnScope nCd ["facts"] (defScope sClosed) := ⟨rfl, rfl, rfl, by decide +kernel, rfl, by decide +kernel, by decide +kernel⟩
theorem ok_closed {f fT : Addr} {fd fdT : FuncData} (F : Fun K "_closed" "_closed" sClosed f fd)
    (GT : FnOk P w K mg base CX0 1 fT fdT ["facts"] spTight) (bT : Binds K fdT ["facts"] []) (mT : mg "_tightest" = some (.ref fT)) (kT : PySem.W.keepIn K (.ref fT) = true)
    (mo : mg "sorted" = none) : FnOk P w K mg base CX0 2 f fd ["facts"] spClosed := by
  refine F.ok scCd (fun vs H Q E h => ?_) (fun cdv A outer s H vs Q E hr h => ?_)
  · obtain ⟨a, _, _, _, _, rfl, _⟩ := h
    rfl
  · obtain ⟨a, xs, L, p, W, rfl, ha, hx, hl, K0, hW, hw7, q⟩ := h
    have hu := hu_of hr
    refine ⟨_, pss_cons (ps_set (i := 1) scCd.nd rfl (.inl rfl) (pe_call GT hr (by rfl) mT kT bT .nil pass0 (pa_cons (pv 0) pa_nil)))
      (pss_cons (ps_for PassesOwn.never rfl (pi_list (pe_callB (r := rSortX P w) (call_sortX rfl) (by rfl) mo (by decide +kernel) (pa_cons
        (pe_op (op_meet)
          (pe_lock (pe_scX (own := [("x", 6), ("_", 8)]) (g := gTup K 2 (gCons (gName 6) (gCons (gName 8) gNil))) (tt := tYes) rfl scCd.nd (pi_keys (pv 1)) (blkOk_by (N := nCd) (sc := defScope sClosed) (by decide +kernel))
            (fun _ _ _ _ _ => pg_tup (by rfl) (pgs_cons (pg_name (i := 6) scCd.nd rfl (.inl rfl)) (pgs_cons (pg_name (i := 8) scCd.nd rfl (.inl rfl)) pgs_nil))) (fun _ _ _ _ _ => pts_nil) (fun _ _ _ _ _ => pv 6)))
          (pe_lock (pe_scX (own := [("_", 8), ("y", 7)]) (g := gTup K 2 (gCons (gName 8) (gCons (gName 7) gNil))) (tt := tYes) rfl scCd.nd (pi_keys (pv 1)) (blkOk_by (N := nCd) (sc := defScope sClosed) (by decide +kernel))
            (fun _ _ _ _ _ => pg_tup (by rfl) (pgs_cons (pg_name (i := 8) scCd.nd rfl (.inl rfl)) (pgs_cons (pg_name (i := 7) scCd.nd rfl (.inl rfl)) pgs_nil))) (fun _ _ _ _ _ => pts_nil) (fun _ _ _ _ _ => pv 7)))) pa_nil))) (pg_name (i := 2) scCd.nd rfl (.inr rfl))
        (pss_cons (ps_lock (ps_setLc (i := 3) (own := [("x", 6), ("y", 7), ("c", 9)]) (g := gTup K 2 (gCons (gTup K 2 (gCons (gName 6) (gCons (gName 7) gNil))) (gCons (gName 9) gNil))) rfl scCd.nd rfl rfl (sw_true rfl rfl rfl (by decide +kernel)) (pi_itemsT (pv 1)) (blkOk_by (N := nCd) (sc := defScope sClosed) (by decide +kernel))
            (fun _ _ _ _ _ => pg_tup (by rfl) (pgs_cons (pg_tup (by rfl) (pgs_cons (pg_name (i := 6) scCd.nd rfl (.inl rfl)) (pgs_cons (pg_name (i := 7) scCd.nd rfl (.inl rfl)) pgs_nil))) (pgs_cons (pg_name (i := 9) scCd.nd rfl (.inl rfl)) pgs_nil)))
            (fun _ _ _ _ _ => pts_one (pt_cmpR (r := rEq) op_eq (pv 7) (pv 2) (nomark _))) (fun _ _ _ _ _ => pe_tup (pa_cons (pv 6) (pa_cons (pv 9) pa_nil)))))
        (pss_cons (ps_set (i := 4) scCd.nd rfl (.inr rfl) (pe_lock (pe_lc (own := [("x", 6), ("y", 7), ("c", 9)]) (g := gTup K 2 (gCons (gTup K 2 (gCons (gName 6) (gCons (gName 7) gNil))) (gCons (gName 9) gNil))) rfl scCd.nd (pi_itemsT (pv 1)) (blkOk_by (N := nCd) (sc := defScope sClosed) (by decide +kernel))
            (fun _ _ _ _ _ => pg_tup (by rfl) (pgs_cons (pg_tup (by rfl) (pgs_cons (pg_name (i := 6) scCd.nd rfl (.inl rfl)) (pgs_cons (pg_name (i := 7) scCd.nd rfl (.inl rfl)) pgs_nil))) (pgs_cons (pg_name (i := 9) scCd.nd rfl (.inl rfl)) pgs_nil)))
            (fun _ _ _ _ _ => pts_one (pt_cmpR (r := rEq) op_eq (pv 6) (pv 2) (nomark _))) (fun _ _ _ _ _ => pe_tup (pa_cons (pv 7) (pa_cons (pv 9) pa_nil))))))
        (pss_cons (ps_lock (ps_setLc (i := 5) (own := [("x", 6), ("y", 7), ("c", 9)]) (g := gTup K 2 (gCons (gTup K 2 (gCons (gName 6) (gCons (gName 7) gNil))) (gCons (gName 9) gNil))) (tt := tYes) rfl scCd.nd rfl rfl (sw_true rfl rfl rfl (by decide +kernel)) (pi_itemsT (pv 1)) (blkOk_by (N := nCd) (sc := defScope sClosed) (by decide +kernel))
            (fun _ _ _ _ _ => pg_tup (by rfl) (pgs_cons (pg_tup (by rfl) (pgs_cons (pg_name (i := 6) scCd.nd rfl (.inl rfl)) (pgs_cons (pg_name (i := 7) scCd.nd rfl (.inl rfl)) pgs_nil))) (pgs_cons (pg_name (i := 9) scCd.nd rfl (.inl rfl)) pgs_nil)))
            (fun _ _ _ _ _ => pts_nil) (fun _ _ _ _ _ => pe_tup (pa_cons (pv 6) (pa_cons (pv 7) (pa_cons (pv 9) pa_nil))))))
        (pss_one (ps_set (i := 1) scCd.nd rfl (.inl rfl) (pe_call GT hr (by rfl) mT kT bT .nil pass0 (pa_cons (pe_op op_cat (pv 5)
            (pe_lc2 (own := [("x", 6), ("c", 9), ("y", 7), ("d", 10)]) (vs1 := [7, 10]) (g := gTup K 2 (gCons (gName 6) (gCons (gName 9) gNil))) (g1 := gTup K 2 (gCons (gName 7) (gCons (gName 10) gNil))) (tt := tYes) (tt1 := tYes) (wi1 := iList K (tVar 4)) rfl scCd.nd (pi_list (pv 3)) (blkOk_by (N := nCd) (sc := defScope sClosed) (by decide +kernel)) (by decide)
            (fun _ _ _ _ _ => pg_tup (by rfl) (pgs_cons (pg_name (i := 6) scCd.nd rfl (.inl rfl)) (pgs_cons (pg_name (i := 9) scCd.nd rfl (.inl rfl)) pgs_nil))) (fun _ _ _ _ _ => pts_nil)
            (fun _ _ _ _ _ => pi_list (pv 4))
            (fun _ _ _ _ _ => pg_tup (by rfl) (pgs_cons (pg_name (i := 7) scCd.nd rfl (.inl rfl)) (pgs_cons (pg_name (i := 10) scCd.nd rfl (.inl rfl)) pgs_nil))) (fun _ _ _ _ _ => pts_nil)
            (fun _ _ _ _ _ => pe_tup (pa_cons (pv 6) (pa_cons (pv 7) (pa_cons (pe_op op_add (pv 9) (pv 10)) pa_nil)))))) pa_nil))))))))
      (pss_one (ps_ret (pv 1)))), ?_⟩
    refine ⟨_, rfl, a, xs, L, p, rfl, ha, hx, by omega, K0, fun q0 kvs0 T0 H1 nq0 s1 eq0 hT0 tg0 hk0 => ?_⟩
    dsimp only [gName]
    have cl0 := M.Cl.first K0 tg0
    have inW : ∀ {Z : List Str} {T : M.Tb Str}, M.Cl L p Z T → ∀ x y c, T x y = some c → x ∈ W ∧ y ∈ W := fun cl x y c e => by
      obtain ⟨⟨y', c', h1, _⟩, x', c'', h2, _⟩ := cl.ends x y c e
      exact ⟨(hW _ h1).1, (hW _ h2).2⟩
    have few : ∀ {Z : List Str} {T : M.Tb Str} {kvs : List (List Key × V)}, TbL kvs T → M.Cl L p Z T → kvs.length ≤ 49 := fun hT cl => by
      have h1 := hT.few W (inW cl)
      have h2 := Nat.mul_le_mul hw7 hw7
      omega
    have k0 := few hT0 cl0
    refine ⟨q0, .dT kvs0, eq0, True.intro, fun od => ?_⟩
    refine ⟨_, rfl, q0, od, rfl, .inr ⟨kvs0, upd_same, fun D nD => ?_⟩⟩
    obtain ⟨Dq0, D1⟩ := locked_new nD
    refine sc_it (walk_keysT (d := q0) (o := od) (kvs := kvs0)) (fun i H' => Same (upd H1 q0 (.frz od (.dT kvs0))) H' ∧ ∃ S, H' D = some (TxtO P w D S) ∧ S.length ≤ i ∧ ∀ z, z ∈ S ↔ ∃ f ∈ (ents kvs0).take i, f.1 = z)
      ⟨same_upd nD, [], upd_same, Nat.zero_le _, fun z => by simp⟩ (fun i H' _ h => h.1 _ _ upd_same) ?_ ?_
    · rintro i x H' H2 hi ⟨s', S, eS, lS, mS⟩ ⟨rfl, kk, v, t, hkv, rfl, ht⟩
      obtain ⟨fx, fy, fc, rfl, rfl, hT, hf⟩ := hT0.item hkv
      refine ⟨t, _, rfl, SqT.of ht, rfl, _, _, rfl, _, _, rfl, rfl, rfl, _, rfl, fx, S, rfl, eS, by rw [show scanBound = 4096 from rfl]; omega, fun c o e => ?_, _, upd_same, Nat.le_trans (insL_le _ _) (by omega), fun z => ?_⟩
      · rw [upd_ne (ne_of_none e nD)]
        exact s' c o e
      · rw [mem_insL, mS, List.take_succ, hf]
        constructor
        · rintro (⟨f, h1, h2⟩ | rfl)
          · exact ⟨f, List.mem_append_left _ h1, h2⟩
          · exact ⟨_, List.mem_append_right _ List.mem_cons_self, rfl⟩
        · rintro ⟨f, h1, h2⟩
          rcases List.mem_append.mp h1 with h1 | h1
          · exact .inl ⟨f, h1, h2⟩
          · have e : f = (fx, fy, fc) := by simpa using h1
            exact .inr (by rw [← h2, e])
    rintro H2 ⟨s2', S1, eS1, lS1, mS1⟩
    refine ⟨s2' _ _ upd_same, ?_⟩
    have s2 := unlock eq0 s2'
    have eD2 : (upd H2 q0 (.dT kvs0)) D = some (TxtO P w D S1) := by rw [upd_ne Dq0]; exact eS1
    have eq2 : (upd H2 q0 (.dT kvs0)) q0 = some (.dT kvs0) := upd_same
    rw [← ents_len, List.take_length] at mS1
    generalize upd H2 q0 (.dT kvs0) = H3 at s2 eD2 eq2 ⊢
    refine ⟨q0, .dT kvs0, eq2, True.intro, fun od2 => ?_⟩
    refine ⟨_, rfl, q0, od2, rfl, .inr ⟨kvs0, upd_same, fun D2 nD2 => ?_⟩⟩
    obtain ⟨D2q0, D21⟩ := locked_new nD2
    refine sc_it (walk_keysT (d := q0) (o := od2) (kvs := kvs0)) (fun i H' => Same (upd H3 q0 (.frz od2 (.dT kvs0))) H' ∧ ∃ S, H' D2 = some (TxtO P w D2 S) ∧ S.length ≤ i ∧ ∀ z, z ∈ S ↔ ∃ f ∈ (ents kvs0).take i, f.2.1 = z)
      ⟨same_upd nD2, [], upd_same, Nat.zero_le _, fun z => by simp⟩ (fun i H' _ h => h.1 _ _ upd_same) ?_ ?_
    · rintro i x H' H2 hi ⟨s', S, eS, lS, mS⟩ ⟨rfl, kk, v, t, hkv, rfl, ht⟩
      obtain ⟨fx, fy, fc, rfl, rfl, hT, hf⟩ := hT0.item hkv
      refine ⟨t, _, rfl, SqT.of ht, rfl, _, _, rfl, _, _, rfl, rfl, rfl, _, rfl, fy, S, rfl, eS, by rw [show scanBound = 4096 from rfl]; omega, fun c o e => ?_, _, upd_same, Nat.le_trans (insL_le _ _) (by omega), fun z => ?_⟩
      · rw [upd_ne (ne_of_none e nD2)]
        exact s' c o e
      · rw [mem_insL, mS, List.take_succ, hf]
        constructor
        · rintro (⟨f, h1, h2⟩ | rfl)
          · exact ⟨f, List.mem_append_left _ h1, h2⟩
          · exact ⟨_, List.mem_append_right _ List.mem_cons_self, rfl⟩
        · rintro ⟨f, h1, h2⟩
          rcases List.mem_append.mp h1 with h1 | h1
          · exact .inl ⟨f, h1, h2⟩
          · have e : f = (fx, fy, fc) := by simpa using h1
            exact .inr (by rw [← h2, e])
    rintro H4 ⟨s4', S2, eS2, lS2, mS2⟩
    refine ⟨s4' _ _ upd_same, ?_⟩
    have s4 := unlock eq2 s4'
    have eD4 : (upd H4 q0 (.dT kvs0)) D2 = some (TxtO P w D2 S2) := by rw [upd_ne D2q0]; exact eS2
    have eD14 := s4 _ _ eD2
    have eq4 : (upd H4 q0 (.dT kvs0)) q0 = some (.dT kvs0) := upd_same
    rw [← ents_len, List.take_length] at mS2
    generalize upd H4 q0 (.dT kvs0) = H5 at s4 eD4 eD14 eq4 ⊢
    have DD : D ≠ D2 := ne_of_none eD2 D21
    refine ⟨D, D2, S1, S2, rfl, rfl, DD, eD14, eD4, fun Mm N ndN hN nM => ?_⟩
    have s6 := same_upd (o := TxtO P w Mm N) nM
    have inN : ∀ z ∈ N, z ∈ W := fun z hz => by
      obtain ⟨⟨x, y, c⟩, h1, h2⟩ := (mS1 z).mp ((hN z).mp hz).1
      have := (inW cl0 _ _ _ (hT0.mem.mp h1)).1
      rw [← h2]
      exact this
    have lN : N.length ≤ 7 := Nat.le_trans (nodup_len ndN inN) hw7
    refine ⟨Mm, N, rfl, upd_same, by omega, fun ys Ll perm srt nL wL => ?_⟩
    have s7 := same_upd (o := .lst (ys.map V.str)) nL
    have s17 := (((s1.trans s2).trans s4).trans s6).trans s7
    have eq7 := s7 _ _ (s6 _ _ eq4)
    have eL7 : (upd (upd H5 Mm (TxtO P w Mm N)) Ll (.lst (ys.map V.str))) Ll = some (.lst (ys.map V.str)) := upd_same
    have hMid : ∀ m x y c d, (x, m, c) ∈ L → x ≠ m → (m, y, d) ∈ L → m ≠ y → m ∈ ys := fun m x y c d h1 n1 h2 n2 => by
      rw [perm.mem_iff, hN, mS1, mS2]
      obtain ⟨g1, e1, _⟩ := tg0.le _ _ _ h1 n1
      obtain ⟨g2, e2, _⟩ := tg0.le _ _ _ h2 n2
      exact ⟨⟨_, hT0.mem.mpr e2, rfl⟩, ⟨_, hT0.mem.mpr e1, rfl⟩⟩
    have nq7 : H q0 = none := nq0
    refine ⟨Ll, rfl, ⟨_, SqL.of upd_same⟩, ?_⟩
    refine for_list (K := K) (a := Ll) (xs := ys.map V.str) (fun i σ H' => ∃ (q1 : Addr) (kvs : List (List Key × V)) (T : M.Tb Str) (Z : List Str) (y2 y3 y4 y5 y6 y7 y8 y9 y10 : Option V), σ = [some (.ref a), some (.ref q1), y2, y3, y4, y5, y6, y7, y8, y9, y10] ∧ H q1 = none ∧ Same H H' ∧ H' Ll = some (.lst (ys.map V.str)) ∧ H' q1 = some (.dT kvs) ∧ TbL kvs T ∧ M.Cl L p Z T ∧ ∀ z ∈ ys.take i, z ∈ Z)
      ⟨q0, kvs0, T0, [], none, none, none, none, none, none, none, none, none, rfl, nq0, s17, eL7, eq7, hT0, cl0, fun z hz => by simp at hz⟩ (fun i σ H' _ h => by
        obtain ⟨_, _, _, _, _, _, _, _, _, _, _, _, _, _, _, _, e, _⟩ := h
        exact SqL.of e) ?_ ?_
    · rintro i x σ H' hxi ⟨q1, kvs, T, Z, y2, y3, y4, y5, y6, y7, y8, y9, y10, rfl, nq1, s', eL, eq, hT, cl, hZ⟩
      obtain ⟨m, hmi, rfl⟩ : ∃ z, ys[i]? = some z ∧ x = .str z := by
        rw [List.getElem?_map] at hxi
        cases e : ys[i]? with
        | none => rw [e] at hxi; cases hxi
        | some z => rw [e] at hxi; cases hxi; exact ⟨z, rfl, rfl⟩
      have et : ys.take (i + 1) = ys.take i ++ [m] := by rw [List.take_succ, hmi]; rfl
      have kk := few hT cl
      have el : (ents kvs).length ≤ 49 := by rw [ents_len]; exact kk
      have al := Nat.le_trans (ahead_len (E := ents kvs) (m := m)) el
      have bl := Nat.le_trans (behind_len (E := ents kvs) (m := m)) el
      -- ahead
      refine ⟨q1, .dT kvs, eq, True.intro, fun od1 => ?_⟩
      refine ⟨_, rfl, q1, od1, kvs, rfl, upd_same, fun A nA => ?_⟩
      obtain ⟨Aq, A1⟩ := locked_new nA
      refine lc_it walk_itemsT (fun j H2 => Same (upd H' q1 (.frz od1 (.dT kvs))) H2 ∧ ∃ xs, H2 A = some (.lst xs) ∧ Prs H2 xs (aheadOf ((ents kvs).take j) m))
        ⟨same_upd nA, [], upd_same, .nil⟩ (fun j H2 _ h => h.1 _ _ upd_same) ?_ ?_
      · rintro j x H2 H3 hj ⟨s2, xs2, e2, p2⟩ ⟨N1, kq, kk2, val, hkv, rfl, nN, hkq, rfl⟩
        obtain ⟨fx, fy, fc, rfl, rfl, hT2, hf⟩ := hT.item hkv
        have sN := same_upd (o := .tup [.ref kq, .int fc]) nN
        refine ⟨N1, _, rfl, SqT.of upd_same, rfl, _, _, rfl, ⟨kq, _, rfl, SqT.of (sN _ _ hkq), rfl, _, _, rfl, _, _, rfl, rfl, _, _, rfl, rfl, rfl, ?_⟩⟩
        refine ⟨_, rfl, _, rfl, rfl, _, rfl, ite2 (fun e => ?_) (fun e => ?_)⟩
        · obtain rfl : fy = m := V.str.inj (of_decide_eq_true e)
          refine ⟨_, rfl, _, rfl, by show 2 ≤ sizeLine; decide, fun t nt => ?_⟩
          have sT := sN.trans (same_upd (o := .tup [.str fx, .int fc]) nt)
          refine ⟨xs2, sT _ _ e2, small6k (by rw [p2.len]; have := ahead_len (E := (ents kvs).take j) (m := fy); rw [List.length_take] at this; omega), fun c o e => ?_, _, upd_same, ?_⟩
          · rw [upd_ne (ne_of_none e nA)]
            exact sT _ _ (s2 c o e)
          · rw [ahead_snoc hf, if_pos rfl]
            refine (p2.same fun t' ys e => ?_).snoc (by rw [upd_ne (ne_of (sT _ _ e2) upd_same (by intro z; cases z)).symm]; exact upd_same)
            rw [upd_ne (ne_of e e2 (by intro z; cases z))]
            exact sT _ _ e
        · have nm : ¬ fy = m := fun z => e (decide_eq_true (congrArg V.str z))
          refine ⟨s2.trans sN, xs2, sN _ _ e2, ?_⟩
          rw [ahead_snoc hf, if_neg nm, List.append_nil]
          exact p2.same fun t' ys e => sN _ _ e
      rintro H2 ⟨s2', xsA, eA2, pA2⟩
      refine ⟨s2' _ _ upd_same, ?_⟩
      have s2 := unlock eq s2'
      rw [← ents_len, List.take_length] at pA2
      have eA3 : (upd H2 q1 (.dT kvs)) A = some (.lst xsA) := by rw [upd_ne Aq]; exact eA2
      have pA3 : Prs (upd H2 q1 (.dT kvs)) xsA (aheadOf (ents kvs) m) := pA2.same fun t ys e => by rw [upd_ne (ne_of e (s2' _ _ upd_same) (by intro z; cases z))]; exact e
      have eq3 : (upd H2 q1 (.dT kvs)) q1 = some (.dT kvs) := upd_same
      generalize upd H2 q1 (.dT kvs) = H3 at s2 eA3 pA3 eq3 ⊢
      -- behind
      dsimp only [gName]
      refine ⟨q1, .dT kvs, eq3, True.intro, fun od2 => ?_⟩
      refine ⟨_, rfl, q1, od2, kvs, rfl, upd_same, fun B nB => ?_⟩
      obtain ⟨Bq, B1⟩ := locked_new nB
      refine lc_it walk_itemsT (fun j H2 => Same (upd H3 q1 (.frz od2 (.dT kvs))) H2 ∧ ∃ xs, H2 B = some (.lst xs) ∧ Prs H2 xs (behindOf ((ents kvs).take j) m))
        ⟨same_upd nB, [], upd_same, .nil⟩ (fun j H2 _ h => h.1 _ _ upd_same) ?_ ?_
      · rintro j x H2 H4 hj ⟨s3, xs2, e2, p2⟩ ⟨N1, kq, kk2, val, hkv, rfl, nN, hkq, rfl⟩
        obtain ⟨fx, fy, fc, rfl, rfl, hT2, hf⟩ := hT.item hkv
        have sN := same_upd (o := .tup [.ref kq, .int fc]) nN
        refine ⟨N1, _, rfl, SqT.of upd_same, rfl, _, _, rfl, ⟨kq, _, rfl, SqT.of (sN _ _ hkq), rfl, _, _, rfl, _, _, rfl, rfl, _, _, rfl, rfl, rfl, ?_⟩⟩
        refine ⟨_, rfl, _, rfl, rfl, _, rfl, ite2 (fun e => ?_) (fun e => ?_)⟩
        · obtain rfl : fx = m := V.str.inj (of_decide_eq_true e)
          refine ⟨_, rfl, _, rfl, by show 2 ≤ sizeLine; decide, fun t nt => ?_⟩
          have sT := sN.trans (same_upd (o := .tup [.str fy, .int fc]) nt)
          refine ⟨xs2, sT _ _ e2, small6k (by rw [p2.len]; have := behind_len (E := (ents kvs).take j) (m := fx); rw [List.length_take] at this; omega), fun c o e => ?_, _, upd_same, ?_⟩
          · rw [upd_ne (ne_of_none e nB)]
            exact sT _ _ (s3 c o e)
          · rw [behind_snoc hf, if_pos rfl]
            refine (p2.same fun t' ys e => ?_).snoc (by rw [upd_ne (ne_of (sT _ _ e2) upd_same (by intro z; cases z)).symm]; exact upd_same)
            rw [upd_ne (ne_of e e2 (by intro z; cases z))]
            exact sT _ _ e
        · have nm : ¬ fx = m := fun z => e (decide_eq_true (congrArg V.str z))
          refine ⟨s3.trans sN, xs2, sN _ _ e2, ?_⟩
          rw [behind_snoc hf, if_neg nm, List.append_nil]
          exact p2.same fun t' ys e => sN _ _ e
      rintro H4 ⟨s4', xsB, eB4, pB4⟩
      refine ⟨s4' _ _ upd_same, ?_⟩
      have s4 := unlock eq3 s4'
      rw [← ents_len, List.take_length] at pB4
      have eB5 : (upd H4 q1 (.dT kvs)) B = some (.lst xsB) := by rw [upd_ne Bq]; exact eB4
      have pB5 : Prs (upd H4 q1 (.dT kvs)) xsB (behindOf (ents kvs) m) := pB4.same fun t ys e => by rw [upd_ne (ne_of e (s4' _ _ upd_same) (by intro z; cases z))]; exact e
      have eA5 := s4 _ _ eA3
      have pA5 := pA3.same (H' := upd H4 q1 (.dT kvs)) fun t ys e => s4 _ _ e
      have eq5 : (upd H4 q1 (.dT kvs)) q1 = some (.dT kvs) := upd_same
      generalize upd H4 q1 (.dT kvs) = H5 at s4 eB5 pB5 eA5 pA5 eq5 ⊢
      -- known
      refine ⟨q1, .dT kvs, eq5, True.intro, fun od3 => ?_⟩
      refine ⟨_, rfl, q1, od3, kvs, rfl, upd_same, fun D3 nD3 => ?_⟩
      obtain ⟨D3q, D31⟩ := locked_new nD3
      refine lc_it walk_itemsT (fun j H2 => Same (upd H5 q1 (.frz od3 (.dT kvs))) H2 ∧ ∃ xs, H2 D3 = some (.lst xs) ∧ Its H2 xs ((ents kvs).take j))
        ⟨same_upd nD3, [], upd_same, .nil⟩ (fun j H2 _ h => h.1 _ _ upd_same) ?_ ?_
      · rintro j x H2 H6 hj ⟨s5, xs2, e2, p2⟩ ⟨N1, kq, kk2, val, hkv, rfl, nN, hkq, rfl⟩
        obtain ⟨fx, fy, fc, rfl, rfl, hT2, hf⟩ := hT.item hkv
        have sN := same_upd (o := .tup [.ref kq, .int fc]) nN
        refine ⟨N1, _, rfl, SqT.of upd_same, rfl, _, _, rfl, ⟨kq, _, rfl, SqT.of (sN _ _ hkq), rfl, _, _, rfl, _, _, rfl, rfl, _, _, rfl, rfl, rfl, ?_⟩⟩
        refine ⟨_, rfl, _, rfl, _, rfl, by show 3 ≤ sizeLine; decide, fun t nt => ?_⟩
        have sT := sN.trans (same_upd (o := .tup [.str fx, .str fy, .int fc]) nt)
        have e1 : (ents kvs).take (j + 1) = (ents kvs).take j ++ [(fx, fy, fc)] := by rw [List.take_succ, hf]; rfl
        refine ⟨xs2, sT _ _ e2, small6k (by rw [p2.len, List.length_take]; omega), fun c o e => ?_, _, upd_same, ?_⟩
        · rw [upd_ne (ne_of_none e nD3)]
          exact sT _ _ (s5 c o e)
        · rw [e1]
          refine (p2.samT fun t' ys e => ?_).snoc (by rw [upd_ne (ne_of (sT _ _ e2) upd_same (by intro z; cases z)).symm]; exact upd_same)
          rw [upd_ne (ne_of e e2 (by intro z; cases z))]
          exact sT _ _ e
      rintro H6 ⟨s6', xsK, eK6, pK6⟩
      refine ⟨s6' _ _ upd_same, ?_⟩
      have s6 := unlock eq5 s6'
      rw [← ents_len, List.take_length] at pK6
      have eK7 : (upd H6 q1 (.dT kvs)) D3 = some (.lst xsK) := by rw [upd_ne D3q]; exact eK6
      have pK7 : Its (upd H6 q1 (.dT kvs)) xsK (ents kvs) := pK6.samT fun t ys e => by rw [upd_ne (ne_of e (s6' _ _ upd_same) (by intro z; cases z))]; exact e
      have eA7 := s6 _ _ eA5
      have pA7 := pA5.same (H' := upd H6 q1 (.dT kvs)) fun t ys e => s6 _ _ e
      have eB7 := s6 _ _ eB5
      have pB7 := pB5.same (H' := upd H6 q1 (.dT kvs)) fun t ys e => s6 _ _ e
      have s07 := ((s'.trans s2).trans s4).trans s6
      have eL7 := s6 _ _ (s4 _ _ (s2 _ _ eL))
      clear s6' s4' s2' eK6 pK6 eB4 pB4 eA2 pA2 s2 s4
      generalize upd H6 q1 (.dT kvs) = H7 at s6 eK7 pK7 eA7 pA7 eB7 pB7 s07 eL7 ⊢
      dsimp only [gName]
      -- the ways
      refine ⟨_, rfl, _, rfl, A, rfl, ⟨_, SqL.of eA7⟩, fun G nG => ?_⟩
      refine loop_it (walk_list (K := K) (a := A) (xs := xsA)) (fun j H2 => Same H7 H2 ∧ ∃ xs, H2 G = some (.lst xs) ∧ Its H2 xs (waysOf ((aheadOf (ents kvs) m).take j) (behindOf (ents kvs) m)))
        ⟨same_upd nG, [], upd_same, .nil⟩ (fun j H2 _ h => SqL.of (h.1 _ _ eA7)) ?_ ?_
      · rintro j x H2 H8 hj ⟨s8, xs2, e2, p2⟩ ⟨rfl, hxj⟩
        obtain ⟨⟨fx, fc⟩, hf, t, rfl, ht⟩ := pA7.at_ _ _ hxj
        have ht2 := s8 _ _ ht
        have jl : j < (aheadOf (ents kvs) m).length := (List.getElem?_eq_some_iff.mp hf).1
        have e1 : waysOf ((aheadOf (ents kvs) m).take (j + 1)) (behindOf (ents kvs) m) = waysOf ((aheadOf (ents kvs) m).take j) (behindOf (ents kvs) m) ++ (behindOf (ents kvs) m).map fun b => (fx, b.1, fc + b.2) := by
          unfold waysOf
          rw [List.take_succ, hf, List.flatMap_append]
          congr 1
          simp
        refine ⟨t, _, rfl, SqT.of ht2, rfl, _, _, rfl, _, _, rfl, rfl, wp1 (wp1 wp0), ?_⟩
        simp only [gName, wipe, List.map_cons, List.map_nil, List.set_cons_zero, List.set_cons_succ]
        refine ⟨_, rfl, B, rfl, ⟨_, SqL.of (s8 _ _ eB7)⟩, ?_⟩
        refine loop_it (walk_list (K := K) (a := B) (xs := xsB)) (fun k H3 => Same H7 H3 ∧ ∃ xs, H3 G = some (.lst xs) ∧ Its H3 xs (waysOf ((aheadOf (ents kvs) m).take j) (behindOf (ents kvs) m) ++ ((behindOf (ents kvs) m).take k).map fun b => (fx, b.1, fc + b.2)))
          ⟨s8, xs2, e2, by rw [List.take_zero, List.map_nil, List.append_nil]; exact p2⟩ (fun k H3 _ h => SqL.of (h.1 _ _ eB7)) ?_ ?_
        · rintro k x H3 H9 hk ⟨s9, xs3, e3, p3⟩ ⟨rfl, hxk⟩
          obtain ⟨⟨fy, fd⟩, hg, u, rfl, hu2⟩ := pB7.at_ _ _ hxk
          have kl : k < (behindOf (ents kvs) m).length := (List.getElem?_eq_some_iff.mp hg).1
          refine ⟨u, _, rfl, SqT.of (s9 _ _ hu2), rfl, _, _, rfl, _, _, rfl, rfl, rfl, ?_⟩
          simp only [gName, wipe, List.map_cons, List.map_nil, List.set_cons_zero, List.set_cons_succ]
          refine ⟨_, rfl, _, rfl, _, rfl, _, rfl, _, _, rfl, rfl, by show 3 ≤ sizeLine; decide, fun t nt => ?_⟩
          have sT := same_upd (o := .tup [.str fx, .str fy, .int (fc + fd)]) nt
          have e4 : ((behindOf (ents kvs) m).take (k + 1)).map (fun b => (fx, b.1, fc + b.2)) = ((behindOf (ents kvs) m).take k).map (fun b => (fx, b.1, fc + b.2)) ++ [(fx, fy, fc + fd)] := by
            rw [List.take_succ, hg, List.map_append]
            rfl
          refine ⟨xs3, sT _ _ e3, small6k ?_, fun c o e => ?_, _, upd_same, ?_⟩
          · rw [p3.len, List.length_append, ways_len, List.length_map, List.length_take, List.length_take]
            have h1 : min j (aheadOf (ents kvs) m).length ≤ 49 := by omega
            have h2 := Nat.mul_le_mul h1 bl
            omega
          · rw [upd_ne (ne_of_none e nG)]
            exact sT _ _ (s9 c o e)
          · rw [e4, ← List.append_assoc]
            refine (p3.samT fun t' ys e => ?_).snoc (by rw [upd_ne (ne_of (sT _ _ e3) upd_same (by intro z; cases z)).symm]; exact upd_same)
            rw [upd_ne (ne_of e e3 (by intro z; cases z))]
            exact sT _ _ e
        · rintro H3 ⟨s9, xs3, e3, p3⟩
          rw [pB7.len, List.take_length] at p3
          exact ⟨s9, xs3, e3, by rw [e1]; exact p3⟩
      rintro H8 ⟨s8, xsG, eG, pG⟩
      rw [pA7.len, List.take_length] at pG
      have lG : xsG.length ≤ 2401 := by
        rw [pG.len, ways_len]
        exact Nat.mul_le_mul al bl
      have lK : xsK.length ≤ 49 := by rw [pK7.len]; exact el
      refine ⟨D3, G, xsK, xsG, rfl, rfl, s8 _ _ eK7, eG, Nat.le_of_lt (small6k (by omega)), fun Pn nP => ?_⟩
      have sP := same_upd (o := .lst (xsK ++ xsG)) nP
      have over := over_of hT m
      refine ⟨Pn, xsK ++ xsG, ents kvs ++ waysOf (aheadOf (ents kvs) m) (behindOf (ents kvs) m), p, rfl, upd_same, ((pK7.samT fun t ys e => s8 _ _ e).app pG).samT fun t ys e => sP _ _ e, by rw [List.length_append, ways_len]; have := Nat.mul_le_mul al bl; omega, cl.fine over, fun q2 kvs2 T2 H9 nq2 s9 eq9 hT9 tg9 hk9 => ?_⟩
      have s89 := (s8.trans sP).trans s9
      refine ⟨q2, kvs2, T2, m :: Z, _, _, _, _, _, _, _, _, _, rfl, ?_, s07.trans s89, s89 _ _ eL7, eq9, hT9, cl.next over tg9, fun z hz => ?_⟩
      · cases e : H q2 with
        | none => rfl
        | some o =>
          have := ((s07.trans s8).trans sP) _ _ e
          rw [nq2] at this
          cases this
      · rw [et] at hz
        rcases List.mem_append.mp hz with hz | hz
        · exact List.mem_cons_of_mem _ (hZ z hz)
        · rw [List.mem_singleton.mp hz]
          exact List.mem_cons_self
    · rintro σ H' ⟨q1, kvs, T, Z, y2, y3, y4, y5, y6, y7, y8, y9, y10, rfl, nq1, s', eL, eq, hT, cl, hZ⟩
      rw [List.length_map, List.take_length] at hZ
      exact ⟨_, rfl, q q1 kvs T Z H' nq1 s' eq hT cl fun m x y c d h1 n1 h2 n2 => hZ m (hMid m x y c d h1 n1 h2 n2)⟩
end
end Fv


set_option Elab.async false
set_option linter.all false
set_option maxRecDepth 100000
set_option maxHeartbeats 4000000
namespace Fv
open PySem PySem.Spec PyProof.Rows L2
/-! ### Facts(names, facts), facts that a start keeps -/
abbrev sInit : Stmt := inClass (top 18) 0
def faD (f : FaT) : PyData := .tuple [.str f.1, .str f.2.1, .int f.2.2]
theorem Its.dx {C : Addr} {H : Hp} {b : Addr} (hb : ∀ ys, H b ≠ some (.tup ys)) : ∀ {xs : List V} {L : List FaT}, Its H xs L → DxAll C H b xs (L.map faD)
  | [], [], _ => .nil
  | [], _ :: _, h => by cases h.len
  | _ :: _, [], h => by cases h.len
  | x :: xs, f :: L, h => by
    refine .cons ?_ (Its.dx hb ⟨by have := h.len; rw [List.length_cons, List.length_cons] at this; omega, fun i y e => ?_⟩)
    · obtain ⟨g, hg, t, rfl, ht⟩ := h.at_ 0 x rfl
      cases hg
      exact .tup ht (fun z => hb _ (by rw [← z]; exact ht)) (.cons (.str _) (.cons (.str _) (.cons (.int _) .nil)))
    · exact h.at_ (i + 1) y e
theorem src_in {zs : List Str} (hz : ∀ z ∈ zs, NmOk z) {u : Str} (h : SrcIn zs u) : u = "" ∨ NmOk u := h.imp id (hz u)
theorem facts_true {zs : List Str} (hz : ∀ z ∈ zs, NmOk z) {L : List FaT} (h : ∀ f ∈ L, SrcIn zs f.1 ∧ SrcIn zs f.2.1) : factsD (.list (L.map faD)) = true := by
  unfold factsD
  rw [Bool.and_eq_true]
  refine ⟨rfl, ?_⟩
  show (L.map faD).all factD = true
  rw [List.all_map, List.all_eq_true]
  intro f hf
  have e : factD (faD f) = (sourceD (.str f.1) && sourceD (.str f.2.1) && intD (.int f.2.2)) := rfl
  show factD (faD f) = true
  rw [e, src_name (src_in hz (h f hf).1), src_name (src_in hz (h f hf).2)]
  rfl
theorem facts_ok {zs : List Str} (hz : ∀ z ∈ zs, NmOk z) : ∀ {L : List FaT}, (∀ f ∈ L, SrcIn zs f.1 ∧ SrcIn zs f.2.1) → okAll (L.map faD)
  | [], _ => True.intro
  | f :: L, h => ⟨⟨by show 3 ≤ 60; decide, ⟨src_ok (src_in hz (h f List.mem_cons_self).1), src_ok (src_in hz (h f List.mem_cons_self).2), True.intro, True.intro⟩⟩, facts_ok hz fun g hg => h g (List.mem_cons_of_mem _ hg)⟩
theorem names_dx {C : Addr} {H : Hp} {b : Addr} : ∀ {zs : List Str}, DxAll C H b (zs.map V.str) (zs.map PyData.str)
  | [] => .nil
  | _ :: _ => .cons (.str _) names_dx
theorem names_ok : ∀ {zs : List Str}, (∀ z ∈ zs, NmOk z) → okAll (zs.map PyData.str)
  | [], _ => True.intro
  | z :: zs, h => ⟨(h z List.mem_cons_self).ok, names_ok fun y hy => h y (List.mem_cons_of_mem _ hy)⟩
theorem names_true {zs : List Str} (hz : ∀ z ∈ zs, NmOk z) (nd : zs.Nodup) : namesD (.list (zs.map PyData.str)) = true := by
  unfold namesD
  rw [Bool.and_eq_true, Bool.and_eq_true]
  refine ⟨⟨rfl, ?_⟩, ?_⟩
  · show (zs.map PyData.str).all nameD = true
    rw [List.all_map, List.all_eq_true]
    exact fun z h => (hz z h).name
  · show decide ((zs.map PyData.str).map strS).Nodup = true
    rw [List.map_map, decide_eq_true_eq]
    have e : zs.map (strS ∘ PyData.str) = zs := by
      conv => rhs; rw [← List.map_id zs]
      exact List.map_congr_left fun _ _ => rfl
    rw [e]
    exact nd
def spIni (C : Addr) : Sp := fun vs H Q _ => ∃ (x n a dx : Addr) (zs : List Str) (xs : List V) (L : List FaT) (p : Str → Int), vs = [.ref x, .ref n, .ref a] ∧ H x = some (.ins C dx []) ∧ H n = some (.lst (zs.map V.str)) ∧ H a = some (.lst xs) ∧ Its H xs L ∧
  (∀ z ∈ zs, NmOk z) ∧ zs.Nodup ∧ zs.length ≤ 6 ∧ L.length ≤ 60 ∧ (∀ f ∈ L, SrcIn zs f.1 ∧ SrcIn zs f.2.1) ∧ M.Keeps L p ∧
  ∀ H' ys (T : M.Tb Str) Z m, H m = none → ys.Perm zs → sortedS ys = true → FacAtN C H' x m ys T → M.Cl L p Z T → (∀ m x y c d, (x, m, c) ∈ L → x ≠ m → (m, y, d) ∈ L → m ≠ y → m ∈ Z) →
    (∀ c u, c ≠ x → H c = some u → H' c = some u) → Q .non H'
section
variable {P : Program} {w : World} {K : PySem.W.Frag} {mg : Str → Option Value} {base : Heap} {C : Addr}
theorem scIni : FnScope ["self", "names", "facts"] ["self", "names", "facts"] (defScope sInit) := ⟨rfl, rfl, rfl, by decide +kernel, rfl, by decide +kernel, by decide +kernel⟩
theorem ok_ini {f fC fM fA fS fD : Addr} {fd fdC fdM fdA fdS fdD : FuncData} {dvs : List V} (F : FunD K "__init__" "Facts.__init__" (defArgs sInit) (defBody sInit) (defScope sInit) dvs [] f fd) (T : FacC K C)
    (GC : FnOk P w K mg base CX0 1 fC fdC ["rights"] spChk) (bC : Binds K fdC ["rights"] []) (mC : mg "check_arguments" = some (.ref fC)) (kC : PySem.W.keepIn K (.ref fC) = true)
    (GM : FnOk P w K mg base CX0 2 fM fdM ["thing"] (spX C namesD)) (bM : Binds K fdM ["thing"] []) (mM : mg "are_names" = some (.ref fM)) (kM : PySem.W.keepIn K (.ref fM) = true)
    (GA : FnOk P w K mg base CX0 4 fA fdA ["thing"] (spX C factsD)) (bA : Binds K fdA ["thing"] []) (mA : mg "_are_facts" = some (.ref fA)) (kA : PySem.W.keepIn K (.ref fA) = true)
    (GS : FnOk P w K mg base CX0 1 fS fdS ["names", "facts"] spChkS) (bS : Binds K fdS ["names", "facts"] []) (mS : mg "_check_sources" = some (.ref fS)) (kS : PySem.W.keepIn K (.ref fS) = true)
    (GD : FnOk P w K mg base CX0 2 fD fdD ["facts"] spClosed) (bD : Binds K fdD ["facts"] []) (mD : mg "_closed" = some (.ref fD)) (kD : PySem.W.keepIn K (.ref fD) = true)
    (mo : mg "sorted" = none) : FnOk P w K mg base CX0 5 f fd ["self", "names", "facts"] (spIni C) := by
  refine F.ok scIni (fun vs H Q E h => ?_) (fun cdv A outer s H vs Q E hr h => ?_)
  · obtain ⟨x, n, a, dx, zs, xs, L, p, rfl, _⟩ := h
    rfl
  · obtain ⟨x, n, a, dx, zs, xs, L, p, rfl, hx, hn, ha, hi, hz, nd, zl, ll, hs, K0, q⟩ := h
    have hr1 : Room 1 _ := hr.mono (by decide)
    have hr2 : Room 2 _ := hr.mono (by decide)
    refine ⟨_, pss_cons (ps_expr (pe_call GC hr1 (by rfl) mC kC bC .nil pass0 (pa_cons (pe_lst (pa_cons (pe_call GM hr2 (by rfl) mM kM bM .nil pass0 (pa_cons (pv 1) pa_nil)) (pa_cons (pe_call GA hr (by rfl) mA kA bA .nil pass0 (pa_cons (pv 2) pa_nil)) pa_nil))) pa_nil)))
      (pss_cons (ps_expr (pe_call GS hr1 (by rfl) mS kS bS .nil pass0 (pa_cons (pv 1) (pa_cons (pv 2) pa_nil))))
      (pss_cons (ps_fld (pv 0) (pe_callB (r := rSortB K) call_sortB (by rfl) mo (by decide +kernel) (pa_cons (pv 1) pa_nil)) rfl)
      (pss_one (ps_fld (pv 0) (pe_call GD hr2 (by rfl) mD kD bD .nil pass0 (pa_cons (pv 2) pa_nil)) rfl)))), ?_⟩
    have ne : n ≠ x := fun z => by rw [z, hx] at hn; cases hn
    have ae : a ≠ x := fun z => by rw [z, hx] at ha; cases ha
    have dn : Dx C H x (.ref n) (.list (zs.map PyData.str)) := .lst hn ne names_dx
    have hb : ∀ ys, H x ≠ some (.tup ys) := fun ys z => by rw [hx] at z; cases z
    have da : Dx C H x (.ref a) (.list (L.map faD)) := .lst ha ae (hi.dx hb)
    refine ⟨_, rfl, x, _, _, rfl, dn, ⟨by rw [List.length_map]; omega, names_ok hz⟩, ⟨_, hx⟩, fun H1 s1 => ?_⟩
    refine ⟨_, rfl, x, _, _, rfl, da.mono fun c o _ e => s1 c o e, ⟨by rw [List.length_map]; omega, facts_ok hz hs⟩, ⟨_, s1 _ _ hx⟩, fun H2 s2 => ⟨by show 2 ≤ sizeLine; decide, fun pp np => ?_⟩⟩
    rw [names_true hz nd, facts_true hz hs]
    have s3 := same_upd (o := .lst [.bl true, .bl true]) np
    refine ⟨pp, rfl, upd_same, fun H4 s4 => ?_⟩
    have s04 := ((s1.trans s2).trans s3).trans s4
    refine ⟨_, rfl, _, rfl, n, a, zs, xs, L, rfl, s04 _ _ hn, by omega, s04 _ _ ha, hi.same s04, hs, fun H5 s5 => ?_⟩
    have s05 := s04.trans s5
    refine ⟨_, rfl, n, zs, rfl, .inl (SqL.of (s05 _ _ hn)), by omega, fun ys r perm srt nr wr => ?_⟩
    have s6 := same_upd (o := .lst (ys.map V.str)) nr
    have s06 := s05.trans s6
    refine ⟨_, rfl, x, C, dx, _, rfl, s06 _ _ hx, T.cl, T.n1, by decide, ?_⟩
    have rx : r ≠ x := fun z => by rw [z, s05 _ _ hx] at nr; cases nr
    obtain ⟨H7, eH7⟩ : ∃ H7, H7 = upd (upd H5 r (.lst (ys.map V.str))) x (.ins C dx (putF "_names" (.ref r) [])) := ⟨_, rfl⟩
    rw [← eH7]
    have hx7 : H7 x = some (.ins C dx (putF "_names" (.ref r) [])) := by rw [eH7]; exact upd_same
    have hr7 : H7 r = some (.lst (ys.map V.str)) := by rw [eH7, upd_ne rx]; exact upd_same
    have k07 : ∀ c u, c ≠ x → H c = some u → H7 c = some u := fun c u n e => by
      rw [eH7, upd_ne n]
      exact s06 _ _ e
    clear eH7
    have hi7 : Its H7 xs L := hi.samT fun t us e => k07 _ _ (fun z => hb us (by rw [← z]; exact e)) e
    refine ⟨_, rfl, a, xs, L, p, "" :: zs, rfl, k07 _ _ ae ha, hi7, by omega, K0, fun f hf => ?_, by rw [List.length_cons]; omega, fun r2 kvs T2 Z H8 nr2 s8 e8 hT cl hM => ?_⟩
    · obtain ⟨h1, h2⟩ := hs f hf
      exact ⟨h1.elim (fun e => by rw [e]; exact List.mem_cons_self) (List.mem_cons_of_mem _), h2.elim (fun e => by rw [e]; exact List.mem_cons_self) (List.mem_cons_of_mem _)⟩
    have r2x : r2 ≠ x := fun z => by rw [z, hx7] at nr2; cases nr2
    refine ⟨_, rfl, x, C, dx, _, rfl, s8 _ _ hx7, T.cl, T.n2, by show 1 < 1000; decide, ?_⟩
    have rH : H r = none := by
      cases e : H r with
      | none => rfl
      | some o => rw [s05 _ _ e] at nr; cases nr
    refine q _ ys T2 Z r rH perm srt ⟨dx, r2, kvs, by rw [upd_same, fac_made], ?_, by rw [perm.length_eq]; omega, ?_, hT⟩ cl hM fun c u n e => ?_
    · rw [upd_ne rx]
      exact s8 _ _ hr7
    · rw [upd_ne r2x]
      exact e8
    · rw [upd_ne n]
      exact s8 _ _ (k07 c u n e)
end
end Fv


set_option Elab.async false
set_option linter.all false
set_option maxRecDepth 100000
set_option maxHeartbeats 2000000
/-! own rules: sorted of tuples of texts and numbers; sorted of a dict whose keys are such -/
namespace Fv
open PySem PySem.Spec PyProof.Rows L2
/-- no later than -/
def leD (d e : PyData) : Bool := !PySem.W.dataLt e d
theorem pw_uniq {α : Type} {R : α → α → Prop} : ∀ {l m : List α}, l.Pairwise R → m.Pairwise R → l.Perm m → (∀ a ∈ l, ∀ b ∈ l, R a b → R b a → a = b) → l = m
  | [], m, _, _, p, _ => (List.nil_perm.mp p).symm
  | x :: l, [], _, _, p, _ => by
    have := p.length_eq
    simp at this
  | x :: l, y :: m, hl, hm, p, an => by
    obtain ⟨a1, a2⟩ := List.pairwise_cons.mp hl
    obtain ⟨b1, b2⟩ := List.pairwise_cons.mp hm
    have exy : x = y := by
      have i1 := p.mem_iff.mp (List.mem_cons_self (a := x))
      have i2 := p.mem_iff.mpr (List.mem_cons_self (a := y))
      rcases List.mem_cons.mp i1 with h | h
      · exact h
      · rcases List.mem_cons.mp i2 with k | k
        · exact k.symm
        · exact an x List.mem_cons_self y i2 (a1 y k) (b1 x h)
    subst exy
    rw [pw_uniq a2 b2 (List.Perm.cons_inv p) fun a ha b hb => an a (List.mem_cons_of_mem _ ha) b (List.mem_cons_of_mem _ hb)]
theorem sort_le (le : PyData → PyData → Bool) : (PySem.W.sortLe (PyProof.Rows.listOrd PyProof.Rows.itemOrd) false PySem.W.keyToks) = leD := rfl
theorem leD_sorted (ds : List PyData) : (ds.mergeSort leD).Pairwise fun a b => leD a b = true :=
  PySem.W.sort_pairwise (PySem.W.sortLe_total (PyProof.Rows.listOrd PyProof.Rows.itemOrd) false PySem.W.keyToks) ds
theorem leD_anti {d e : PyData} (h : leD d e = true) (k : leD e d = true) : PySem.W.keyToks d = PySem.W.keyToks e := by
  unfold leD at h k
  refine PyProof.Rows.lex_total (O := PyProof.Rows.itemOrd) _ _ ?_ ?_
  · have := Bool.not_eq_true' _ |>.mp k
    exact this
  · have := Bool.not_eq_true' _ |>.mp h
    exact this
open PySem.W (EachIs)
theorem each_reads {h : Heap} : ∀ {us : List Value} {ds : List PyData} {as : List Addr}, ReadsAll h us ds as → EachIs (fun v d => ∃ as, Reads h v d as) us ds
  | _, _, _, .nil => .nil
  | _, _, _, .cons r t => .cons ⟨_, r⟩ (each_reads t)
theorem each_mem2 {α β : Type} : ∀ {as : List α} {bs : List β}, as.length = bs.length → EachIs (fun a b => (a, b) ∈ as.zip bs) as bs := by
  intro as bs h
  have key : ∀ (as : List α) (bs : List β) (R : α × β → Prop), as.length = bs.length → (∀ p ∈ as.zip bs, R p) → EachIs (fun a b => R (a, b)) as bs := by
    intro as
    induction as with
    | nil =>
      intro bs R h _
      cases bs with
      | nil => exact .nil
      | cons => simp at h
    | cons a as ih =>
      intro bs R h hp
      cases bs with
      | nil => simp at h
      | cons b bs =>
        refine .cons (hp (a, b) (by simp)) (ih bs R (by simpa using h) fun p hp2 => hp p (by rw [List.zip_cons_cons]; exact List.mem_cons_of_mem _ hp2))
  exact key as bs _ h fun p hp => hp
theorem each_get {α β : Type} {R : α → β → Prop} : ∀ {as : List α} {bs : List β}, EachIs R as bs → ∀ (i : Nat) (a : α), as[i]? = some a → ∃ b, bs[i]? = some b ∧ R a b
  | _, _, .nil, i, a, e => by cases i <;> cases e
  | _, _, .cons r t, 0, a, e => by cases e; exact ⟨_, rfl, r⟩
  | _, _, .cons r t, i + 1, a, e => by
    obtain ⟨b, h1, h2⟩ := each_get t i a (by simpa using e)
    exact ⟨b, by simpa using h1, h2⟩
theorem back_zip : ∀ {us : List Value} {ds : List PyData} {u : Value} {d : PyData}, (u, d) ∈ us.zip ds → (backV u, d) ∈ (us.map backV).zip ds
  | [], _, _, _, h => by simp at h
  | _ :: _, [], _, _, h => by simp at h
  | x :: us, e :: ds, u, d, h => by
    rw [List.zip_cons_cons] at h
    rw [List.map_cons, List.zip_cons_cons]
    rcases List.mem_cons.mp h with h | h
    · cases h
      exact List.mem_cons_self
    · exact List.mem_cons_of_mem _ (back_zip h)
theorem each_back {xs : List V} {us : List Value} {ds es : List PyData} {vs : List Value} (e1 : xs = us.map backV) (h : EachIs (fun u d => (u, d) ∈ us.zip ds) vs es) : EachIs (fun v d => (v, d) ∈ xs.zip ds) (vs.map backV) es := by
  subst e1
  induction h with
  | nil => exact .nil
  | cons r _ ih => exact .cons (back_zip r) ih
/-- what can be sorted -/
structure SortOk (ds : List PyData) : Prop where
  al : PySem.W.AllAlike ds
  so : PySem.W.Sortable ds
  dp : ∀ d ∈ ds, d.depth ≤ 5
/-- sorted(xs), xs a list of tuples -/
def rSortD (K : PySem.W.Frag) : List V → Hp → VK → Prop := fun vs H Q => ∃ (a : Addr) (xs : List V) (ds : List PyData), vs = [.ref a] ∧ SqL K H a xs ∧ (∀ x ∈ xs, ∃ t, x = V.ref t) ∧ DpAll K H xs ds ∧ SortOk ds ∧
  ∀ ys p, EachIs (fun v d => (v, d) ∈ xs.zip ds) ys (ds.mergeSort leD) → H p = none → p ≠ sysModules → Q (.ref p) (upd H p (.lst ys))
section
variable {X : Cx}
theorem cr_sortD (hu : X.A.units + 64 < cLine) : CallR X (.builtin "sorted") (rSortD X.K) := by
  intro pins s σ H vs us Q I r h
  obtain ⟨a, xs, ds, rfl, hs, hx, hd, ok, q⟩ := h
  obtain ⟨its, rv, hl, hz⟩ := I.list hs
  rw [Vals.ref1 r]
  obtain ⟨e1, e2⟩ := refs_back rv hx
  obtain ⟨as, ra⟩ := Dp.readsAll I ds _ _ hd rv
  have hlen : its.length = ds.length := PySem.SeqAt.ReadsAll.length _ _ _ ra
  have keepC : ∀ b o, s.heap.get? b = some o → (PySem.W.sortingHeap (PySem.W.copyHeap s.heap its) (s.heap.objs.size + 1) its).get? b = some o := fun b o e => PySem.W.sorting_copy_old e
  have ra2 := ReadsAll.keeps keepC ra
  have S := PySem.W.SortsAt.data (prog := X.prog) (w := X.w) (A := X.A.in1.in1) (s := { s with heap := PySem.W.sortingHeap (PySem.W.copyHeap s.heap its) (s.heap.objs.size + 1) its }) (each_reads ra2) ok.al ok.so fun d hd => by
    have h1 := ok.dp d hd
    have h2 : X.A.in1.in1.units = X.A.units + 1 + 1 := rfl
    omega
  have hL : its.length ≤ sizeLine := by rw [← rv.length]; exact hz
  refine PySem.W.sorted_vals hl.isList S hL ?_
  have each := PySem.W.sortVals_each (R := fun u d => (u, d) ∈ its.zip ds) (rev := false) (κ := PySem.W.dataKind (PySem.W.sortingHeap (PySem.W.copyHeap s.heap its) (s.heap.objs.size + 1) its) ds) PySem.W.keyToks (each_mem2 hlen) (PySem.W.EachIs.mono (fun v d h => h) (by
    have em := PySem.W.each_mem (each_reads ra2)
    refine PySem.W.EachIs.mono ?_ em
    rintro v d ⟨⟨as, r⟩, hd⟩
    exact PySem.W.dataKind_some ok.al hd r))
  have mem : ∀ u ∈ PySem.W.sortVals (PySem.W.dataKind (PySem.W.sortingHeap (PySem.W.copyHeap s.heap its) (s.heap.objs.size + 1) its) ds) false its its, ∃ t, u = Value.ref t := fun u hm => e2 u (PySem.W.sortVals_mem false hm)
  generalize PySem.W.sortVals (PySem.W.dataKind (PySem.W.sortingHeap (PySem.W.copyHeap s.heap its) (s.heap.objs.size + 1) its) ds) false its its = out at each mem ⊢
  obtain ⟨ep, he⟩ := PyProof.Rows.sortedAll_at s.heap its out.toArray
  have ol : out.length = its.length := by rw [each.length, List.length_mergeSort, hlen]
  refine ⟨.ref (s.heap.objs.size + 1), upd H (s.heap.objs.size + 1) (.lst (out.map backV)), I.laid (t' := s.toks) (fun b o e => PyProof.Rows.sortedAll_old e) (Nat.le_succ _) ⟨by rw [List.length_map, ol]; exact hL, out, ep, vals_back mem, he⟩, rfl,
    q _ _ (each_back e1 each) (I.hok.fresh (Nat.le_succ _)) ?_⟩
  have := I.big
  exact Nat.ne_of_gt (Nat.lt_trans this (Nat.lt_succ_self _))
def kDat : Key → PyData
  | .inl i => .int i
  | .inr x => .str x
/-- a key as a datum -/
def kTup (kk : List Key) : PyData := .tuple (kk.map kDat)
theorem key_dp {K : PySem.W.Frag} {H : Hp} : ∀ kk : List Key, DpAll K H (kk.map kV) (kk.map kDat)
  | [] => .nil
  | .inl i :: kk => .cons (.int i) (key_dp kk)
  | .inr x :: kk => .cons (.str x) (key_dp kk)
theorem keys_dp {K : PySem.W.Frag} {H : Hp} : ∀ {kvs : List (List Key × V)} {bs : List Addr}, IsKeys H kvs bs → DpAll K H (bs.map V.ref) (kvs.map fun kv => kTup kv.1)
  | _, _, .nil => .nil
  | _, _, .cons h t => .cons (.tup (SqT.of h) (key_dp _)) (keys_dp t)
theorem keys_at : ∀ {H : Hp} {kvs : List (List Key × V)} {bs : List Addr}, IsKeys H kvs bs → ∀ v d, (v, d) ∈ (bs.map V.ref).zip (kvs.map fun kv => kTup kv.1) → ∃ t kk, v = .ref t ∧ H t = some (.tup (kk.map kV)) ∧ d = kTup kk ∧ kk ∈ kvs.map (·.1)
  | _, _, _, .nil, v, d, h => by simp at h
  | _, _, _, .cons (a := p) (b := b) h t, v, d, hm => by
    rw [List.map_cons, List.map_cons, List.zip_cons_cons] at hm
    rcases List.mem_cons.mp hm with e | e
    · cases e
      exact ⟨b, p.1, rfl, h, rfl, by rw [List.map_cons]; exact List.mem_cons_self⟩
    · obtain ⟨t', kk, h1, h2, h3, h4⟩ := keys_at t v d e
      exact ⟨t', kk, h1, h2, h3, by rw [List.map_cons]; exact List.mem_cons_of_mem _ h4⟩
/-- sorted(d), d a dict whose keys are tuples -/
def rSortDT : List V → Hp → VK → Prop := fun vs H Q => ∃ (a : Addr) (kvs : List (List Key × V)), vs = [.ref a] ∧ Rd H a (.dT kvs) ∧ SortOk (kvs.map fun kv => kTup kv.1) ∧
  ∀ ys p, EachIs (fun v d => ∃ t kk, v = .ref t ∧ H t = some (.tup (kk.map kV)) ∧ d = kTup kk ∧ kk ∈ kvs.map (·.1)) ys ((kvs.map fun kv => kTup kv.1).mergeSort leD) → H p = none → p ≠ sysModules → Q (.ref p) (upd H p (.lst ys))
theorem cr_sortDT (hc : X.calm = true) (hu : X.A.units + 64 < cLine) : CallR X (.builtin "sorted") rSortDT := by
  intro pins s σ H xs us Q I r h
  obtain ⟨d, kvs, rfl, hd, ok, q⟩ := h
  rw [Vals.ref1 r]
  obtain ⟨z, hs, ks, pr, o, es, ep, ho, hx, hdt, he, hn⟩ := (show ObjOk X.prog X.w H s.heap d (.dT kvs) from hd.ok I.hok)
  have l1 : es.size = ks.length := size_of_entries he
  have l2 : kvs.length = ks.length := Paired.length pr
  refine Calls.call_function_entry PyProof.Rows.kind_sorted PyProof.Rows.plain_sorted PyProof.Rows.entry_sorted (PyProof.Rows.args_sorted1 _) ?_
  unfold Builtin.«sorted»
  refine wpAny_bind (m := checkCount "sorted" 1 1 _) (wpAny_pure ?_)
  refine wpAny_bind (PySem.W.kdu_collect (A := X.A.in1) (kdl_raw hs hx hdt) (I.ok.hd hc) ho (by omega) fun h' tk acc' kp it => ?_)
  have ea : acc'.toList = ks.map fun x => Value.ref x.2.1 := by
    have hl : acc'.toList.length = ks.length := by rw [Array.length_toList, it.1]; exact l1
    apply List.ext_getElem?
    intro j
    rw [List.getElem?_map]
    cases hj : acc'.toList[j]? with
    | none =>
      have h1 := List.getElem?_eq_none_iff.mp hj
      rw [List.getElem?_eq_none (by omega)]
      rfl
    | some v =>
      obtain ⟨en, hen, hv⟩ := it.2 j v (by rw [← Array.getElem?_toList]; exact hj)
      have qe := entry_at he j
      rw [hen] at qe
      cases hb : ks[j]? with
      | none =>
        rw [hb] at qe
        exact nomatch (show some en = none from qe)
      | some b =>
        rw [hb] at qe
        have e2 : en = entryOfKey (tupleKind (mixKind X.prog X.w)) b := Option.some.inj qe
        rw [hv, e2]
        rfl
  obtain ⟨bs, ebs⟩ : ∃ bs : List Addr, bs = ks.map fun x => x.2.1 := ⟨_, rfl⟩
  have eb : acc'.toList = bs.map Value.ref := by rw [ea, ebs, List.map_map]; rfl
  have isk : IsKeys H kvs bs := by rw [ebs]; exact isKeys_of pr
  have rv : Vals (bs.map V.ref) (bs.map Value.ref) := vals_refs _
  have I1 : Inv X pins σ H { s with heap := h', toks := tk } := I.kept kp
  rw [eb]
  have bl : (bs.map Value.ref).length ≤ sizeLine := by rw [List.length_map, ebs, List.length_map]; omega
  refine wpAny_bind (wpAny_newList ?_ bl)
  have oL : (h'.push (seqObj "list" (bs.map Value.ref).toArray 0)).get? h'.objs.size = some (seqObj "list" (bs.map Value.ref).toArray 0) := Heap.get?_push_size _ rfl
  show wpAny _ _ _ _ _ { s with heap := h'.push (seqObj "list" (bs.map Value.ref).toArray 0), toks := tk }
  have dp := keys_dp (K := X.K) isk
  obtain ⟨as, ra⟩ := Dp.readsAll I1 _ _ _ dp rv
  have hlen : (bs.map Value.ref).length = (kvs.map fun kv => kTup kv.1).length := PySem.SeqAt.ReadsAll.length _ _ _ ra
  have keepC : ∀ b o, h'.get? b = some o → (PySem.W.sortingHeap (h'.push (seqObj "list" (bs.map Value.ref).toArray 0)) h'.objs.size (bs.map Value.ref)).get? b = some o := fun b o e =>
    PySem.W.sortingHeap_old (Nat.ne_of_lt (Heap.lt_size e)) (Heap.get?_push_of_some _ e)
  have ra2 := ReadsAll.keeps keepC ra
  have S := PySem.W.SortsAt.data (prog := X.prog) (w := X.w) (A := X.A.in1.in1) (s := { s with heap := PySem.W.sortingHeap (h'.push (seqObj "list" (bs.map Value.ref).toArray 0)) h'.objs.size (bs.map Value.ref), toks := tk }) (each_reads ra2) ok.al ok.so fun d hd => by
    have h1 := ok.dp d hd
    have h2 : X.A.in1.in1.units = X.A.units + 1 + 1 := rfl
    omega
  have each := PySem.W.sortVals_each (R := fun u d => (u, d) ∈ (bs.map Value.ref).zip (kvs.map fun kv => kTup kv.1)) (rev := false) (κ := PySem.W.dataKind (PySem.W.sortingHeap (h'.push (seqObj "list" (bs.map Value.ref).toArray 0)) h'.objs.size (bs.map Value.ref)) (kvs.map fun kv => kTup kv.1)) PySem.W.keyToks (each_mem2 hlen) (by
    have em := PySem.W.each_mem (each_reads ra2)
    refine PySem.W.EachIs.mono ?_ em
    rintro v d ⟨⟨as, r⟩, hd⟩
    exact PySem.W.dataKind_some ok.al hd r)
  have mem : ∀ u ∈ PySem.W.sortVals (PySem.W.dataKind (PySem.W.sortingHeap (h'.push (seqObj "list" (bs.map Value.ref).toArray 0)) h'.objs.size (bs.map Value.ref)) (kvs.map fun kv => kTup kv.1)) false (bs.map Value.ref) (bs.map Value.ref), ∃ t, u = Value.ref t := fun u hm => by
    obtain ⟨t, _, e⟩ := List.mem_map.mp (PySem.W.sortVals_mem false hm)
    exact ⟨t, e.symm⟩
  refine wpAny_bind (wpAny_holding (wpAny_call_entry PyProof.Rows.slot_list_sort ⟨_, oL, rfl⟩ PyProof.Rows.entry_list_sort
    (PySem.W.list_sort_vals (s := { s with heap := h'.push (seqObj "list" (bs.map Value.ref).toArray 0), toks := tk }) oL S bl ⟨_, rfl, ?_⟩) (PyProof.Rows.args_list_sort _)))
  generalize PySem.W.sortVals (PySem.W.dataKind (PySem.W.sortingHeap (h'.push (seqObj "list" (bs.map Value.ref).toArray 0)) h'.objs.size (bs.map Value.ref)) (kvs.map fun kv => kTup kv.1)) false (bs.map Value.ref) (bs.map Value.ref) = out at each mem ⊢
  obtain ⟨ep', he'⟩ := PyProof.Rows.sortedHeap_at (vs := bs.map Value.ref) (out := out.toArray) oL
  have ol : out.length = (bs.map Value.ref).length := by rw [each.length, List.length_mergeSort, hlen]
  have each2 : EachIs (fun v d => ∃ t kk, v = .ref t ∧ H t = some (.tup (kk.map kV)) ∧ d = kTup kk ∧ kk ∈ kvs.map (·.1)) (out.map backV) ((kvs.map fun kv => kTup kv.1).mergeSort leD) := by
    have e1 : bs.map V.ref = (bs.map Value.ref).map backV := by rw [List.map_map]; rfl
    have := each_back e1 each
    exact PySem.W.EachIs.mono (fun v d h => keys_at isk v d h) this
  refine wpAny_pure ⟨_, rfl, .ref h'.objs.size, upd H h'.objs.size (.lst (out.map backV)), I1.laid (t' := tk) (fun b u e => ?_) (Nat.le_refl _) ⟨by rw [List.length_map, ol]; exact bl, out, ep', vals_back mem, he'⟩, rfl,
    q _ _ each2 (I1.hok.fresh (Nat.le_refl _)) (Nat.ne_of_gt I1.big)⟩
  have hb : b < h'.objs.size := Heap.lt_size e
  rw [PyProof.Rows.sortedHeap_old (Nat.ne_of_lt hb) (by rw [size_push']; exact Nat.lt_succ_of_lt hb)]
  exact Heap.get?_push_of_some _ e
end
end Fv


set_option Elab.async false
set_option linter.all false
set_option maxRecDepth 100000
set_option maxHeartbeats 2000000
/-! own rule: == of two dicts whose keys are tuples and whose values are whole numbers -/
namespace Fv
open PySem PySem.Spec PyProof.Rows L2
section
variable {P : Program} {w : World} {Ky : Type} [DecidableEq Ky] {knd : HeapKind P w Ky} {A : Around} {E : Value → Shared → Prop} {s : Shared}
abbrev XsT (Ky : Type) : Type := List (Ky × Addr × Value)
/-- whether all of the one stand in the other -/
def hitsT (xb : XsT Ky) (l : XsT Ky) (n : Ky × Addr × Value → Int) (m : Ky × Addr × Value → Int) : Bool := l.all fun x => match xb.find? fun y => decide (y.1 = x.1) with
  | some y => decide (n x = m y)
  | none => false
theorem find_nodup {xb : XsT Ky} (nd : (xb.map (·.1)).Nodup) : ∀ {j : Nat} {k : Ky} {p : Addr × Value}, xb[j]? = some (k, p) → xb.find? (fun y => decide (y.1 = k)) = some (k, p) := by
  induction xb with
  | nil => intro j k p h; cases h
  | cons y xb ih =>
    intro j k p h
    rw [List.map_cons, List.nodup_cons] at nd
    cases j with
    | zero =>
      cases h
      rw [List.find?_cons_of_pos (by simp)]
    | succ j =>
      have hm : xb[j]? = some (k, p) := by simpa using h
      have ne : ¬ y.1 = k := fun e => nd.1 (by rw [e]; exact List.mem_map.mpr ⟨(k, p), List.mem_of_getElem? hm, rfl⟩)
      rw [List.find?_cons_of_neg (by simpa using ne)]
      exact ih nd.2 hm
theorem find_no {xb : XsT Ky} {k : Ky} (h : ∀ (j : Nat) (p : Addr × Value), xb[j]? ≠ some (k, p)) : xb.find? (fun y => decide (y.1 = k)) = none := by
  rw [List.find?_eq_none]
  intro y hy e
  obtain ⟨j, hj⟩ := List.mem_iff_getElem?.mp hy
  have e : y.1 = k := of_decide_eq_true e
  exact h j y.2 (by rw [hj, ← e])
theorem sameT {nm : String} {a b : Addr} {xa xb : XsT Ky} {n m : Ky × Addr × Value → Int} {Q : Bool → Shared → Prop} (hu : knd.room A) (ha : (a == sysModules) = false) (hb : (b == sysModules) = false)
    (da : s.heap.DictOfH knd a xa) (db : s.heap.DictOfH knd b xb) (na : ∀ x ∈ xa, ∃ t, x.2.2 = Value.int (n x) t) (nb : ∀ x ∈ xb, ∃ t, x.2.2 = Value.int (m x) t) (h : Q (xa.length == xb.length && hitsT xb xa n m) s) :
    wpAny (model P w) A (Builtin.Dict.samePairs nm a b) Q E s := by
  obtain ⟨oa, ea, pa, goa, _, dda, hea, hia, hna⟩ := da
  obtain ⟨ob, eb, pb, gob, _, ddb, heb, hib, hnb⟩ := db
  have la : ea.size = xa.length := size_of_entries hea
  have lb : eb.size = xb.length := size_of_entries heb
  unfold Builtin.Dict.samePairs Builtin.Dict.showsAll
  rw [if_neg (show ¬ (a == sysModules) = true from fun z => by rw [ha] at z; cases z), if_neg (show ¬ (b == sysModules) = true from fun z => by rw [hb] at z; cases z)]
  refine wpAny_bind (wpAny_pure (wpAny_bind (wpAny_pure (wpAny_bind (wpAny_dictEntries goa dda ?_)))))
  dsimp only
  refine wpAny_bind (wpAny_dictEntries gob ddb ?_)
  by_cases hz : ea.size = eb.size
  case neg =>
    rw [if_pos (by simpa using hz)]
    have f : (xa.length == xb.length) = false := by
      rw [beq_eq_false_iff_ne]
      omega
    rw [f, Bool.false_and] at h
    exact wpAny_bind (wpAny_rule (wpAny_pure h))
  case pos =>
    have f : (xa.length == xb.length) = true := by
      rw [beq_iff_eq]
      omega
    rw [f, Bool.true_and] at h
    rw [if_neg (by rw [hz]; simp)]
    refine wpAny_bind (wpAny_dictEpoch goa dda (wpAny_bind ?_))
    rw [Std.Legacy.Range.forIn_eq_forIn_range']
    simp only [Std.Legacy.Range.size, Nat.sub_zero, Nat.add_sub_cancel, Nat.div_one]
    refine wpAny_forIn_list _ (fun rest q s' => s' = s ∧ q = (none, ()) ∧ ∃ i, i ≤ ea.size ∧ rest = List.range' i (ea.size - i) ∧ hitsT xb xa n m = hitsT xb (xa.drop i) n m) _ ?_ ?_ _ _ ⟨rfl, rfl, 0, Nat.zero_le _, by simp, rfl⟩
    · rintro x rest q s' ⟨rfl, rfl, i, hi, hr, hh⟩
      have lt : i < ea.size := by
        rcases Nat.lt_or_ge i ea.size with z | z
        · exact z
        · rw [Nat.sub_eq_zero_of_le z] at hr
          simp at hr
      have e0 : ea.size - i = (ea.size - (i + 1)) + 1 := by omega
      rw [e0, List.range'_succ] at hr
      injection hr with e1 e2
      subst e1
      refine wpAny_bind (wpAny_dictEntries goa dda ?_)
      obtain ⟨⟨k, p⟩, hk⟩ : ∃ y, xa[x]? = some y := ⟨xa[x]'(by omega), List.getElem?_eq_getElem _⟩
      have hk2 : ea[x]? = some (entryOfKey knd (k, p)) := by rw [entry_at hea, hk]; rfl
      rw [hk2]
      obtain ⟨tv, ev⟩ := na (k, p) (List.mem_of_getElem? hk)
      have dr : xa.drop x = (k, p) :: xa.drop (x + 1) := by
        rw [← List.getElem_cons_drop (h := by omega)]
        rw [List.getElem?_eq_getElem (by omega)] at hk
        rw [Option.some.inj hk]
      have hc : hitsT xb (xa.drop x) n m = ((match xb.find? fun y => decide (y.1 = k) with
          | some y => decide (n (k, p) = m y)
          | none => false) && hitsT xb (xa.drop (x + 1)) n m) := by rw [dr]; rfl
      have isk := hia _ (List.mem_of_getElem? hk)
      show wpAny _ _ (holding [Value.ref p.1, p.2] _ >>= _) _ _ _
      refine wpAny_bind (wpAny_holding (wpAny_bind (wpAny_dictFind_heap hu isk gob ddb heb hib hnb (fun hno => ?_) (fun j pj hj => ?_))))
      · rw [find_no hno] at hc
        rw [hh, hc] at h
        refine wpAny_pure ?_
        show wpAny _ _ (if (!false) = true then _ else _) _ _ _
        rw [if_pos (by decide)]
        exact wpAny_pure (wpAny_pure h)
      · rw [find_nodup hnb hj] at hc
        refine wpAny_bind (wpAny_dictEntries gob ddb ?_)
        have hj2 : eb[j]? = some (entryOfKey knd (k, pj)) := by rw [entry_at heb, hj]; rfl
        rw [hj2]
        obtain ⟨tu, eu⟩ := nb (k, pj) (List.mem_of_getElem? hj)
        show wpAny _ _ (holding [pj.2] (eqBool p.2 pj.2)) _ _ _
        have ev : p.2 = Value.int (n (k, p)) tv := ev
        have eu : pj.2 = Value.int (m (k, pj)) tu := eu
        rw [ev, eu]
        refine wpAny_holding (SeqAt.EqAt.int_int _ _ _ _ _ _ _ _ ?_)
        have hc : hitsT xb (xa.drop x) n m = (decide (n (k, p) = m (k, pj)) && hitsT xb (xa.drop (x + 1)) n m) := hc
        by_cases eq : n (k, p) = m (k, pj)
        · have hq : ((n (k, p)) == (m (k, pj))) = true := by simpa using eq
          rw [hq]
          rw [decide_eq_true eq, Bool.true_and] at hc
          show wpAny _ _ (if (!true) = true then _ else _) _ _ _
          rw [if_neg (by decide)]
          refine wpAny_bind (wpAny_dictEpoch goa dda ?_)
          rw [if_neg (by simp)]
          exact wpAny_pure ⟨rfl, rfl, x + 1, lt, e2, hh.trans hc⟩
        · have hq : ((n (k, p)) == (m (k, pj))) = false := by simpa using eq
          rw [hq]
          rw [decide_eq_false eq, Bool.false_and] at hc
          rw [hh, hc] at h
          show wpAny _ _ (if (!false) = true then _ else _) _ _ _
          rw [if_pos (by decide)]
          exact wpAny_pure (wpAny_pure h)
    · rintro q s' ⟨rfl, rfl, i, hi, hr, hh⟩
      have e : i = ea.size := by
        rcases Nat.lt_or_ge i ea.size with z | z
        · have e0 : ea.size - i = (ea.size - (i + 1)) + 1 := by omega
          rw [e0, List.range'_succ] at hr
          cases hr
        · omega
      rw [e, la, List.drop_length] at hh
      rw [hh] at h
      exact wpAny_pure h
theorem rcT {a b : Addr} {xa xb : XsT Ky} {n m : Ky × Addr × Value → Int} {E Q : Value → Shared → Prop} (hu : knd.room A.in1) (hl : A.units < cLine) (ha : (a == sysModules) = false) (hb : (b == sysModules) = false)
    (da : s.heap.DictOfH knd a xa) (db : s.heap.DictOfH knd b xb) (na : ∀ x ∈ xa, ∃ t, x.2.2 = Value.int (n x) t) (nb : ∀ x ∈ xb, ∃ t, x.2.2 = Value.int (m x) t) (h : Q (.bool (xa.length == xb.length && hitsT xb xa n m)) s) :
    wpAny (model P w) A (richCompare .Eq (.ref a) (.ref b)) Q E s := by
  refine wpAny_richCompare_same_room (op := .Eq) da.typeIs db.typeIs PySem.F.slot_dict_eq (wpAny_call_entry PySem.F.slot_dict_eq da.typeIs PySem.F.entry_dict_eq ?_ (PySem.F.args_dict_eq_2 _ _)) hl
  show wpAny _ _ (Builtin.Dict.dictSlotArgs "__eq__" ⟨[.ref a, .ref b], []⟩ >>= _) _ _ s
  refine wpAny_bind ?_
  unfold Builtin.Dict.dictSlotArgs
  refine wpAny_bind (wpAny_notOrdered_dict da.typeIs ?_)
  show wpAny _ _ (pure (Value.ref a, Value.ref b)) _ _ s
  refine wpAny_pure ?_
  refine wpAny_bind (wpAny_isInstance (T := "dict") db.typeIs PySem.F.sub_dict_dict ?_)
  simp only [Bool.not_true, Bool.false_eq_true, if_false]
  refine wpAny_bind (wpAny_pure (wpAny_bind (wpAny_pure ?_)))
  refine wpAny_bind (sameT hu ha hb da db na nb ?_)
  refine wpAny_pure ⟨_, rfl, ?_, ?_⟩
  · exact fun x => nomatch x
  · simpa using h
end
/-- the number that stands there -/
def numOf : Value → Int
  | .int i _ => i
  | _ => 0
/-- both hold the same pairs -/
def eqDT (ka kb : List (List Key × V)) : Bool := ka.length == kb.length && ka.all fun kv => decide (valV kb kv.1 = some kv.2)
def rEqDT (g : Bool → Bool) : R2 := fun x y H Q => ∃ (a b : Addr) (ka kb : List (List Key × V)), x = .ref a ∧ y = .ref b ∧ Rd H a (.dT ka) ∧ Rd H b (.dT kb) ∧ (∀ kv ∈ ka, ∃ n, kv.2 = .int n) ∧ (∀ kv ∈ kb, ∃ n, kv.2 = .int n) ∧ Q (.bl (g (eqDT ka kb))) H
theorem ints_at {H : Hp} : ∀ {kvs : List (List Key × V)} {xs : List (List Key × Addr × Value)}, KT H kvs xs → (∀ kv ∈ kvs, ∃ n, kv.2 = .int n) → ∀ x ∈ xs, ∃ t, x.2.2 = Value.int (numOf x.2.2) t
  | _, _, .nil, _, x, h => absurd h List.not_mem_nil
  | _, _, .cons r t, g, x, h => by
    rcases List.mem_cons.mp h with e | e
    · subst e
      obtain ⟨n, hn⟩ := g _ List.mem_cons_self
      have r3 := r.2.2
      rw [hn] at r3
      obtain ⟨t, e⟩ := r3
      rw [e]
      exact ⟨t, rfl⟩
    · exact ints_at t (fun kv hk => g kv (List.mem_cons_of_mem _ hk)) x e
theorem find_at {H : Hp} (k : List Key) : ∀ {kvs : List (List Key × V)} {xs : List (List Key × Addr × Value)}, KT H kvs xs → (∀ kv ∈ kvs, ∃ n, kv.2 = .int n) →
    (xs.find? fun y => decide (y.1 = k)).map (fun y => V.int (numOf y.2.2)) = valV kvs k
  | _, _, .nil, _ => rfl
  | (kk, v) :: kvs, (kq, p) :: xs, .cons r t, g => by
    have ih := find_at k t (fun kv hk => g kv (List.mem_cons_of_mem _ hk))
    obtain ⟨e1, e2, e3⟩ := r
    have e1 : kk = kq := e1
    subst e1
    obtain ⟨n, hn⟩ := g _ List.mem_cons_self
    have hn : v = .int n := hn
    have e3 : RelV v p.2 := e3
    rw [hn] at e3
    obtain ⟨tt, et⟩ := e3
    unfold valV at ih ⊢
    by_cases e : kk = k
    · rw [List.find?_cons_of_pos (by simpa using e), List.find?_cons_of_pos (by simpa using e)]
      show some (V.int (numOf p.2)) = some v
      rw [et, hn]
      rfl
    · rw [List.find?_cons_of_neg (by simpa using e), List.find?_cons_of_neg (by simpa using e)]
      exact ih
theorem hits_at {H : Hp} {kb : List (List Key × V)} {xb : List (List Key × Addr × Value)} (rb : KT H kb xb) (gb : ∀ kv ∈ kb, ∃ n, kv.2 = .int n) : ∀ {ka : List (List Key × V)} {xa : List (List Key × Addr × Value)}, KT H ka xa → (∀ kv ∈ ka, ∃ n, kv.2 = .int n) →
    hitsT xb xa (fun x => numOf x.2.2) (fun x => numOf x.2.2) = ka.all fun kv => decide (valV kb kv.1 = some kv.2)
  | _, _, .nil, _ => rfl
  | (kk, v) :: ka, (kq, p) :: xa, .cons r t, g => by
    have ih := hits_at rb gb t (fun kv hk => g kv (List.mem_cons_of_mem _ hk))
    obtain ⟨e1, e2, e3⟩ := r
    have e1 : kk = kq := e1
    subst e1
    obtain ⟨n, hn⟩ := g _ List.mem_cons_self
    have hn : v = .int n := hn
    have e3 : RelV v p.2 := e3
    rw [hn] at e3
    obtain ⟨tt, et⟩ := e3
    unfold hitsT at ih ⊢
    rw [List.all_cons, List.all_cons, ih]
    dsimp only
    rw [← find_at kk rb gb, hn]
    have hp : numOf p.2 = n := by rw [et]; rfl
    simp only [hp]
    congr 1
    cases xb.find? fun y => decide (y.1 = kk) with
    | none => simp
    | some y =>
      show decide (n = numOf y.2.2) = decide (some (V.int (numOf y.2.2)) = some (V.int n))
      rw [decide_eq_decide]
      constructor
      · intro h
        rw [h]
      · intro h
        injection h with h
        injection h with h
        exact h.symm
section
variable {X : Cx}
theorem op_eqDT (hu : X.A.units + 64 < cLine) : OpR X (compareOp .Eq) (rEqDT fun b => b) := by
  intro pins s σ H x y v u Q I rx ry h
  obtain ⟨a, b, ka, kb, rfl, rfl, ha, hb, na, nb, q⟩ := h
  cases rx
  cases ry
  obtain ⟨_, h1, xa, ra, da⟩ := dt_rd I.hok ha
  obtain ⟨_, h2, xb, rb, db⟩ := dt_rd I.hok hb
  refine rcT (n := fun x => numOf x.2.2) (m := fun x => numOf x.2.2) (tupleKind_room_in1 (by omega)) (by omega) h1 h2 da db (ints_at ra na) (ints_at rb nb) ?_
  rw [hits_at rb nb ra na, ← Paired.length ra, ← Paired.length rb]
  exact ⟨.bl _, H, I, rfl, q⟩
end
end Fv


set_option Elab.async false
set_option linter.all false
set_option maxRecDepth 100000
set_option maxHeartbeats 4000000
/-! list(x) and x = [..] at none of the first places -/
namespace Fv
open PySem PySem.Spec PyProof.Rows L2
/-- list(x) of a list: a new list at none of the first places -/
def rListL (K : PySem.W.Frag) : List V → Hp → VK → Prop := fun xs H Q => ∃ p ys, xs = [.ref p] ∧ SqL K H p ys ∧ ∀ l, H l = none → l ≠ sysModules → Q (.ref l) (upd H l (.lst ys))
theorem call_listL {X : Cx} : CallR X (.type "list") (rListL X.K) := by
  intro pins s σ H xs us Q I r h
  obtain ⟨p, ys, ex, hT, q⟩ := h
  subst ex
  obtain ⟨v, ev, rv⟩ := vals1 r
  subst ev
  obtain rfl : v = Value.ref p := rv
  obtain ⟨items, ri, pl, room⟩ := I.list hT
  obtain ⟨ob, hob, hcl, cap, hda⟩ := pl.isList
  have hn := ri.length
  refine call_list_seq p (.inl rfl) hob hcl hda (fun hp cp keep new => ?_) (by simp only [List.size_toArray] <;> omega)
  have J : Inv X pins σ (upd H s.heap.objs.size (.lst ys)) { s with heap := hp } := I.laid (t' := s.toks) keep (Nat.le_refl _) ⟨room, items, cp, ri, new⟩
  exact ⟨.ref _, _, J, rfl, q _ (I.hok.fresh (Nat.le_refl _)) (Nat.ne_of_gt I.big)⟩
end Fv
namespace L2
open PySem PySem.Spec PyProof.Rows
variable {X : Cx}
/-! ### name = [..] on one line, the list at none of the first places -/
theorem lcB_core {pins : List (Addr × Obj)} {s : Shared} {σ : L2.St} {H : Hp} {Q : VK} {elt tg iter : Expr} {ifs : List Expr} {scope : Scope} {own : List (PySem.Str × Nat)} {pos pos2 : Pos} {wi : TI} {g : TG} {tt : TT} {te : TE} {use : Option (Value → Sem Unit)} {Qf : Value → Shared → Prop}
    (hc : X.calm = true) (hN : X.N.Nodup) (I : Inv X pins σ H s) (hi : PI X tg iter wi) (ok : BlkOk X.N X.env.scope scope own)
    (hg : ∀ (s : Shared) (H : Hp) (C : Addr) (cl : List (PySem.Str × Addr)) (fp : List Addr), PG (X.blk s H scope (compEnvC scope cl C X.env) fp) tg g) (ht : ∀ (s : Shared) (H : Hp) (C : Addr) (cl : List (PySem.Str × Addr)) (fp : List Addr), PTs (X.blk s H scope (compEnvC scope cl C X.env) fp) ifs tt)
    (he : ∀ (s : Shared) (H : Hp) (C : Addr) (cl : List (PySem.Str × Addr)) (fp : List Addr), PE (X.blk s H scope (compEnvC scope cl C X.env) fp) elt te) (hs : ∀ x, foldedSetIterable iter X.env x = pure x)
    (h : Fv.tLcB wi g tt te (own.map (·.2)) σ H Q)
    (hRR : ∀ D C s' m H', Inv X pins σ H' s' → Q (.ref D) H' → s'.heap.Ns C m → FpOk X pins H' C → compPost (model X.prog X.w) X.A X.xe use Qf (.ref D) C (.ok .next) s') :
    wpAny (model X.prog X.w) X.A (comprehension (.ListComp elt [⟨tg, iter, ifs, 0⟩] scope pos) scope X.env pos2 (newList []) false (eval iter X.env) use) Qf X.xe s := by
  have free : ∀ y ∈ scope.names, y.2 = .free → ∃ c, X.env.cells.lookup y.1 = some c := fun y hy e => (ok.free y hy e).elim (fun k => I.ok.has _ (.inl k)) fun k => I.ok.has _ (.inr k)
  refine wpAny_comprehension_free (use := use) rfl hs (closure_ok free) ok.kind (fun y hy e => by rw [ok.uniq y hy, e]) (thn (hi.run pins s σ H _ I h) fun xv s1 hx => thn hx fun itv s2 ⟨it, fp, tn, J, H2, e2, I2, T, st2, f2, q⟩ => ?_)
  subst e2
  refine wpAny_newObj_type (newEnv_comp ?_) (by show 0 ≤ sizeLine; decide)
  have nD : H2 s2.heap.objs.size = none := I2.hok.fresh (Nat.le_refl _)
  have big := Nat.ne_of_gt I2.big
  obtain ⟨W, ⟨m0, w0⟩, turn⟩ := q _ nD big
  have I3 : Inv X pins σ (upd H2 s2.heap.objs.size (.lst [])) { s2 with heap := s2.heap.push { cls := .type "list", data := .seq ([] : List Value).toArray } } :=
    I2.laid (t' := s2.toks) (fun b o e => Heap.get?_push_of_some _ e) (Nat.le_refl _) ⟨Nat.zero_le _, [], 0, .nil, Heap.get?_push_size _ rfl⟩
  have szf : ∀ b ∈ fp, b < s2.heap.objs.size := fun b hb => let ⟨_, e, _⟩ := T.obj _ _ st2 b hb; Heap.lt_size e
  obtain ⟨D, eD⟩ : ∃ D, D = s2.heap.objs.size := ⟨_, rfl⟩
  rw [← eD] at nD w0 turn I3 szf ⊢
  have k3 : ∀ b o, s2.heap.get? b = some o → (s2.heap.push { cls := .type "list", data := .seq ([] : List Value).toArray }).get? b = some o := fun b o e => Heap.get?_push_of_some _ e
  have z3 : (s2.heap.push { cls := .type "list", data := .seq ([] : List Value).toArray }).objs.size = D + 1 := by rw [Heap.size_push, eD]
  generalize e3 : ({ s2 with heap := s2.heap.push { cls := .type "list", data := .seq ([] : List Value).toArray } } : Shared) = s3 at I3 ⊢
  have h3 : s3.heap = s2.heap.push { cls := .type "list", data := .seq ([] : List Value).toArray } := by rw [← e3]
  rw [← h3] at k3 z3
  obtain ⟨H3, eH⟩ : ∃ H3, H3 = upd H2 D (.lst []) := ⟨_, rfl⟩
  have fps : ∀ b ∈ fp, FpOk X pins H3 b ∧ b < s3.heap.objs.size := fun b hb => by
    refine ⟨⟨?_, (f2 b hb).2⟩, by rw [z3]; exact Nat.lt_succ_of_lt (szf b hb)⟩
    rw [eH, upd_ne (Nat.ne_of_lt (szf b hb))]
    exact (f2 b hb).1
  rw [← eH] at w0 I3
  have b4 := block_start I3 ok hN fps
  have st3 : tn 0 s3.heap := T.keep _ _ _ st2 fun b _ o e => k3 b o e
  show codeAny _ _ (.compStart (.ListComp elt [⟨tg, iter, ifs, 0⟩] scope pos) 0 (.ref it) (.ref D) (compEnvC scope (cellsFrom (s3.heap.objs.size + 1) scope.names (cloFrom X.env.cells scope.names [])) s3.heap.objs.size X.env)) (compPost (model X.prog X.w) X.A X.xe use Qf (.ref D) s3.heap.objs.size) { s3 with heap := pushCells (s3.heap.push { cls := .type "dict", data := .dict #[] }) scope.names }
  have G1 := hg s3 H3 s3.heap.objs.size (cellsFrom (s3.heap.objs.size + 1) scope.names (cloFrom X.env.cells scope.names [])) fp
  have G2 := ht s3 H3 s3.heap.objs.size (cellsFrom (s3.heap.objs.size + 1) scope.names (cloFrom X.env.cells scope.names [])) fp
  have G3 := he s3 H3 s3.heap.objs.size (cellsFrom (s3.heap.objs.size + 1) scope.names (cloFrom X.env.cells scope.names [])) fp
  generalize ece : compEnvC scope (cellsFrom (s3.heap.objs.size + 1) scope.names (cloFrom X.env.cells scope.names [])) s3.heap.objs.size X.env = ce at b4 G1 G2 G3 ⊢
  have lc : ce.locals = s3.heap.objs.size := by rw [← ece]; rfl
  generalize e4 : ({ s3 with heap := pushCells (s3.heap.push { cls := .type "dict", data := .dict #[] }) scope.names } : Shared) = s4 at b4 ⊢
  have st4 : tn 0 s4.heap := T.keep _ _ _ st3 fun b _ o e => by rw [← e4]; exact pushCells_keeps _ _ _ _ (Heap.get?_push_of_some _ e)
  have still : ∀ {σ' : L2.St} {H' : Hp} {s' : Shared}, Inv (X.blk s3 H3 scope ce fp) [] σ' H' s' → (∀ b ∈ fp, H' b = none) → ∀ b ∈ fp, FpOk (X.blk s3 H3 scope ce fp) [] H' b := fun {σ' H' s'} J hn b hb =>
    ⟨hn b hb, (J.ok.exf b hb).1, J.ok.exfs b hb, Or.inl hb, fun x c e => (J.ok.exf b hb).2 x c e, fun p hp => by simp at hp⟩
  have walk : codeAny (model X.prog X.w) X.A (.compLoop (.ListComp elt [⟨tg, iter, ifs, 0⟩] scope pos) 0 (.ref it) (.ref D) ce) (compPost (model X.prog X.w) X.A X.xe use Qf (.ref D) s3.heap.objs.size) s4 := by
    refine compLoop_any (fun n s' => ∃ (i : Nat) (H' : Hp), Inv (X.blk s3 H3 scope ce fp) [] (wipe σ (own.map (·.2))) H' s' ∧ tn i s'.heap ∧ (∀ b ∈ fp, H' b = none) ∧ W i n H') (fun n s5 ⟨i, H5, I5, st5, n5, w5⟩ => ?_) m0 ⟨0, H3, b4, st4, fun b hb => (fps b hb).1.1, w0⟩
    rcases turn i n H5 w5 with ⟨stop, qq⟩ | ⟨go, Nx, hNx, step⟩
    · refine thnF (T.done (X.blk s3 H3 scope ce fp) rfl rfl rfl hc i [] s5 _ H5 (fun _ _ => False) I5 (still I5 n5) st5 stop) fun r s6 ⟨hr, I6⟩ => ?_
      subst hr
      have J := I3.call' (ch := fp) I6.os I6.base I6.hok I6.bare fun b hb => let f := (fps b hb).1.2; ⟨f.2.2.1, f.1, f.2.2.2.1, f.2.2.2.2⟩
      have nC : H5 s3.heap.objs.size = none := lc ▸ I6.free
      obtain ⟨m, hn, _⟩ := I6.loc
      have hn' : s6.heap.Ns s3.heap.objs.size m := lc ▸ (show s6.heap.Ns ce.locals m from hn)
      exact hRR D s3.heap.objs.size s6 m H5 J qq hn' (I3.fpOk (Nat.le_refl _) nC)
    · refine thnF (T.item (X.blk s3 H3 scope ce fp) rfl rfl rfl hc i [] s5 _ H5 (fun _ _ => False) I5 (still I5 n5) st5 go) fun r s6 ⟨u, hr, h6⟩ => ?_
      subst hr
      refine thnF h6 fun _ s7 ⟨x, H7, I7, r7, y7, st7, n7⟩ => ?_
      have P7 := I7.pinned (still I7 n7) (T.obj _ _ st7)
      refine thnF (G1.run _ s7 _ H7 x u _ P7 r7 (step x H7 y7)) fun _ s8 ⟨σ8, H8, I8, hw8, q8⟩ => thnF (G2.run _ s8 σ8 H8 _ I8 q8) fun b s9 ⟨H9, I9, q9⟩ => ?_
      have fin : ∀ {s' : Shared} {H' : Hp}, Inv (X.blk s3 H3 scope ce fp) ([] ++ pinsAt fp s7.heap) σ8 H' s' → Nx H' → ∃ m, m < n ∧ ∃ (i : Nat) (H' : Hp), Inv (X.blk s3 H3 scope ce fp) [] (wipe σ (own.map (·.2))) H' s' ∧ tn i s'.heap ∧ (∀ b ∈ fp, H' b = none) ∧ W i m H' := fun {s' H'} J nx => by
        obtain ⟨m', hm, w'⟩ := hNx H' nx
        have kept : ∀ b ∈ fp, ∀ o, s7.heap.get? b = some o → s'.heap.get? b = some o ∧ H' b = none := fun b hb o e => by
          have z := J.pin (b, o) (List.mem_append_right _ (List.mem_append_right _ (mem_pinsAt hb e)))
          exact ⟨z.1, z.2.1⟩
        refine ⟨m', hm, i + 1, H', (J.unpinned (pins := [])).weak (by rw [← hw8, wipe_length]) (fun j v e => (wipe_some (hw8 ▸ e)).1), T.keep _ _ _ st7 fun b hb o e => (kept b hb o e).1, fun b hb => ?_, w'⟩
        obtain ⟨o, e, _⟩ := T.obj _ _ st7 b hb
        exact (kept b hb o e).2
      cases b with
      | false =>
        rw [if_neg Bool.false_ne_true] at q9 ⊢
        exact fin I9 q9
      | true =>
        rw [if_pos rfl] at q9 ⊢
        exact thnF (G3.run _ s9 σ8 H9 _ I9 q9) fun z s10 ⟨yv, H10, I10, r10, acc, hD10, room, nx⟩ => app_ok (X := X.blk s3 H3 scope ce fp) I10 hD10 room r10 fun s11 I11 => fin I11 nx
  exact codeAny_compStart_list walk (T.self X.A 0 _ _ _ st4 walk)
theorem ps_setLcB {i : Nat} {y : PySem.Str} {py : Pos} {elt tg iter : Expr} {ifs : List Expr} {scope : Scope} {own : List (PySem.Str × Nat)} {pos spos : Pos} {wi : TI} {g : TG} {tt : TT} {te : TE} (hc : X.calm = true) (hN : X.N.Nodup) (hy : X.N[i]? = some y) (hyl : X.env.scope.names.lookup y = some .local)
    (hsw : swapsWith (.ListComp elt [⟨tg, iter, ifs, 0⟩] scope pos) (some (.Name y py)) spos.line X.env = pure true) (hi : PI X tg iter wi) (ok : BlkOk X.N X.env.scope scope own)
    (hg : ∀ (s : Shared) (H : Hp) (C : Addr) (cl : List (PySem.Str × Addr)) (fp : List Addr), PG (X.blk s H scope (compEnvC scope cl C X.env) fp) tg g) (ht : ∀ (s : Shared) (H : Hp) (C : Addr) (cl : List (PySem.Str × Addr)) (fp : List Addr), PTs (X.blk s H scope (compEnvC scope cl C X.env) fp) ifs tt)
    (he : ∀ (s : Shared) (H : Hp) (C : Addr) (cl : List (PySem.Str × Addr)) (fp : List Addr), PE (X.blk s H scope (compEnvC scope cl C X.env) fp) elt te) (hs : ∀ x, foldedSetIterable iter X.env x = pure x := by intro _; rfl) :
    PS X (.Assign [.Name y py] (.ListComp elt [⟨tg, iter, ifs, 0⟩] scope pos) spos) (tAsg (Fv.tLcB wi g tt te (own.map (·.2))) (gName i)) := by
  constructor
  intro pins s σ H D I h
  rw [exec_Assign_Name_used _ _ _ _ hsw]
  refine wpAny_bind (wpAny_standAt (wpAny_bind (wpAny_bind (thn (lcB_core (Qf := fun _ s' => SP X pins D .next s') hc hN I hi ok hg ht he hs (show Fv.tLcB wi g tt te (own.map (·.2)) σ H (fun x H1 => gName i x σ H1 D.nx) from h) ?_) fun _ s' hq => wpAny_pure (wpAny_pure hq)))))
  intro L C s' m H' J q hn f
  obtain ⟨f0, f1, f2, f3, f4, f5⟩ := f
  show wpAny _ _ (assign (.Name y py) X.env (.ref L)) _ _ _
  refine wpAny_assign_Name (store_ok2 (v := V.ref L) J hN hy (.inl hyl) rfl (fun s2 J2 ⟨a, sb, ha⟩ => ?_) (.inr hyl))
  have nC : C ≠ a := ha.elim (fun z => z ▸ f1) fun z e => f4 y a z e.symm
  exact ⟨m, hn.sameBut sb nC, fun h3 sb3 => ⟨_, H', J2.turned (t' := s2.toks) (fun b o hb e => (sb3.2 b hb).trans e) f0 f1 f3 f4 f5, q⟩⟩
end L2


set_option Elab.async false
set_option linter.all false
set_option maxRecDepth 100000
set_option maxHeartbeats 4000000
namespace Fv
open PySem PySem.Spec PyProof.Rows L2
/-! ### Facts that stand: names(), bounds() -/
abbrev sNamesM : Stmt := inClass (top 18) 1
abbrev sBounds : Stmt := inClass (top 18) 3
/-- a table over the names -/
structure TIn (zs : List Str) (T : M.Tb Str) : Prop where
  few : zs.length ≤ 6
  off : ∀ x, T x x = none
  in_ : ∀ x y c, T x y = some c → SrcIn zs x ∧ SrcIn zs y
theorem TIn.len {zs : List Str} {T : M.Tb Str} (h : TIn zs T) {kvs : List (List Key × V)} (hT : TbL kvs T) : kvs.length ≤ 49 := by
  have h1 := hT.few (("" : Str) :: zs) fun x y c e => by
    obtain ⟨a, b⟩ := h.in_ x y c e
    exact ⟨List.mem_cons.mpr a, List.mem_cons.mpr b⟩
  have h2 : (("" : Str) :: zs).length ≤ 7 := Nat.succ_le_succ h.few
  have h3 := Nat.mul_le_mul h2 h2
  omega
theorem TIn.of {zs : List Str} {T : M.Tb Str} {L : List FaT} {p : Str → Int} {Z : List Str} (hl : zs.length ≤ 6) (cl : M.Cl L p Z T) (hin : ∀ f ∈ L, SrcIn zs f.1 ∧ SrcIn zs f.2.1) : TIn zs T where
  few := hl
  off := cl.off
  in_ := fun x y c e => by
    obtain ⟨⟨y', c', h1, _⟩, x', c'', h2, _⟩ := cl.ends x y c e
    exact ⟨(hin _ h1).1, (hin _ h2).2⟩
def faOf : PyData → FaT
  | .tuple [.str x, .str y, .int c] => (x, y, c)
  | _ => ("", "", 0)
theorem faOf_faD (f : FaT) : faOf (faD f) = f := rfl
theorem fa_ok (L : List FaT) : SortOk (L.map faD) where
  al := fun d hd e he => by
    obtain ⟨f, _, rfl⟩ := List.mem_map.mp hd
    obtain ⟨g, _, rfl⟩ := List.mem_map.mp he
    simp [faD, PySem.W.alike, PySem.W.alikeAll]
  so := .inl fun d hd => by
    obtain ⟨f, _, rfl⟩ := List.mem_map.mp hd
    exact ⟨_, _, rfl⟩
  dp := fun d hd => by
    obtain ⟨f, _, rfl⟩ := List.mem_map.mp hd
    simp [faD, PyData.depth, PyData.depthAll]
/-- the row of a table: each pair once, in order -/
structure Bds (T : M.Tb Str) (L : List FaT) : Prop where
  mem : ∀ x y c, (x, y, c) ∈ L ↔ T x y = some c
  nd : (L.map fun f => (f.1, f.2.1)).Nodup
  so : (L.map faD).Pairwise fun a b => leD a b = true
  len : L.length ≤ 49
theorem ents_nd {kvs : List (List Key × V)} {T : M.Tb Str} (h : TbL kvs T) : ((ents kvs).map fun f => (f.1, f.2.1)).Nodup := by
  have e : kvs.map (·.1) = ((ents kvs).map fun f => (f.1, f.2.1)).map fun q => kP q.1 q.2 := by
    unfold ents
    rw [List.map_map, List.map_map]
    refine List.map_congr_left fun kv hkv => ?_
    obtain ⟨x, y, c, rfl, _⟩ := h.form kv hkv
    rfl
  have nd := h.nd
  rw [e] at nd
  exact (List.pairwise_map.mp nd).imp fun h z => h (by rw [z])
theorem Its.dp {K : PySem.W.Frag} {H : Hp} : ∀ {xs : List V} {L : List FaT}, Its H xs L → DpAll K H xs (L.map faD)
  | [], [], _ => .nil
  | [], f :: L, h => by have := h.len; simp at this
  | x :: xs, [], h => by have := h.len; simp at this
  | x :: xs, f :: L, h => by
    obtain ⟨f', hf, t, rfl, ht⟩ := h.at_ 0 x rfl
    cases hf
    refine .cons (.tup (SqT.of ht) (.cons (.str _) (.cons (.str _) (.cons (.int _) .nil)))) (Its.dp ⟨?_, fun i y e => ?_⟩)
    · have := h.len
      simpa using this
    · have := h.at_ (i + 1) y (by simpa using e)
      simpa using this
def spNamesM (C : Addr) : Sp := fun vs H Q _ => ∃ (x : Addr) (zs : List Str) (T : M.Tb Str), vs = [.ref x] ∧ FacAt C H x zs T ∧ ∀ p, H p = none → p ≠ sysModules → Q (.ref p) (upd H p (.lst (zs.map V.str)))
def spBounds (C : Addr) : Sp := fun vs H Q _ => ∃ (x : Addr) (zs : List Str) (T : M.Tb Str), vs = [.ref x] ∧ FacAt C H x zs T ∧ TIn zs T ∧ ∀ p xs L H', H p = none → p ≠ sysModules → Same H H' → H' p = some (.lst xs) → Its H' xs L → Bds T L → Q (.ref p) H'
section
variable {P : Program} {w : World} {K : PySem.W.Frag} {mg : Str → Option Value} {base : Heap} {C : Addr}
theorem scNm : FnScope ["self"] ["self"] (defScope sNamesM) := ⟨rfl, rfl, rfl, by decide +kernel, rfl, by decide +kernel, by decide +kernel⟩
theorem ok_namesm {f : Addr} {fd : FuncData} (T : FacC K C) (F : Fun K "names" "Facts.names" sNamesM f fd) (mL : mg "list" = none) : FnOk P w K mg base CX0 1 f fd ["self"] (spNamesM C) := by
  refine F.ok scNm (fun vs H Q E h => ?_) (fun cdv A outer s H vs Q E hr h => ?_)
  · obtain ⟨x, zs, T0, rfl, _⟩ := h
    rfl
  · obtain ⟨x, zs, T0, rfl, ⟨n, dx, q0, kvs, h1, h4, h5, h6, h7⟩, q⟩ := h
    refine ⟨_, pss_one (ps_ret (pe_callTy (r := rListL K) call_listL (by rfl) mL boot_list (pa_cons (pe_fld (pv 0) rfl) pa_nil))), ?_⟩
    exact ⟨_, rfl, x, C, dx, _, _, rfl, h1, T.cl, T.n1, rfl, n, _, rfl, SqL.of h4, fun l nl wl => q l nl wl⟩
abbrev nBd : List Str := ["self", "x", "y", "c"]
theorem scBd : FnScope nBd ["self"] (defScope sBounds) := ⟨rfl, rfl, rfl, by decide +kernel, rfl, by decide +kernel, by decide +kernel⟩
theorem ok_bounds {f : Addr} {fd : FuncData} (T : FacC K C) (F : Fun K "bounds" "Facts.bounds" sBounds f fd) (mo : mg "sorted" = none) : FnOk P w K mg base CX0 1 f fd ["self"] (spBounds C) := by
  refine F.ok scBd (fun vs H Q E h => ?_) (fun cdv A outer s H vs Q E hr h => ?_)
  · obtain ⟨x, zs, T0, rfl, _⟩ := h
    rfl
  · obtain ⟨x, zs, T0, rfl, ⟨n, dx, q0, kvs, h1, h4, h5, h6, h7⟩, ti, q⟩ := h
    have hu := hr.units
    refine ⟨_, pss_one (ps_ret (pe_callB (r := rSortD K) (cr_sortD (by exact hu)) (by rfl) mo (by decide +kernel) (pa_cons
      (pe_lock (pe_lc (own := [("x", 1), ("y", 2), ("c", 3)]) (g := gTup K 2 (gCons (gTup K 2 (gCons (gName 1) (gCons (gName 2) gNil))) (gCons (gName 3) gNil))) (tt := tYes) rfl scBd.nd (pi_itemsT (pe_fld (pv 0) rfl)) (blkOk_by (N := nBd) (sc := defScope sBounds) (by decide +kernel))
        (fun _ _ _ _ _ => pg_tup (by rfl) (pgs_cons (pg_tup (by rfl) (pgs_cons (pg_name (i := 1) scBd.nd rfl (.inl rfl)) (pgs_cons (pg_name (i := 2) scBd.nd rfl (.inl rfl)) pgs_nil))) (pgs_cons (pg_name (i := 3) scBd.nd rfl (.inl rfl)) pgs_nil)))
        (fun _ _ _ _ _ => pts_nil) (fun _ _ _ _ _ => pe_tup (pa_cons (pv 1) (pa_cons (pv 2) (pa_cons (pv 3) pa_nil)))))) pa_nil))), ?_⟩
    have kk := ti.len h7
    have xq : x ≠ q0 := ne_of h1 h6 (by intro z; cases z)
    refine ⟨q0, .dT kvs, h6, True.intro, fun od => ?_⟩
    refine ⟨_, rfl, x, C, dx, _, _, rfl, by rw [upd_ne xq]; exact h1, T.cl, T.n2, rfl, q0, od, kvs, rfl, upd_same, fun D nD => ?_⟩
    obtain ⟨Dq, D1⟩ := locked_new nD
    refine lc_it walk_itemsT (fun j H2 => Same (upd H q0 (.frz od (.dT kvs))) H2 ∧ ∃ xs, H2 D = some (.lst xs) ∧ Its H2 xs ((ents kvs).take j))
      ⟨same_upd nD, [], upd_same, .nil⟩ (fun j H2 _ h => h.1 _ _ upd_same) ?_ ?_
    · rintro j x H2 H6 hj ⟨s5, xs2, e2, p2⟩ ⟨N1, kq, kk2, val, hkv, rfl, nN, hkq, rfl⟩
      obtain ⟨fx, fy, fc, rfl, rfl, hT2, hf⟩ := h7.item hkv
      have sN := same_upd (o := .tup [.ref kq, .int fc]) nN
      refine ⟨N1, _, rfl, SqT.of upd_same, rfl, _, _, rfl, ⟨kq, _, rfl, SqT.of (sN _ _ hkq), rfl, _, _, rfl, _, _, rfl, rfl, _, _, rfl, rfl, rfl, ?_⟩⟩
      refine ⟨_, rfl, _, rfl, _, rfl, by show 3 ≤ sizeLine; decide, fun t nt => ?_⟩
      have sT := sN.trans (same_upd (o := .tup [.str fx, .str fy, .int fc]) nt)
      have e1 : (ents kvs).take (j + 1) = (ents kvs).take j ++ [(fx, fy, fc)] := by rw [List.take_succ, hf]; rfl
      refine ⟨xs2, sT _ _ e2, small6k (by rw [p2.len, List.length_take]; omega), fun c o e => ?_, _, upd_same, ?_⟩
      · rw [upd_ne (ne_of_none e nD)]
        exact sT _ _ (s5 c o e)
      · rw [e1]
        refine (p2.samT fun t' ys e => ?_).snoc (by rw [upd_ne (ne_of (sT _ _ e2) upd_same (by intro z; cases z)).symm]; exact upd_same)
        rw [upd_ne (ne_of e e2 (by intro z; cases z))]
        exact sT _ _ e
    rintro H6 ⟨s6', xsK, eK6, pK6⟩
    refine ⟨s6' _ _ upd_same, ?_⟩
    have s6 := unlock h6 s6'
    rw [← ents_len, List.take_length] at pK6
    have eK7 : (upd H6 q0 (.dT kvs)) D = some (.lst xsK) := by rw [upd_ne Dq]; exact eK6
    have pK7 : Its (upd H6 q0 (.dT kvs)) xsK (ents kvs) := pK6.samT fun t ys e => by rw [upd_ne (ne_of e (s6' _ _ upd_same) (by intro z; cases z))]; exact e
    generalize upd H6 q0 (.dT kvs) = H7 at s6 eK7 pK7 ⊢
    refine ⟨D, xsK, (ents kvs).map faD, rfl, SqL.of eK7, fun y hy => ?_, pK7.dp, fa_ok _, fun ys p each np wp => ?_⟩
    · obtain ⟨i, hi⟩ := List.getElem?_of_mem hy
      obtain ⟨f, _, t, rfl, _⟩ := pK7.at_ i y hi
      exact ⟨t, rfl⟩
    have s8 := s6.trans (same_upd (o := .lst ys) np)
    have nH : H p = none := by
      cases e : H p with
      | none => rfl
      | some o =>
        have := s6 _ _ e
        rw [np] at this
        cases this
    have pm := List.mergeSort_perm ((ents kvs).map faD) leD
    have eL : ((((ents kvs).map faD).mergeSort leD).map faOf).map faD = ((ents kvs).map faD).mergeSort leD := by
      rw [List.map_map]
      conv => rhs; rw [← List.map_id (((ents kvs).map faD).mergeSort leD)]
      refine List.map_congr_left fun d hd => ?_
      obtain ⟨f, _, rfl⟩ := List.mem_map.mp (pm.mem_iff.mp hd)
      rfl
    have pL : ((((ents kvs).map faD).mergeSort leD).map faOf).Perm (ents kvs) := by
      have := pm.map faOf
      rw [List.map_map] at this
      have e : (ents kvs).map (faOf ∘ faD) = ents kvs := by
        conv => rhs; rw [← List.map_id (ents kvs)]
        exact List.map_congr_left fun f _ => rfl
      rw [e] at this
      exact this
    refine q p ys ((((ents kvs).map faD).mergeSort leD).map faOf) _ nH wp s8 upd_same ⟨?_, fun i y e => ?_⟩ ⟨fun u v c => ?_, ?_, ?_, ?_⟩
    · rw [each.length, List.length_map]
    · obtain ⟨d, hd, hz⟩ := each_get each i y e
      obtain ⟨j, hj⟩ := List.getElem?_of_mem hz
      obtain ⟨hx, hdj⟩ := List.getElem?_zip_eq_some.mp hj
      obtain ⟨f, hf, t, rfl, ht⟩ := pK7.at_ j y hx
      rw [List.getElem?_map, hf] at hdj
      cases hdj
      refine ⟨f, by rw [List.getElem?_map, hd]; rfl, t, rfl, ?_⟩
      rw [upd_ne (ne_of_none ht np)]
      exact ht
    · rw [pL.mem_iff]
      exact h7.mem
    · exact ((pL.map _).nodup_iff).mpr (ents_nd h7)
    · rw [eL]
      exact leD_sorted _
    · rw [pL.length_eq, ents_len]
      exact kk
end
end Fv


set_option Elab.async false
set_option linter.all false
set_option maxRecDepth 100000
set_option maxHeartbeats 1000000
namespace Fv
open PySem PySem.Spec PyProof.Rows L2
/-! ### what an own error's __init__ leaves -/
def spI1 (C : Addr) (f : Str) : Sp := fun vs H Q _ => ∃ (a : Addr) (y : V), vs = [.ref a, y] ∧ H a = some (exo a C none) ∧ ∀ dx, H dx = none → dx ≠ a → Q .non (upd (upd H dx (exd dx [(f, y)])) a (exo a C (some dx)))
def spI2 (C : Addr) (f g : Str) : Sp := fun vs H Q _ => ∃ (a : Addr) (y z : V), vs = [.ref a, y, z] ∧ H a = some (exo a C none) ∧ ∀ dx, H dx = none → dx ≠ a → Q .non (upd (upd (upd H dx (exd dx [(f, y)])) a (exo a C (some dx))) dx (exd dx [(g, z), (f, y)]))
theorem let_go {H : Hp} {a dx C : Addr} {fs : List (Str × V)} {o o1 o2 : HO} (na : H a = none) (ne : dx ≠ a) : upd (del (upd (upd (upd H a o) dx o1) a o2) a) dx (.xd fs) = upd H dx (.xd fs) := by
  funext b
  by_cases hb : b = dx
  · rw [hb, upd_same, upd_same]
  · rw [upd_ne hb, upd_ne hb]
    by_cases h2 : b = a
    · rw [h2, del_same, na]
    · rw [del_ne h2, upd_ne h2, upd_ne hb, upd_ne h2]
theorem let_go2 {H : Hp} {a dx C : Addr} {fs : List (Str × V)} {o o1 o2 o3 : HO} (na : H a = none) (ne : dx ≠ a) : upd (del (upd (upd (upd (upd H a o) dx o1) a o2) dx o3) a) dx (.xd fs) = upd H dx (.xd fs) := by
  funext b
  by_cases hb : b = dx
  · rw [hb, upd_same, upd_same]
  · rw [upd_ne hb, upd_ne hb]
    by_cases h2 : b = a
    · rw [h2, del_same, na]
    · rw [del_ne h2, upd_ne hb, upd_ne h2, upd_ne hb, upd_ne h2]
structure Own1 (P : Program) (w : World) (K : PySem.W.Frag) (mg : Str → Option Value) (base : Heap) (x f : Str) (C : Addr) : Prop where
  ox : OexC K C
  gC : mg x = some (.ref C)
  made : ∃ (fI : Addr) (fd : FuncData) (ps : List Str), PySem.W.findIn K (.ref C) "__init__" = some (some (.ref fI)) ∧ PySem.W.typeIn K (.ref fI) = some (.type "function") ∧ FnOk P w K mg base CX0 1 fI fd ps (spI1 C f) ∧ Binds K fd ps []
structure Own2 (P : Program) (w : World) (K : PySem.W.Frag) (mg : Str → Option Value) (base : Heap) (x f g : Str) (C : Addr) : Prop where
  ox : OexC K C
  gC : mg x = some (.ref C)
  made : ∃ (fI : Addr) (fd : FuncData) (ps : List Str), PySem.W.findIn K (.ref C) "__init__" = some (some (.ref fI)) ∧ PySem.W.typeIn K (.ref fI) = some (.type "function") ∧ FnOk P w K mg base CX0 1 fI fd ps (spI2 C f g) ∧ Binds K fd ps []
structure Own0 (K : PySem.W.Frag) (mg : Str → Option Value) (x : Str) (C : Addr) : Prop where
  ex : PySem.W.excIn K C [.type "ValueError", .type "Exception", .type "BaseException", .type "object"] "ValueError.__new__" = true
  gC : mg x = some (.ref C)
  kC : PySem.W.keepIn K (.ref C) = true
  bC : PySem.W.subIn K (.ref C) (.type "BaseException") = some true
  tC : PySem.W.typeIn K (.ref C) = some (.type "type")
def tR1 (C : Addr) (f : Str) (te : TE) : L2.St → Hp → XK → Prop := fun σ H Q => te σ H fun y H1 => ∀ d, H1 d = none → Q (.ref C) (some d) (upd H1 d (.xd [(f, y)]))
def tR2 (C : Addr) (f g : Str) (te tu : TE) : L2.St → Hp → XK → Prop := fun σ H Q => te σ H fun y H1 => tu σ H1 fun z H2 => ∀ d, H2 d = none → Q (.ref C) (some d) (upd H2 d (.xd [(g, z), (f, y)]))
section
variable {X : Cx} {x f g : Str} {C : Addr} {e e2 : Expr} {i j : Nat} {q0 pos : Pos}
theorem PMk.imp {e : Expr} {t t' : L2.St → Hp → XK → Prop} (h : PMk X e t) (k : ∀ σ H Q, t' σ H Q → t σ H Q) : PMk X e t' := fun pins s σ H Q I q => h pins s σ H Q I (k σ H Q q)
theorem pmk1 (O : Own1 X.prog X.w X.K X.mg X.base x f C) (hr : Room 2 X.A) (hg : Gl X x) (ha : PA X [e] (tCons (tVar i) tNil)) (hdb : (x == ("__debug__" : Str)) = false := by decide) (he : starEach [e] X.env = (false, eval e X.env) :: starEach [] X.env := by rfl) (hpl : (backTo pos (starEach [] X.env)).any (·.1) = false := by rfl) :
    PMk X (.Call (.Name x q0) [e] [] pos) (tR1 C f (tVar i)) := by
  obtain ⟨fI, fd, ps, iC, tI, F, b⟩ := O.made
  refine PMk.imp (pmk_oex O.ox iC tI F hr b .nil pass0 hg O.gC ha hdb he hpl) fun σ H Q h => ?_
  obtain ⟨y, ey, h⟩ := h
  refine ⟨y, ey, by show 1 ≤ 1000; decide, fun a na => ⟨a, y, rfl, upd_same, fun dx nd ne => ⟨rfl, dx, [(f, y)], upd_same, ?_, ?_, ?_⟩⟩⟩
  · rw [upd_ne ne, upd_same]
  · rw [upd_ne ne] at nd
    exact nd
  · rw [let_go (C := C) na ne]
    rw [upd_ne ne] at nd
    exact h dx nd
theorem pmk2 (O : Own2 X.prog X.w X.K X.mg X.base x f g C) (hr : Room 2 X.A) (hg : Gl X x) (ha : PA X [e, e2] (tCons (tVar i) (tCons (tVar j) tNil))) (hdb : (x == ("__debug__" : Str)) = false := by decide) (he : starEach [e, e2] X.env = (false, eval e X.env) :: starEach [e2] X.env := by rfl) (hpl : (backTo pos (starEach [e2] X.env)).any (·.1) = false := by rfl) :
    PMk X (.Call (.Name x q0) [e, e2] [] pos) (tR2 C f g (tVar i) (tVar j)) := by
  obtain ⟨fI, fd, ps, iC, tI, F, b⟩ := O.made
  refine PMk.imp (pmk_oex O.ox iC tI F hr b .nil pass0 hg O.gC ha hdb he hpl) fun σ H Q h => ?_
  obtain ⟨y, ey, z, ez, h⟩ := h
  refine ⟨y, ey, z, ez, by show 2 ≤ 1000; decide, fun a na => ⟨a, y, z, rfl, upd_same, fun dx nd ne => ⟨rfl, dx, [(g, z), (f, y)], ?_, upd_same, ?_, ?_⟩⟩⟩
  · rw [upd_ne ne.symm, upd_same]
  · rw [upd_ne ne] at nd
    exact nd
  · rw [let_go2 (C := C) na ne]
    rw [upd_ne ne] at nd
    exact h dx nd
theorem pmk0 (O : Own0 X.K X.mg x C) (hg : Gl X x) (hdb : (x == ("__debug__" : Str)) = false := by decide) : PMk X (.Call (.Name x q0) [] [] pos) (fun _ H Q => Q (.ref C) none H) :=
  pmk_bare PySem.F.excBase_ValueError O.ex O.gC O.kC (raises_own O.bC O.tC) hg hdb
end
section
variable {P : Program} {w : World} {K : PySem.W.Frag} {mg : Str → Option Value} {base : Heap}
end
end Fv


set_option Elab.async false
set_option linter.all false
set_option maxRecDepth 100000
set_option maxHeartbeats 2000000
/-! rows of tuples; own errors made of nothing; a promise without its raising side -/
namespace Fv
open PySem PySem.Spec PyProof.Rows L2
/-- items told by tuples -/
structure Tups {α : Type} (g : α → List V) (H : Hp) (xs : List V) (L : List α) : Prop where
  len : xs.length = L.length
  at_ : ∀ (i : Nat) (x : V), xs[i]? = some x → ∃ f : α, L[i]? = some f ∧ ∃ t, x = .ref t ∧ H t = some (.tup (g f))
theorem Tups.nil {α : Type} {g : α → List V} {H : Hp} : Tups g H [] [] := ⟨rfl, fun _ _ e => by cases e⟩
theorem Tups.keep {α : Type} {g : α → List V} {H H' : Hp} {xs : List V} {L : List α} (h : Tups g H xs L) (s : ∀ t ys, H t = some (.tup ys) → H' t = some (.tup ys)) : Tups g H' xs L :=
  ⟨h.len, fun i x e => by obtain ⟨f, hf, t, ht, hh⟩ := h.at_ i x e; exact ⟨f, hf, t, ht, s _ _ hh⟩⟩
theorem Tups.snoc {α : Type} {g : α → List V} {H : Hp} {xs : List V} {L : List α} (h : Tups g H xs L) {t : Addr} {f : α} (e : H t = some (.tup (g f))) : Tups g H (xs ++ [.ref t]) (L ++ [f]) := by
  refine ⟨by rw [List.length_append, List.length_append, h.len]; rfl, fun i x ex => ?_⟩
  rcases Nat.lt_trichotomy i xs.length with l | l | l
  · rw [List.getElem?_append_left l] at ex
    obtain ⟨f, hf, r⟩ := h.at_ i x ex
    exact ⟨f, by rw [List.getElem?_append_left (by rw [← h.len]; exact l)]; exact hf, r⟩
  · subst l
    rw [List.getElem?_append_right (Nat.le_refl _), Nat.sub_self] at ex
    cases ex
    exact ⟨f, by rw [List.getElem?_append_right (by rw [h.len]; exact Nat.le_refl _), h.len, Nat.sub_self]; rfl, t, rfl, e⟩
  · rw [List.getElem?_eq_none (by rw [List.length_append]; exact l)] at ex
    cases ex
theorem Tups.cons {α : Type} {g : α → List V} {H : Hp} {x : V} {xs : List V} {L : List α} : Tups g H (x :: xs) L ↔ ∃ f M, L = f :: M ∧ (∃ t, x = .ref t ∧ H t = some (.tup (g f))) ∧ Tups g H xs M := by
  constructor
  · intro h
    cases L with
    | nil => cases h.len
    | cons f M =>
      obtain ⟨f', e, t, ht⟩ := h.at_ 0 x rfl
      cases e
      exact ⟨f, M, rfl, ⟨t, ht⟩, by have := h.len; rw [List.length_cons, List.length_cons] at this; omega, fun i y e => h.at_ (i + 1) y e⟩
  · rintro ⟨f, M, rfl, ht, h⟩
    refine ⟨by rw [List.length_cons, List.length_cons, h.len], fun i y e => ?_⟩
    cases i with
    | zero =>
      cases e
      exact ⟨f, rfl, ht⟩
    | succ i => exact h.at_ i y e
theorem Tups.perm {α : Type} {g : α → List V} {H : Hp} {xs ys : List V} (p : xs.Perm ys) : ∀ {L : List α}, Tups g H xs L → ∃ M, L.Perm M ∧ Tups g H ys M := by
  induction p with
  | nil => exact fun h => ⟨_, .refl _, h⟩
  | cons x _ ih =>
    intro L h
    obtain ⟨f, M, rfl, ht, h⟩ := Tups.cons.mp h
    obtain ⟨N, pN, hN⟩ := ih h
    exact ⟨f :: N, pN.cons f, Tups.cons.mpr ⟨f, N, rfl, ht, hN⟩⟩
  | swap x y l =>
    intro L h
    obtain ⟨f, M, rfl, ht, h⟩ := Tups.cons.mp h
    obtain ⟨g', N, rfl, ht', h⟩ := Tups.cons.mp h
    exact ⟨g' :: f :: N, .swap _ _ _, Tups.cons.mpr ⟨_, _, rfl, ht', Tups.cons.mpr ⟨_, _, rfl, ht, h⟩⟩⟩
  | trans _ _ ih ih' =>
    intro L h
    obtain ⟨M, pM, hM⟩ := ih h
    obtain ⟨N, pN, hN⟩ := ih' hM
    exact ⟨N, pM.trans pN, hN⟩
theorem Tups.plain {α : Type} {g : α → List V} {H : Hp} {xs : List V} {L : List α} (h : Tups g H xs L) : ∀ v ∈ xs, Plain v := fun v hv => by
  obtain ⟨i, hi⟩ := List.getElem?_of_mem hv
  obtain ⟨f, _, t, rfl, _⟩ := h.at_ i v hi
  exact .inr ⟨t, rfl⟩

/-- C(), C an own class of errors without an own __init__ -/
theorem pmk_own0 {X : Cx} {C : Addr} {bmB : List Value} {B newId initId : String} {x : Str} {p pos : Pos} (F : ExcBaseFacts B newId initId bmB) (q : PySem.W.excIn X.K C bmB newId = true) (gC : X.mg x = some (.ref C)) (kC : PySem.W.keepIn X.K (.ref C) = true) (r : Raises X (.ref C)) (hg : Gl X x)
    (hdb : (x == ("__debug__" : Str)) = false := by decide) : PMk X (.Call (.Name x p) [] [] pos) (fun _ H Q => Q (.ref C) none H) := by
  intro pins s σ H Q I h
  refine wpAny_Call_Name_kw (ld_glob I hg gC ?_ hdb)
  refine PySem.W.callWith_K0 I.kIn kC ?_
  show wpAny _ _ (call (.ref C) []) _ _ _
  obtain ⟨bm, N, nm, qn, bs, hdct, sn, sub, ab, col, dd, k0, k1, k2, k3, k5, mN, hC, hN, hni, T⟩ := exc_obj I.kIn q
  refine wpAny_call_exc_subT F T hC hN hni (fun h' e hm => ?_) (Nat.zero_le _)
  exact mk_of I hm r h (I.hok.gone hm.new)
/-- where it raises nothing -/
theorem fn_calm {P : Program} {w : World} {K : PySem.W.Frag} {mg : Str → Option Value} {base : Heap} {k : Nat} {f : Addr} {fd : FuncData} {ps : List Str} {sp : Sp} (F : FnOk P w K mg base (L2.CX P w) k f fd ps sp) :
    FnOk P w K mg base CX0 k f fd ps (fun vs H Q _ => sp vs H Q E0) :=
  ⟨fun vs H Q E q => F.len vs H Q E0 q, fun A outer s H args us vs Q E hr he hb hv hs => codeAny_mono (F.run A outer s H args us vs Q E0 hr he hb hv hs) fun r s' h => by
    cases r with
    | error e =>
      obtain ⟨a, B, H', cls, d, _, _, _, _, _, _, _, z⟩ := h
      exact z.elim
    | ok fl =>
      cases fl with
      | ret u => exact h
      | next => exact h
      | brk => exact h
      | cont => exact h⟩
/-- o.m(e, ..), what is raised is wished for at the slots -/
def tMethE (C : Addr) (m : Str) (sp : Sp) (E : L2.St → XK) (ta : TE) (t : TA) : TE := fun σ H Q => ta σ H fun x H1 => ∃ a dx fs, x = .ref a ∧ H1 a = some (.ins C dx fs) ∧ fs.lookup m = none ∧ t σ H1 fun vs H2 => sp (x :: vs) H2 Q (E σ)
theorem pe_methE {X : Cx} {CX : CXT} {k : Nat} {C f : Addr} {fd : FuncData} {ps : List Str} {m : Str} {sp : Sp} {E : L2.St → XK} {o e : Expr} {es : List Expr} {ta : TE} {t : TA} {apos pos : Pos} {pl : Sem Bool} (he : PE X o ta) (c : Cls X.K C) (hm : Meth X.K C m f)
    (F : FnOk X.prog X.w X.K X.mg X.base CX k f fd ps sp) (hr : Room k X.A) (hb : Binds X.K fd ps []) (hx : ∀ σ, PassesAt CX X σ (E σ)) (ha : PA X (e :: es) t)
    (hst : starEach (e :: es) X.env = (false, eval e X.env) :: starEach es X.env := by rfl) (hpl : (backTo pos (starEach es X.env)).any (·.1) = false := by rfl)
    (ht : eval (.Call (.Attribute o m apos) (e :: es) [] pos) X.env = (do
      let ov ← eval o X.env
      standAt apos.atName
      let (f, first) ← holding [ov] (getMethod ov m pl)
      callWith pos f first (backTo pos (starEach (e :: es) X.env)) (backToKw pos (keywordEach [] X.env))) := by rfl) :
    PE X (.Call (.Attribute o m apos) (e :: es) [] pos) (tMethE C m sp E ta t) := by
  refine ⟨fun pins s σ H Q I h => ?_⟩
  refine PySem.W.methodCall_KW (pl := pl) (thn (he.run pins s σ H _ I h) fun u s1 ⟨x, H1, I1, rx, a, dx, fs, ex, ea, l, q⟩ => ?_) ht
  subst ex
  obtain rfl : u = Value.ref a := rx
  refine getmeth_ok I1 ea c hm l ?_
  refine PySem.W.callWith_K (first := [.ref a]) (h₀ := X.base) I.ok.mod.kin hm.kp (thn (ha.run pos pins s1 σ H1 _ I1 q) fun us s2 ⟨vs, H2, I2, r, q2⟩ => ⟨I2.kIn, ?_⟩) hst hpl
  exact run_fnS (us := .ref a :: us) (vs := .ref a :: vs) F hr hb (hx σ) I2 (.cons rfl r) q2
end Fv


set_option Elab.async false
set_option linter.all false
set_option maxRecDepth 100000
set_option maxHeartbeats 4000000
namespace Fv
open PySem PySem.Spec PyProof.Rows L2
/-! ### sources that are none -/
theorem scNoName : FnScope ["self", "name"] ["self", "name"] (defScope (inClass (top 4) 0)) := ⟨rfl, rfl, rfl, by decide +kernel, rfl, by decide +kernel, by decide +kernel⟩
theorem own_NoName {P : Program} {w : World} {K : PySem.W.Frag} {mg : Str → Option Value} {base : Heap} {f C : Addr} {fd : FuncData} (F : Fun K "__init__" "NoName.__init__" (inClass (top 4) 0) f fd) (O : OexC K C) (no : PySem.W.findIn K (.ref C) "name" = some none) (gC : mg "NoName" = some (.ref C)) (iC : PySem.W.findIn K (.ref C) "__init__" = some (some (.ref f))) (tI : PySem.W.typeIn K (.ref f) = some (.type "function")) : Own1 P w K mg base "NoName" "name" C := by
  refine ⟨O, gC, f, fd, ["self", "name"], iC, tI, F.ok scNoName (fun vs H Q E h => ?_) (fun cdv A outer s H vs Q E hr h => ?_), F.binds fun _ _ _ _ _ _ us hl => match us, hl with | [_, _], _ => rfl⟩
  · obtain ⟨a, y, rfl, _⟩ := h
    rfl
  · obtain ⟨a, y, rfl, ha, q⟩ := h
    exact ⟨_, pss_one (ps_ost (pv 0) (pv 1)), _, rfl, _, rfl, a, C, rfl, O, no, .inl ⟨ha, q⟩⟩
/-- the first source that is none -/
def FirstBad (zs : List Str) (L : List FaT) (u : Str) : Prop := ∃ (i : Nat) (f : FaT), L[i]? = some f ∧ (∀ (j : Nat) (g : FaT), j < i → L[j]? = some g → SrcIn zs g.1 ∧ SrcIn zs g.2.1) ∧
  ((f.1 = u ∧ ¬ SrcIn zs f.1) ∨ (SrcIn zs f.1 ∧ f.2.1 = u ∧ ¬ SrcIn zs f.2.1))
def spChkSA (CE : Addr) : Sp := fun vs H Q E => ∃ (n a : Addr) (zs : List Str) (xs : List V) (L : List FaT), vs = [.ref n, .ref a] ∧ H n = some (.lst (zs.map V.str)) ∧ zs.length ≤ 60 ∧ H a = some (.lst xs) ∧ Its H xs L ∧
  ((∀ f ∈ L, SrcIn zs f.1 ∧ SrcIn zs f.2.1) → ∀ H', Same H H' → Q .non H') ∧
  ∀ u, FirstBad zs L u → ∀ (H1 : Hp) (dx : Addr), Same H H1 → H1 dx = none → E (.ref CE) (some dx) (upd H1 dx (.xd [("name", .str u)]))
theorem srcIn_dec (zs : List Str) (u : Str) : SrcIn zs u ∨ ¬ SrcIn zs u := Classical.em _
section
variable {P : Program} {w : World} {K : PySem.W.Frag} {mg : Str → Option Value} {base : Heap} {C CE : Addr}
theorem ok_chksA {f : Addr} {fd : FuncData} (F : Fun K "_check_sources" "_check_sources" sChkSrc f fd) (O : Own1 P w K mg base "NoName" "name" CE) : FnOk P w K mg base (L2.CX P w) 3 f fd ["names", "facts"] (spChkSA CE) := by
  refine F.okX scCs (fun vs H Q E h => ?_) (fun cdv A outer s H vs Q E hr h => ?_)
  · obtain ⟨n, a, zs, xs, L, rfl, _⟩ := h
    rfl
  · obtain ⟨n, a, zs, xs, L, rfl, hn, hz, ha, hx, q, qE⟩ := h
    have hu := hu_of hr
    refine ⟨_, pss_cons (ps_setDc (i := 2) (own := [("name", 7)]) (g := gName 7) (tt := tYes) rfl scCs.nd rfl rfl (swD_true rfl rfl rfl (by decide +kernel)) (pi_list (pv 0)) (blkOk_by (N := nCs) (sc := defScope sChkSrc) (by decide +kernel))
        (fun _ _ _ _ _ => pg_name (i := 7) scCs.nd rfl (Or.inl rfl)) (fun _ _ _ _ _ => pts_nil) (fun _ _ _ _ _ => pv 7) (fun _ _ _ _ _ => pe_bl))
      (pss_one (ps_for (passes_of rfl) rfl (pi_list (pv 1)) (pg_tup (by rfl) (pgs_cons (pg_name (i := 3) scCs.nd rfl (.inl rfl)) (pgs_cons (pg_name (i := 4) scCs.nd rfl (.inl rfl)) (pgs_cons (pg_name (i := 5) scCs.nd rfl (.inl rfl)) pgs_nil))))
        (pss_one (ps_for (passes_of rfl) rfl (pi_tup (pe_tup (pa_cons (pv 3) (pa_cons (pv 4) pa_nil)))) (pg_name (i := 6) scCs.nd rfl (.inl rfl))
          (pss_one (ps_if (PW.pt (pw_and (pt_cmpR op_ne (pv 6) pe_str (nomark _)) (pw_and1 (pt_cmp (pc_dnotin hu (pv 6) (pv 2))))))
            (pss_one (ps_raise (W := fun cls d _ H => E cls d H) rfl (takes_of rfl rfl rfl rfl) (pmk1 O hr (by rfl) (pa_cons (pv 6) pa_nil)))) pss_nil)))))), ?_⟩
    refine ⟨_, rfl, n, rfl, ⟨_, SqL.of hn⟩, fun D hD => ?_⟩
    refine dc_it (walk_list (K := K) (a := n) (xs := zs.map V.str)) (fun i H' => Same H H' ∧ H' D = some (.dK (dkOf (zs.take i)))) ⟨same_upd hD, upd_same⟩ (fun i H' _ h => SqL.of (h.1 _ _ hn)) ?_ ?_
    · rintro i x H' H2 hi ⟨s', e'⟩ ⟨rfl, hxi⟩
      obtain ⟨z, hzi, rfl⟩ : ∃ z, zs[i]? = some z ∧ x = .str z := by
        rw [List.getElem?_map] at hxi
        cases e : zs[i]? with
        | none => rw [e] at hxi; cases hxi
        | some z => rw [e] at hxi; cases hxi; exact ⟨z, rfl, rfl⟩
      have et : zs.take (i + 1) = zs.take i ++ [z] := by rw [List.take_succ, hzi]; rfl
      refine ⟨rfl, _, rfl, _, Sum.inr z, rfl, e', ?_, fun c o e => ?_, ?_⟩
      · exact Nat.lt_of_le_of_lt (dkOf_both _ _ rfl).1 (small60 (by rw [List.length_take]; omega))
      · rw [upd_ne (ne_of_none e hD)]
        exact s' c o e
      · rw [upd_same, et, dkOf_snoc]
    · rintro H1 ⟨s1, e1⟩
      rw [List.length_map, List.take_length] at e1
      have vz := (dkOf_both _ zs rfl).2
      dsimp only [gName]
      refine ⟨_, rfl, a, rfl, ⟨_, SqL.of (s1 _ _ ha)⟩, ?_⟩
      refine for_list (K := K) (a := a) (xs := xs) (fun i σ H' => ∃ y3 y4 y5 y6 y7 : Option V, σ = [some (.ref n), some (.ref a), some (.ref D), y3, y4, y5, y6, y7] ∧ Same H1 H' ∧ ∀ (j : Nat) (g : FaT), j < i → L[j]? = some g → SrcIn zs g.1 ∧ SrcIn zs g.2.1)
        ⟨none, none, none, none, _, rfl, fun _ _ e => e, fun j g h => absurd h (Nat.not_lt_zero j)⟩ (fun i σ H' _ h => by obtain ⟨_, _, _, _, _, _, s', _⟩ := h; exact SqL.of (s' _ _ (s1 _ _ ha))) ?_ ?_
      · rintro i x σ H' hxi ⟨y3, y4, y5, y6, y7, rfl, s', hb⟩
        obtain ⟨⟨fx, fy, fc⟩, hf, t, rfl, ht⟩ := hx.at_ i x hxi
        refine ⟨t, _, rfl, SqT.of (s' _ _ (s1 _ _ ht)), rfl, _, _, rfl, _, _, rfl, _, _, rfl, rfl, ?_⟩
        refine ⟨_, rfl, _, rfl, by show 2 ≤ sizeLine; decide, fun p np => ?_⟩
        have sp := same_upd (o := .tup [.str fx, .str fy]) np
        refine ⟨p, rfl, ⟨_, SqT.of upd_same⟩, ?_⟩
        refine for_tup (K := K) (a := p) (xs := [.str fx, .str fy]) (fun i σ H2 => (∃ y6 y7 : Option V, σ = [some (.ref n), some (.ref a), some (.ref D), some (.str fx), some (.str fy), some (.int fc), y6, y7] ∧ H2 = upd H' p (.tup [.str fx, .str fy])) ∧ (1 ≤ i → SrcIn zs fx) ∧ (2 ≤ i → SrcIn zs fy))
          ⟨⟨y6, y7, rfl, rfl⟩, fun h => absurd h (by decide), fun h => absurd h (by decide)⟩ (fun i σ H2 _ h => by obtain ⟨⟨_, _, _, rfl⟩, _⟩ := h; exact SqT.of upd_same) ?_ ?_
        · rintro j x σ H2 hxj ⟨⟨y6, y7, rfl, rfl⟩, hb1, hb2⟩
          obtain ⟨z, rfl, hz0, hz1⟩ : ∃ z, x = .str z ∧ (j = 0 → z = fx) ∧ (j ≠ 0 → j = 1 ∧ z = fy) := by
            match j, hxj with
            | 0, h => cases h; exact ⟨fx, rfl, fun _ => rfl, fun h => absurd rfl h⟩
            | 1, h => cases h; exact ⟨fy, rfl, (fun h => by cases h), fun _ => ⟨rfl, rfl⟩⟩
          have good : SrcIn zs z → (1 ≤ j + 1 → SrcIn zs fx) ∧ (2 ≤ j + 1 → SrcIn zs fy) := fun h => by
            by_cases e : j = 0
            · rw [← hz0 e]
              exact ⟨fun _ => h, fun h2 => absurd h2 (by omega)⟩
            · obtain ⟨e1, e2⟩ := hz1 e
              rw [← e2]
              exact ⟨fun _ => hb1 (by omega), fun _ => h⟩
          refine ⟨_, rfl, rfl, _, rfl, ite2 (fun e => ?_) (fun e => ?_)⟩
          · have nz : z ≠ "" := fun q => by simp [q] at e
            have sm := vz z
            refine ⟨_, rfl, _, rfl, D, _, rfl, DGet.k (k := Sum.inr z) (sp _ _ (s' _ _ e1)), ?_⟩
            rw [sm]
            by_cases hm : z ∈ zs
            · rw [decide_eq_true hm]
              exact ⟨_, rfl, iteF ⟨⟨_, _, rfl, rfl⟩, good (.inr hm)⟩⟩
            · rw [decide_eq_false hm]
              have bad : ¬ SrcIn zs z := fun h => h.elim nz hm
              refine ⟨_, rfl, iteT ⟨_, rfl, fun dx nd => ?_⟩⟩
              refine qE z ⟨i, (fx, fy, fc), hf, hb, ?_⟩ _ dx (s1.trans (s'.trans sp)) nd
              by_cases e : j = 0
              · exact .inl ⟨(hz0 e).symm, by rw [show (fx, fy, fc).1 = fx from rfl, ← hz0 e]; exact bad⟩
              · obtain ⟨e1, e2⟩ := hz1 e
                exact .inr ⟨hb1 (by omega), e2.symm, by rw [show (fx, fy, fc).2.1 = fy from rfl, ← e2]; exact bad⟩
          · have ez : z = "" := by
              by_cases q : z = ""
              · exact q
              · exact absurd (by simp [q]) e
            exact ⟨⟨_, _, rfl, rfl⟩, good (.inl ez)⟩
        · rintro σ H2 ⟨⟨y6, y7, rfl, rfl⟩, hb1, hb2⟩
          refine ⟨_, _, _, _, _, rfl, s'.trans sp, fun j g hj hg => ?_⟩
          by_cases e : j = i
          · rw [e, hf] at hg
            cases hg
            exact ⟨hb1 (by show 1 ≤ 2; decide), hb2 (by show 2 ≤ 2; decide)⟩
          · exact hb j g (by omega) hg
      · rintro σ H' ⟨y3, y4, y5, y6, y7, rfl, s', hb⟩
        refine q (fun f hf => ?_) H' (s1.trans s')
        obtain ⟨j, hj⟩ := List.getElem?_of_mem hf
        exact hb j f (by rw [hx.len]; exact (List.getElem?_eq_some_iff.mp hj).1) hj
end
end Fv


set_option Elab.async false
set_option linter.all false
set_option maxRecDepth 100000
set_option maxHeartbeats 4000000
namespace Fv
open PySem PySem.Spec PyProof.Rows L2
def FirstNo (bs : List Bool) (n : Nat) : Prop := bs[n]? = some false ∧ ∀ m : Nat, m < n → bs[m]? = some true
def spChkA (CE : Addr) : Sp := fun vs H Q E => ∃ (a : Addr) (bs : List Bool), vs = [.ref a] ∧ H a = some (.lst (bs.map V.bl)) ∧ (bs.all id = true → ∀ H', Same H H' → Q .non H') ∧
  ∀ n : Nat, FirstNo bs n → ∀ (H1 : Hp) (dx : Addr), Same H H1 → H1 dx = none → E (.ref CE) (some dx) (upd H1 dx (.xd [("place", .int n)]))
section
variable {P : Program} {w : World} {K : PySem.W.Frag} {mg : Str → Option Value} {base : Heap}
theorem scWrong : FnScope ["self", "place"] ["self", "place"] (defScope (inClass (top 3) 0)) := ⟨rfl, rfl, rfl, by decide +kernel, rfl, by decide +kernel, by decide +kernel⟩
theorem own_Wrong {f C : Addr} {fd : FuncData} (F : Fun K "__init__" "Wrong.__init__" (inClass (top 3) 0) f fd) (O : OexC K C) (no : PySem.W.findIn K (.ref C) "place" = some none) (gC : mg "Wrong" = some (.ref C)) (iC : PySem.W.findIn K (.ref C) "__init__" = some (some (.ref f))) (tI : PySem.W.typeIn K (.ref f) = some (.type "function")) : Own1 P w K mg base "Wrong" "place" C := by
  refine ⟨O, gC, f, fd, ["self", "place"], iC, tI, F.ok scWrong (fun vs H Q E h => ?_) (fun cdv A outer s H vs Q E hr h => ?_), F.binds fun _ _ _ _ _ _ us hl => match us, hl with | [_, _], _ => rfl⟩
  · obtain ⟨a, y, rfl, _⟩ := h
    rfl
  · obtain ⟨a, y, rfl, ha, q⟩ := h
    exact ⟨_, pss_one (ps_ost (pv 0) (pv 1)), _, rfl, _, rfl, a, C, rfl, O, no, .inl ⟨ha, q⟩⟩
theorem ok_chkA {f CE : Addr} {fd : FuncData} (F : Fun K "check_arguments" "check_arguments" sChk f fd) (O : Own1 P w K mg base "Wrong" "place" CE) (me : mg "enumerate" = none) : FnOk P w K mg base (L2.CX P w) 3 f fd ["rights"] (spChkA CE) := by
  refine F.okX scCk (fun vs H Q E h => ?_) (fun cdv A outer s H vs Q E hr h => ?_)
  · obtain ⟨a, bs, rfl, _⟩ := h
    rfl
  · obtain ⟨a, bs, rfl, ha, q, qE⟩ := h
    refine ⟨_, pss_one (ps_for (passes_of rfl) rfl (pi_enum (by rfl) me (pa_cons (pv 0) pa_nil)) (pg_tup (by rfl) (pgs_cons (pg_name (i := 1) scCk.nd rfl (.inl rfl)) (pgs_cons (pg_name (i := 2) scCk.nd rfl (.inl rfl)) pgs_nil)))
      (pss_one (ps_if (pt_not (pt_val (pv 2))) (pss_one (ps_raise (W := fun cls d _ H => E cls d H) rfl (takes_of rfl rfl rfl rfl) (pmk1 O hr (by rfl) (pa_cons (pv 1) pa_nil)))) pss_nil))), ?_⟩
    refine ⟨_, rfl, a, _, rfl, SqL.of ha, ?_⟩
    refine for_it (walk_enum (K := K) (a := a) (xs := bs.map V.bl)) (fun i σ H' => ∃ y1 y2 : Option V, σ = [some (.ref a), y1, y2] ∧ Same H H' ∧ ∀ m : Nat, m < i → bs[m]? = some true) ⟨none, none, rfl, fun _ _ e => e, fun m hm => absurd hm (Nat.not_lt_zero m)⟩ (fun i σ H' _ h => ?_) ?_ ?_
    · obtain ⟨_, _, _, s', _⟩ := h
      exact SqL.of (s' _ _ ha)
    · rintro i x σ H' H2 hi ⟨y1, y2, rfl, s', hb⟩ ⟨T, vi, vx, rfl, nT, rfl, ei, ex⟩
      cases ei
      obtain ⟨t, hti, rfl⟩ : ∃ t, bs[i]? = some t ∧ vx = V.bl t := by
        have ex : (bs.map V.bl)[i]? = some vx := ex
        rw [List.getElem?_map] at ex
        cases e : bs[i]? with
        | none => rw [e] at ex; cases ex
        | some t => rw [e] at ex; exact ⟨t, rfl, (Option.some.inj ex).symm⟩
      have sT := same_upd (o := .tup [.int (i : Nat), .bl t]) nT
      refine ⟨T, _, rfl, SqT.of upd_same, rfl, _, _, rfl, _, _, rfl, rfl, ?_⟩
      refine ⟨_, rfl, _, rfl, ?_⟩
      cases t with
      | true =>
        refine iteF ⟨_, _, rfl, s'.trans sT, fun m hm => ?_⟩
        by_cases z : m = i
        · rw [z]; exact hti
        · exact hb m (by omega)
      | false =>
        refine iteT ⟨_, rfl, fun dx nd => ?_⟩
        exact qE i ⟨hti, hb⟩ _ dx (s'.trans sT) nd
    · rintro σ H' ⟨y1, y2, rfl, s', hb⟩
      refine q ?_ H' s'
      rw [List.all_eq_true]
      intro t ht
      obtain ⟨m, hm, e⟩ := List.getElem_of_mem ht
      have := hb m (by rw [List.length_map]; exact hm)
      rw [List.getElem?_eq_getElem hm, e] at this
      exact Option.some.inj this
end
end Fv


set_option Elab.async false
set_option linter.all false
set_option maxRecDepth 100000
set_option maxHeartbeats 4000000
namespace Fv
open PySem PySem.Spec PyProof.Rows L2
/-! ### a long list of Nones -/
def NoneL (H : Hp) (v : V) : Prop := ∃ (a : Addr) (n : Nat), v = .ref a ∧ H a = some (.lst (List.replicate (n + 1) V.non)) ∧ n ≤ 9000
theorem NoneL.same {H H' : Hp} {v : V} (h : NoneL H v) (s : Same H H') : NoneL H' v := by
  obtain ⟨a, n, e, h, l⟩ := h
  exact ⟨a, n, e, s _ _ h, l⟩
def spNo (r : Bool) : Sp := fun vs H Q _ => ∃ (b : Addr) (v : V), vs = [v] ∧ NoneL H v ∧ (∃ o, H b = some o) ∧ ∀ H', Same H H' → Q (.bl r) H'
/-- what a value is found to be: by its data, or as a long list of Nones -/
def ArgN (C : Addr) (H : Hp) (b : Addr) (g : PyData → Bool) (v : V) (r : Bool) : Prop := (∃ d, Dx C H b v d ∧ okD d ∧ r = g d) ∨ (NoneL H v ∧ r = false)
theorem ArgN.same {C : Addr} {H H' : Hp} {b : Addr} {g : PyData → Bool} {v : V} {r : Bool} (h : ArgN C H b g v r) (s : Same H H') : ArgN C H' b g v r := by
  rcases h with ⟨d, h1, h2, h3⟩ | ⟨h1, h2⟩
  · exact .inl ⟨d, h1.mono fun c o _ e => s c o e, h2, h3⟩
  · exact .inr ⟨h1.same s, h2⟩
def spN (C : Addr) (g : PyData → Bool) : Sp := fun vs H Q _ => ∃ (b : Addr) (v : V) (r : Bool), vs = [v] ∧ ArgN C H b g v r ∧ (∃ o, H b = some o) ∧ ∀ H', Same H H' → Q (.bl r) H'
theorem take_rep {α : Type} {x y : α} {n i : Nat} (h : (List.replicate n x)[i]? = some y) : y = x := by
  have := List.mem_of_getElem? h
  exact List.eq_of_mem_replicate this
section
variable {P : Program} {w : World} {K : PySem.W.Frag} {mg : Str → Option Value} {base : Heap} {C : Addr}
theorem FnOk.orr {CX : CXT} {k : Nat} {f : Addr} {fd : FuncData} {ps : List Str} {sp1 sp2 sp : Sp} (F1 : FnOk P w K mg base CX k f fd ps sp1) (F2 : FnOk P w K mg base CX k f fd ps sp2) (h : ∀ vs H Q E, sp vs H Q E → sp1 vs H Q E ∨ sp2 vs H Q E) :
    FnOk P w K mg base CX k f fd ps sp :=
  ⟨fun vs H Q E z => (h vs H Q E z).elim (F1.len vs H Q E) (F2.len vs H Q E), fun A outer s H args us vs Q E hr e0 hb r z => (h vs H Q E z).elim (F1.run A outer s H args us vs Q E hr e0 hb r) (F2.run A outer s H args us vs Q E hr e0 hb r)⟩
theorem orN {k : Nat} {f : Addr} {fd : FuncData} {ps : List Str} {g : PyData → Bool} (F1 : FnOk P w K mg base CX0 k f fd ps (spX C g)) (F2 : FnOk P w K mg base CX0 k f fd ps (spNo false)) : FnOk P w K mg base CX0 k f fd ps (spN C g) :=
  FnOk.orr F1 F2 fun vs H Q E ⟨b, v, r, e, h, hb, q⟩ => by
    rcases h with ⟨d, h1, h2, h3⟩ | ⟨h1, h2⟩
    · exact .inl ⟨b, v, d, e, h1, h2, hb, by rw [← h3]; exact q⟩
    · exact .inr ⟨b, v, e, h1, hb, by rw [← h2]; exact q⟩
theorem no_isint {f : Addr} {fd : FuncData} (F : Fun K "is_integer" "is_integer" sIsInt f fd) (mq : mg "isinstance" = none) (mi : mg "int" = none) (mb : mg "bool" = none) : FnOk P w K mg base CX0 1 f fd ["thing"] (spNo false) := by
  refine F.ok sc1 (fun vs H Q E h => ?_) (fun cdv A outer s H vs Q E hr h => ?_)
  · obtain ⟨b, v, rfl, _⟩ := h
    rfl
  · obtain ⟨b, v, rfl, ⟨a, n, rfl, ea, hn⟩, hb, q⟩ := h
    refine ⟨_, pss_one (ps_ret (pe_and (pe_callB call_isi (by rfl) mq (by decide +kernel) (pa_cons (pv 0) (pa_cons (pe_bltn (v := .ty "int") (by rfl) mi boot_int rfl) pa_nil)))
      (pe_one (pe_not (pe_callB call_isi (by rfl) mq (by decide +kernel) (pa_cons (pv 0) (pa_cons (pe_bltn (v := .ty "bool") (by rfl) mb boot_bool rfl) pa_nil))))))), ?_⟩
    exact ⟨_, rfl, _, _, _, _, _, rfl, .ty "int", .base (.lst ea), kit_int (.list []), _, rfl, q H fun _ _ e => e⟩
theorem no_isrow {f : Addr} {fd : FuncData} (F : Fun K "is_row" "is_row" sIsRow f fd) (mq : mg "isinstance" = none) (ml : mg "list" = none) (mt : mg "tuple" = none) : FnOk P w K mg base CX0 1 f fd ["thing"] (spNo true) := by
  refine F.ok sc5 (fun vs H Q E h => ?_) (fun cdv A outer s H vs Q E hr h => ?_)
  · obtain ⟨b, v, rfl, _⟩ := h
    rfl
  · obtain ⟨b, v, rfl, ⟨a, n, rfl, ea, hn⟩, hb, q⟩ := h
    refine ⟨_, pss_one (ps_ret (pe_callB call_isiT (by rfl) mq (by decide +kernel) (pa_cons (pv 0) (pa_cons (pe_tup (pa_cons (pe_bltn (v := .ty "list") (by rfl) ml boot_list rfl) (pa_cons (pe_bltn (v := .ty "tuple") (by rfl) mt boot_tuple rfl) pa_nil))) pa_nil)))), ?_⟩
    refine ⟨_, rfl, by show 2 ≤ sizeLine; decide, fun p np => ?_⟩
    have ea' := same_upd (o := .tup [.ty "list", .ty "tuple"]) np _ _ ea
    exact ⟨_, _, _, _, _, _, rfl, upd_same, .cons (.ty "list") (.cons (.ty "tuple") .nil), .base (.lst ea'), kitAny_cons (r := true) (kit_list (.list [])) (fun e => by cases e) (fun _ => rfl), q _ (same_upd np)⟩
theorem no_arenames {f fR fN : Addr} {fd fdR fdN : FuncData} (F : Fun K "are_names" "are_names" sAreNames f fd)
    (GR : FnOk P w K mg base CX0 1 fR fdR ["thing"] (spNo true)) (bR : Binds K fdR ["thing"] []) (mR : mg "is_row" = some (.ref fR)) (kR : PySem.W.keepIn K (.ref fR) = true)
    (GN : FnOk P w K mg base CX0 1 fN fdN ["thing"] (spX C nameD)) (bN : Binds K fdN ["thing"] []) (mN : mg "is_name" = some (.ref fN)) (kN : PySem.W.keepIn K (.ref fN) = true)
    (ma : mg "all" = none) (ml : mg "len" = none) : FnOk P w K mg base CX0 2 f fd ["thing"] (spNo false) := by
  refine F.ok scAn (fun vs H Q E h => ?_) (fun cdv A outer s H vs Q E hr h => ?_)
  · obtain ⟨b, v, rfl, _⟩ := h
    rfl
  · obtain ⟨b, v, rfl, hv, hb, q⟩ := h
    refine ⟨_, pss_cons (ps_if (PW.pt (pw_or (pt_not (pt_val (pe_call GR hr (by rfl) mR kR bR .nil pass0 (pa_cons (pv 0) pa_nil)))) (pw_or1 (pt_not (pt_val (pe_callB (cr_all rfl) (by rfl) ma (by decide +kernel) (pa_cons
        (pe_lc (own := [("item", 1)]) (g := gName 1) (tt := tYes) rfl scAn.nd (pi_list (pv 0)) (blkOk_by (N := ["thing", "item"]) (sc := defScope sAreNames) (by decide +kernel))
        (fun _ _ _ _ _ => pg_name (i := 1) scAn.nd rfl (Or.inl rfl)) (fun _ _ _ _ _ => pts_nil) (fun _ _ _ _ _ => pe_call GN hr (by rfl) mN kN bN .nil pass0 (pa_cons (pv 1) pa_nil))) pa_nil)))))))
        (pss_one (ps_ret pe_bl)) pss_nil)
      (pss_one (ps_ret (pe_cmpR op_eq (pe_callB (r := rLenX P w) call_lenX (by rfl) ml PySem.boot_len (pa_cons
        (pe_scX (own := [("item", 1)]) (g := gName 1) (tt := tYes) rfl scAn.nd (pi_row (pv 0)) (blkOk_by (N := ["thing", "item"]) (sc := defScope sAreNames) (by decide +kernel))
        (fun _ _ _ _ _ => pg_name (i := 1) scAn.nd rfl (Or.inl rfl)) (fun _ _ _ _ _ => pts_nil) (fun _ _ _ _ _ => pv 1)) pa_nil)) (pe_callB call_len_seq (by rfl) ml PySem.boot_len (pa_cons (pv 0) pa_nil)) (nomark _)))), ?_⟩
    refine ⟨_, rfl, b, v, rfl, hv, hb, fun H1 s1 => ⟨_, rfl, iteF ?_⟩⟩
    obtain ⟨a, n, rfl, ea, hn⟩ := hv.same s1
    refine ⟨_, rfl, a, rfl, ⟨_, SqL.of ea⟩, fun D hD => ?_⟩
    refine lc_list (K := K) (a := a) (xs := List.replicate (n + 1) V.non) (fun i H' => Same H1 H' ∧ H' D = some (.lst (List.replicate i (V.bl false)))) ⟨same_upd hD, upd_same⟩ (fun i H' _ h => SqL.of (h.1 _ _ ea)) ?_ ?_
    · rintro i x H' hxi ⟨s', e'⟩
      have hi : i < n + 1 := by
        have := (List.getElem?_eq_some_iff.mp hxi).1
        rwa [List.length_replicate] at this
      obtain rfl := take_rep hxi
      refine ⟨rfl, _, rfl, b, .non, .none, rfl, .non, True.intro, there (s1.trans s') hb, fun H3 s3 => ⟨_, s3 _ _ e', ?_, fun c o e => ?_, ?_⟩⟩
      · rw [List.length_replicate]
        have : 9001 < sizeLine := by decide
        omega
      · rw [upd_ne (ne_of_none e hD)]
        exact s3 _ _ (s' c o e)
      · rw [upd_same, List.replicate_succ']
        rfl
    · rintro H2 ⟨s2, e2⟩
      rw [List.length_replicate] at e2
      refine ⟨D, List.replicate (n + 1) false, rfl, SqL.of (by rw [List.map_replicate]; exact e2), _, rfl, ?_⟩
      rw [show (List.replicate (n + 1) false).all id = false from rfl]
      exact iteT (q H2 (s1.trans s2))
end
end Fv


set_option Elab.async false
set_option linter.all false
set_option maxRecDepth 100000
set_option maxHeartbeats 4000000
namespace Fv
open PySem PySem.Spec PyProof.Rows L2
/-! ### the law's facts, of a drawn start -/
abbrev sLFacts : Stmt := top 32
/-- the number of a name -/
def potL : List Str → List Int → Str → Int
  | z :: zs, s :: ss, u => if u = z then s else potL zs ss u
  | _, _, _ => 0
theorem potL_at : ∀ {zs : List Str} {ss : List Int} {i : Nat} {u : Str} {v : Int}, zs.Nodup → zs[i]? = some u → ss[i]? = some v → potL zs ss u = v
  | [], _, i, _, _, _, h, _ => by cases i <;> cases h
  | _ :: _, [], i, _, _, _, _, h => by cases i <;> cases h
  | z :: zs, s :: ss, 0, u, v, _, h, k => by
    cases h
    cases k
    show (if _ = _ then _ else _) = _
    rw [if_pos rfl]
  | z :: zs, s :: ss, i + 1, u, v, nd, h, k => by
    have nd' := List.nodup_cons.mp nd
    have hm : u ∈ zs := List.mem_of_getElem? (by simpa using h)
    have ne : u ≠ z := fun e => nd'.1 (by rw [← e]; exact hm)
    show (if _ = _ then _ else _) = _
    rw [if_neg ne]
    exact potL_at nd'.2 (by simpa using h) (by simpa using k)
theorem empty_out {zs : List Str} (hz : ∀ z ∈ zs, NmOk z) : ("" : Str) ∉ zs := fun h => by
  have := (hz _ h).1
  have e : ("" : Str).length = 0 := rfl
  omega
/-- nothing, then the names -/
abbrev srcs (zs : List Str) : List Str := ("" : Str) :: zs
theorem src_nodup {zs : List Str} (hz : ∀ z ∈ zs, NmOk z) (nd : zs.Nodup) : (srcs zs).Nodup := List.nodup_cons.mpr ⟨empty_out hz, nd⟩
theorem src_mem {zs : List Str} {u : Str} : u ∈ srcs zs ↔ SrcIn zs u := by
  unfold SrcIn
  rw [List.mem_cons]
/-- numbers that are not too great -/
def FaB (f : FaT) : Prop := -(3 * 10 ^ 59) ≤ f.2.2 ∧ f.2.2 ≤ 3 * 10 ^ 59
def spLFacts : Sp := fun vs H Q _ => ∃ (b n : Addr) (zs : List Str), vs = [.ref b, .ref n] ∧ Bag H b ∧ H n = some (.lst (zs.map V.str)) ∧ n ≠ b ∧ zs.length ≤ 6 ∧ (∀ z ∈ zs, NmOk z) ∧ zs.Nodup ∧
  ∀ (p : Addr) (xs : List V) (L : List FaT) (pot : Str → Int) (H' : Hp), H p = none → H' p = some (.lst xs) → Its H' xs L → L.length ≤ 3 → (∀ f ∈ L, SrcIn zs f.1 ∧ SrcIn zs f.2.1) → (∀ f ∈ L, FaB f) → M.Keeps L pot → p ≠ b → Bag H' b → Keep b H H' → (∀ c, BagAt H b c → BagAt H' b c) → Q (.ref p) H'
section
variable {P : Program} {w : World} {K : PySem.W.Frag} {mg : Str → Option Value} {base : Heap} {C : Addr}
abbrev nLf : List Str := ["_law_bag_here", "_law_names_here", "_law_sources", "_law_found", "_law_start", "_law_k", "_law_x", "_law_y", "_law_name"]
theorem scLf : FnScope nLf ["_law_bag_here", "_law_names_here"] (defScope sLFacts) := ⟨rfl, rfl, rfl, by decide +kernel, rfl, by decide +kernel, by decide +kernel⟩
theorem ok_lfacts {f fT fN : Addr} {fd fdT fdN : FuncData} (F : Fun K "_law_facts" "_law_facts" sLFacts f fd)
    (GT : FnOk P w K mg base CX0 1 fT fdT ["_law_bag_here", "_law_many"] spTake) (bT : Binds K fdT ["_law_bag_here", "_law_many"] []) (mT : mg "_law_take" = some (.ref fT)) (kT : PySem.W.keepIn K (.ref fT) = true)
    (GN : FnOk P w K mg base CX0 2 fN fdN ["_law_bag_here"] spNumber) (bN : Binds K fdN ["_law_bag_here"] []) (mN : mg "_law_number" = some (.ref fN)) (kN : PySem.W.keepIn K (.ref fN) = true)
    (mr : mg "range" = none) (ml : mg "len" = none) (mL : mg "list" = none) : FnOk P w K mg base CX0 3 f fd ["_law_bag_here", "_law_names_here"] spLFacts := by
  refine F.ok scLf (fun vs H Q E h => ?_) (fun cdv A outer s H vs Q E hr h => ?_)
  · obtain ⟨_, _, _, rfl, _⟩ := h
    rfl
  · obtain ⟨b, n, zs, rfl, B, hn, nb, zl, hz, nd, q⟩ := h
    have hr1 : Room 1 _ := hr.mono (by decide)
    refine ⟨_, pss_cons (ps_par (i := 2) (j := 3) (by rfl) scLf.nd rfl rfl (by decide) rfl rfl (pa_cons (pe_op op_cat (pe_lst (pa_cons pe_str pa_nil)) (pe_callTy call_list_of (by rfl) mL boot_list (pa_cons (pv 1) pa_nil))) (pa_cons (pe_lst pa_nil) pa_nil)) (by rfl))
      (pss_cons (ps_set (i := 4) scLf.nd rfl (.inl rfl) (pe_op op_cat (pe_lst (pa_cons pe_int pa_nil))
        (pe_lc (own := [("_law_name", 8)]) (g := gName 8) (tt := tYes) rfl scLf.nd (pi_list (pv 1)) (blkOk_by (N := nLf) (sc := defScope sLFacts) (by decide +kernel))
          (fun _ _ _ _ _ => pg_name (i := 8) scLf.nd rfl (.inl rfl)) (fun _ _ _ _ _ => pts_nil) (fun _ _ _ _ _ => pe_call GN (by exact hr) (by rfl) mN kN bN .nil pass0 (pa_cons (pv 0) pa_nil)))))
      (pss_cons (ps_for PassesOwn.never rfl (pi_range1 (by rfl) mr (pa_cons (pe_call GT hr1 (by rfl) mT kT bT .nil pass0 (pa_cons (pv 0) (pa_cons pe_int pa_nil))) pa_nil)) (pg_name (i := 5) scLf.nd rfl (.inl rfl))
        (pss_cons (ps_par (i := 6) (j := 7) (by rfl) scLf.nd rfl rfl (by decide) rfl rfl (pa_cons (pe_call GT hr1 (by rfl) mT kT bT .nil pass0 (pa_cons (pv 0) (pa_cons (pe_callB call_len_seq (by rfl) ml PySem.boot_len (pa_cons (pv 2) pa_nil)) pa_nil))) (pa_cons (pe_call GT hr1 (by rfl) mT kT bT .nil pass0 (pa_cons (pv 0) (pa_cons (pe_callB call_len_seq (by rfl) ml PySem.boot_len (pa_cons (pv 2) pa_nil)) pa_nil))) pa_nil)) (by rfl))
        (pss_one (ps_expr (pe_bm PySem.F.plainAttrs_list PySem.F.slot_list_append PySem.F.type_list_append mt_append (pv 3) (pa_cons (pe_tup
          (pa_cons (pe_ix ix_list (pv 2) (pv 6) (fun _ _ => rfl)) (pa_cons (pe_ix ix_list (pv 2) (pv 7) (fun _ _ => rfl))
          (pa_cons (pe_op op_add (pe_op op_sub (pe_ix ix_list (pv 4) (pv 6) (fun _ _ => rfl)) (pe_ix ix_list (pv 4) (pv 7) (fun _ _ => rfl))) (pe_call GT hr1 (by rfl) mT kT bT .nil pass0 (pa_cons (pv 0) (pa_cons pe_int pa_nil)))) pa_nil)))) pa_nil))))))
      (pss_one (ps_ret (pv 3))))), ?_⟩
    obtain ⟨c0, B0⟩ := B
    rw [show L2.start nLf [V.ref b, V.ref n] = [some (.ref b), some (.ref n), none, none, none, none, none, none, none] from rfl]
    refine ⟨by show 1 ≤ sizeLine; decide, fun l1 n1 => ?_⟩
    obtain ⟨B1, l1b, l1c⟩ := BagAt.new (o := .lst [.str ("" : Str)]) B0 n1
    have s1 := same_upd (o := .lst [.str ("" : Str)]) n1
    refine ⟨_, rfl, n, _, rfl, .inl (SqL.of (s1 _ _ hn)), fun l2 n2 => ?_⟩
    obtain ⟨B2, l2b, l2c⟩ := BagAt.new (o := .lst (zs.map V.str)) B1 n2
    have s2 := s1.trans (same_upd (o := .lst (zs.map V.str)) n2)
    have e1 : (upd (upd H l1 (.lst [.str ("" : Str)])) l2 (.lst (zs.map V.str))) l1 = some (.lst [.str ("" : Str)]) := by rw [upd_ne (ne_of_none upd_same n2)]; exact upd_same
    refine ⟨l1, l2, _, _, rfl, rfl, e1, upd_same, ?_, fun l3 n3 => ?_⟩
    · rw [List.length_map]
      exact small_line (by rw [show ([V.str ("" : Str)]).length = 1 from rfl]; omega)
    obtain ⟨B3, l3b, l3c⟩ := BagAt.new (o := .lst ([.str ("" : Str)] ++ zs.map V.str)) B2 n3
    have s3 := s2.trans (same_upd (o := .lst ([.str ("" : Str)] ++ zs.map V.str)) n3)
    have e3 : (upd (upd (upd H l1 (.lst [.str ("" : Str)])) l2 (.lst (zs.map V.str))) l3 (.lst ([.str ("" : Str)] ++ zs.map V.str))) l3 = some (.lst ((srcs zs).map V.str)) := upd_same
    generalize upd (upd (upd H l1 (.lst [.str ("" : Str)])) l2 (.lst (zs.map V.str))) l3 (.lst ([.str ("" : Str)] ++ zs.map V.str)) = H3 at B3 s3 e3 ⊢
    refine ⟨Nat.zero_le _, fun p np => ?_⟩
    obtain ⟨B4, pb, pc⟩ := BagAt.new (o := .lst []) B3 np
    have s4 := s3.trans (same_upd (o := .lst []) np)
    have ep : (upd H3 p (.lst [])) p = some (.lst []) := upd_same
    have e4 : (upd H3 p (.lst [])) l3 = some (.lst ((srcs zs).map V.str)) := by rw [upd_ne (ne_of_none e3 np)]; exact e3
    have pH : H p = none := by
      cases e : H p with
      | none => rfl
      | some o => rw [s3 _ _ e] at np; cases np
    generalize upd H3 p (.lst []) = H4 at B4 s4 ep e4 ⊢
    have l3p : l3 ≠ p := fun z => by rw [z, np] at e3; cases e3
    refine ⟨_, _, rfl, ?_⟩
    simp only [List.set_cons_zero, List.set_cons_succ]
    refine ⟨by show 1 ≤ sizeLine; decide, fun l5 n5 => ?_⟩
    obtain ⟨B5, l5b, l5c⟩ := BagAt.new (o := .lst [.int 0]) B4 n5
    have s5 := s4.trans (same_upd (o := .lst [.int 0]) n5)
    have e5 : (upd H4 l5 (.lst [.int 0])) l5 = some (.lst [.int 0]) := upd_same
    have ep5 : (upd H4 l5 (.lst [.int 0])) p = some (.lst []) := by rw [upd_ne (ne_of_none ep n5)]; exact ep
    have e35 : (upd H4 l5 (.lst [.int 0])) l3 = some (.lst ((srcs zs).map V.str)) := by rw [upd_ne (ne_of_none e4 n5)]; exact e4
    generalize upd H4 l5 (.lst [.int 0]) = H5 at B5 s5 e5 ep5 e35 ⊢
    refine ⟨_, rfl, n, rfl, ⟨_, SqL.of (s5 _ _ hn)⟩, fun D nD => ?_⟩
    obtain ⟨B6, Db, Dc⟩ := BagAt.new (o := .lst []) B5 nD
    refine lc_it (walk_list (K := K) (a := n) (xs := zs.map V.str)) (fun i H' => Keep b H5 H' ∧ BagAt H' b c0 ∧ ∃ ss : List Int, H' D = some (.lst (ss.map V.int)) ∧ ss.length = i ∧ ∀ k ∈ ss, -(10 ^ 59) ≤ k ∧ k ≤ 10 ^ 59)
      ⟨Keep.new nD, B6, [], upd_same, rfl, fun k hk => by cases hk⟩ (fun i H' _ h => SqL.of (h.1 _ _ nb (s5 _ _ hn))) ?_ ?_
    · rintro i y H' H2 hi ⟨k', B', ss, eD, hs, hb⟩ ⟨rfl, hyi⟩
      rw [List.length_map] at hi
      refine ⟨wp1 wp0, _, rfl, b, rfl, B'.bag, fun z H6 z1 z2 B7 k7 g7 => ?_⟩
      refine ⟨ss.map V.int, k7 _ _ Db eD, small60 (by rw [List.length_map]; omega), fun c o nc e => ?_, (g7 _ B').put Db Dc, ss ++ [z], ?_, by rw [List.length_append, hs]; rfl, fun k hk => ?_⟩
      · rw [upd_ne (ne_of_none e nD)]
        exact k7 _ _ nc (k' c o nc e)
      · rw [upd_same, List.map_append]
        rfl
      · rcases List.mem_append.mp hk with h | h
        · exact hb k h
        · rw [List.mem_singleton.mp h]
          exact ⟨z1, z2⟩
    rintro H6 ⟨k6, B7, ss, eD, hs, hb⟩
    rw [List.length_map] at hs
    refine ⟨l5, D, _, _, rfl, rfl, k6 _ _ l5b e5, eD, ?_, fun l7 n7 => ?_⟩
    · rw [List.length_map]
      exact small_line (by rw [show ([V.int 0]).length = 1 from rfl]; omega)
    obtain ⟨B8, l7b, l7c⟩ := BagAt.new (o := .lst ([.int 0] ++ ss.map V.int)) B7 n7
    have k8 : Keep b H (upd H6 l7 (.lst ([.int 0] ++ ss.map V.int))) := fun c o nc e => Keep.new n7 c o nc (k6 c o nc (s5 c o e))
    have e7 : (upd H6 l7 (.lst ([.int 0] ++ ss.map V.int))) l7 = some (.lst (((0 :: ss : List Int)).map V.int)) := upd_same
    have ep8 := Keep.new (b := b) (o := .lst ([.int 0] ++ ss.map V.int)) n7 _ _ pb (k6 _ _ pb ep5)
    have e38 := Keep.new (b := b) (o := .lst ([.int 0] ++ ss.map V.int)) n7 _ _ l3b (k6 _ _ l3b e35)
    have l7p : l7 ≠ p := fun z => by rw [z, k6 _ _ pb ep5] at n7; cases n7
    generalize upd H6 l7 (.lst ([.int 0] ++ ss.map V.int)) = H8 at B8 k8 e7 ep8 e38 ⊢
    simp only [gName, wipe, List.map_cons, List.map_nil, List.set_cons_zero, List.set_cons_succ]
    refine ⟨_, rfl, b, _, rfl, B8.bag, by decide, by decide, fun m H9 hm B9 k9 g9 => ?_⟩
    have sn : (srcs zs).Nodup := src_nodup hz nd
    have sl : (srcs zs).length = zs.length + 1 := rfl
    have ssl : (0 :: ss : List Int).length = zs.length + 1 := by rw [List.length_cons, hs]
    refine ⟨m, rfl, by omega, by omega, ?_⟩
    refine for_range (n := m) (fun i σ H' => ∃ (y5 y6 y7 y8 : Option V) (xs : List V) (L : List FaT), σ = [some (.ref b), some (.ref n), some (.ref l3), some (.ref p), some (.ref l7), y5, y6, y7, y8] ∧ BagAt H' b c0 ∧ Keep b H H' ∧ H' l3 = some (.lst ((srcs zs).map V.str)) ∧ H' l7 = some (.lst ((0 :: ss : List Int).map V.int)) ∧
        H' p = some (.lst xs) ∧ Its H' xs L ∧ L.length = i ∧ (∀ f ∈ L, SrcIn zs f.1 ∧ SrcIn zs f.2.1) ∧ (∀ f ∈ L, FaB f) ∧ M.Keeps L (potL (srcs zs) (0 :: ss)))
      ⟨none, none, none, none, [], [], rfl, g9 _ B8, k8.trans k9, k9 _ _ l3b e38, k9 _ _ l7b e7, k9 _ _ pb ep8, Its.nil, rfl, fun f hf => absurd hf List.not_mem_nil, fun f hf => absurd hf List.not_mem_nil, fun x y c h => absurd h List.not_mem_nil⟩ ?_ ?_
    · rintro i σ H' hi ⟨y5, y6, y7, y8, xs, L, rfl, B', k', e3', e7', ep', hI, hL, hin, hfb, hk⟩
      have sl2 : ((srcs zs).map V.str).length = zs.length + 1 := by rw [List.length_map, sl]
      refine ⟨_, rfl, _, rfl, l3, _, rfl, .inl (SqL.of e3'), b, _, rfl, B'.bag, by omega, by omega, fun ix H1 h1 B1 k1 g1 => ?_⟩
      refine ⟨_, rfl, _, rfl, l3, _, rfl, .inl (SqL.of (k1 _ _ l3b e3')), b, _, rfl, B1, by omega, by omega, fun iy H2 h2 B2 k2 g2 => ⟨_, _, rfl, ?_⟩⟩
      simp only [gName, List.set_cons_zero, List.set_cons_succ]
      rw [sl2] at h1 h2
      have lx : ix < (srcs zs).length := by omega
      have ly : iy < (srcs zs).length := by omega
      have lx2 : ix < (0 :: ss : List Int).length := by omega
      have ly2 : iy < (0 :: ss : List Int).length := by omega
      obtain ⟨ux, eux⟩ : ∃ u, (srcs zs)[ix]? = some u := ⟨_, List.getElem?_eq_getElem lx⟩
      obtain ⟨uy, euy⟩ : ∃ u, (srcs zs)[iy]? = some u := ⟨_, List.getElem?_eq_getElem ly⟩
      obtain ⟨vx, evx⟩ : ∃ v, (0 :: ss : List Int)[ix]? = some v := ⟨_, List.getElem?_eq_getElem lx2⟩
      obtain ⟨vy, evy⟩ : ∃ v, (0 :: ss : List Int)[iy]? = some v := ⟨_, List.getElem?_eq_getElem ly2⟩
      have kk := k1.trans k2
      have e3b := kk _ _ l3b e3'
      have e7b := kk _ _ l7b e7'
      have epb := kk _ _ pb ep'
      have bd : ∀ v, v ∈ (0 :: ss : List Int) → -(10 ^ 59) ≤ v ∧ v ≤ 10 ^ 59 := fun v hv => by
        rcases List.mem_cons.mp hv with rfl | hv
        · exact ⟨by decide, by decide⟩
        · exact hb v hv
      have bx := bd _ (List.mem_of_getElem? evx)
      have by' := bd _ (List.mem_of_getElem? evy)
      refine ⟨_, rfl, .inl ⟨rfl, _, SqL.of epb⟩, ?_⟩
      refine ⟨_, rfl, _, rfl, l3, _, _, .str ux, rfl, rfl, SqL.of e3b, atI_nat (by rw [List.getElem?_map, eux]; rfl), ?_⟩
      refine ⟨_, rfl, _, rfl, l3, _, _, .str uy, rfl, rfl, SqL.of e3b, atI_nat (by rw [List.getElem?_map, euy]; rfl), ?_⟩
      refine ⟨_, rfl, _, rfl, l7, _, _, .int vx, rfl, rfl, SqL.of e7b, atI_nat (by rw [List.getElem?_map, evx]; rfl), ?_⟩
      refine ⟨_, rfl, _, rfl, l7, _, _, .int vy, rfl, rfl, SqL.of e7b, atI_nat (by rw [List.getElem?_map, evy]; rfl), _, _, rfl, rfl, ?_⟩
      refine ⟨_, rfl, b, _, rfl, B2, by decide, by decide, fun d H4 h4 B4' k4 g4 => ⟨_, _, rfl, rfl, by show 3 ≤ sizeLine; decide, fun t nt => ?_⟩⟩
      have kk4 := kk.trans k4
      obtain ⟨B5', tb, tc⟩ := BagAt.new (o := .tup [.str ux, .str uy, .int (vx - vy + d)]) (g4 _ (g2 _ (g1 _ B'))) nt
      have sT := same_upd (o := .tup [.str ux, .str uy, .int (vx - vy + d)]) nt
      have xl : xs.length = i := by rw [hI.len, hL]
      refine ⟨p, xs, _, rfl, rfl, sT _ _ (k4 _ _ pb epb), small1000 (by omega), ?_⟩
      refine ⟨_, _, _, _, _, L ++ [(ux, uy, vx - vy + d)], rfl, B5'.put pb pc, fun c o nc e => ?_, ?_, ?_, upd_same, ?_, by rw [List.length_append, hL]; rfl, fun f hf => ?_, fun f hf => ?_, fun x y c h => ?_⟩
      · by_cases z : c = p
        · rw [z, pH] at e
          cases e
        · rw [upd_ne z]
          exact sT _ _ (kk4 c o nc (k' c o nc e))
      · rw [upd_ne l3p]
        exact sT _ _ (k4 _ _ l3b e3b)
      · rw [upd_ne l7p]
        exact sT _ _ (k4 _ _ l7b e7b)
      · refine Its.snoc (hI.samT fun t' ys e => ?_) (by rw [upd_ne (ne_of (sT _ _ (k4 _ _ pb epb)) upd_same (by intro z; cases z)).symm]; exact upd_same)
        have tp : t' ≠ p := ne_of e ep' (by intro z; cases z)
        have tb' : t' ≠ b := fun z => by
          obtain ⟨cs, pp, s2, ii, BB⟩ := B'
          rw [z, BB.at_] at e
          cases e
        rw [upd_ne tp]
        exact sT _ _ (kk4 _ _ tb' e)
      · rcases List.mem_append.mp hf with hf | hf
        · exact hin f hf
        · rw [List.mem_singleton.mp hf]
          exact ⟨src_mem.mp (List.mem_of_getElem? eux), src_mem.mp (List.mem_of_getElem? euy)⟩
      · rcases List.mem_append.mp hf with hf | hf
        · exact hfb f hf
        · rw [List.mem_singleton.mp hf]
          show -(3 * 10 ^ 59) ≤ vx - vy + (d : Int) ∧ vx - vy + (d : Int) ≤ 3 * 10 ^ 59
          omega
      · rcases List.mem_append.mp h with h | h
        · exact hk x y c h
        · obtain ⟨rfl, rfl, rfl⟩ : x = ux ∧ y = uy ∧ c = vx - vy + d := by simpa using h
          rw [potL_at sn eux evx, potL_at sn euy evy]
          omega
    · rintro σ H' ⟨y5, y6, y7, y8, xs, L, rfl, B', k', e3', e7', ep', hI, hL, hin, hfb, hk⟩
      exact ⟨_, rfl, q p xs L _ H' pH ep' hI (by omega) hin hfb hk pb B'.bag k' fun c hc => by rw [BagAt.uniq B0 hc]; exact B'⟩
end
end Fv


set_option Elab.async false
set_option linter.all false
set_option maxRecDepth 100000
set_option maxHeartbeats 4000000
namespace Fv
open PySem PySem.Spec PyProof.Rows L2
/-! ### the law's least sums -/
abbrev sLClosed : Stmt := top 33
def InV (V : List Str) (T : M.Tb Str) : Prop := ∀ x y c, T x y = some c → x ∈ V ∧ y ∈ V
theorem InV.put {V : List Str} {T : M.Tb Str} (h : InV V T) {x y : Str} (hx : x ∈ V) (hy : y ∈ V) (c : Int) : InV V (M.put T x y c) := fun u v d e => by
  unfold M.put at e
  split at e
  · rename_i z
    rw [z.1, z.2]
    exact ⟨hx, hy⟩
  · exact h _ _ _ e
/-- the first i of the points with themselves -/
def diagN (V : List Str) (i : Nat) : M.Tb Str := fun x y => if x = y ∧ x ∈ V.take i then some 0 else none
theorem diagN_zero {V : List Str} : diagN V 0 = fun _ _ => none := by
  funext x y
  unfold diagN
  rw [if_neg (by simp)]
theorem diagN_all {V : List Str} : diagN V V.length = M.diag V := by
  funext x y
  unfold diagN M.diag
  rw [List.take_length]
theorem diagN_succ {V : List Str} {i : Nat} {u : Str} (e : V[i]? = some u) : diagN V (i + 1) = M.put (diagN V i) u u 0 := by
  funext x y
  unfold diagN M.put
  have et : V.take (i + 1) = V.take i ++ [u] := by rw [List.take_succ, e]; rfl
  rw [et]
  by_cases h : x = u ∧ y = u
  · rw [if_pos h, if_pos ⟨h.1.trans h.2.symm, by rw [h.1]; simp⟩]
  · rw [if_neg h]
    show _ = if x = y ∧ x ∈ V.take i then some 0 else none
    by_cases h2 : x = y ∧ x ∈ V.take i
    · rw [if_pos h2, if_pos ⟨h2.1, List.mem_append_left _ h2.2⟩]
    · rw [if_neg h2, if_neg]
      rintro ⟨h3, h4⟩
      rcases List.mem_append.mp h4 with h4 | h4
      · exact h2 ⟨h3, h4⟩
      · have := List.mem_singleton.mp h4
        exact h ⟨this, h3 ▸ this⟩
theorem diagN_in {V : List Str} {i : Nat} : InV V (diagN V i) := fun x y c e => by
  unfold diagN at e
  split at e
  · rename_i h
    exact ⟨List.mem_of_mem_take h.2, h.1 ▸ List.mem_of_mem_take h.2⟩
  · cases e
theorem foldl_take {α β : Type} (f : β → α → β) (L : List α) (b : β) {i : Nat} {a : α} (e : L[i]? = some a) : (L.take (i + 1)).foldl f b = f ((L.take i).foldl f b) a := by
  rw [List.take_succ, e, List.foldl_append]
  rfl
def spLClosed : Sp := fun vs H Q _ => ∃ (n a : Addr) (zs : List Str) (xs : List V) (L : List FaT), vs = [.ref n, .ref a] ∧ H n = some (.lst (zs.map V.str)) ∧ H a = some (.lst xs) ∧ Its H xs L ∧ zs.length ≤ 6 ∧ (∀ f ∈ L, SrcIn zs f.1 ∧ SrcIn zs f.2.1) ∧
  ∀ (q : Addr) (kvs : List (List Key × V)) (H' : Hp), H q = none → Same H H' → H' q = some (.dT kvs) → TbL kvs (M.rounds (srcs zs) L (zs.length + 2) (M.diag (srcs zs))) → Q (.ref q) H'
section
variable {P : Program} {w : World} {K : PySem.W.Frag} {mg : Str → Option Value} {base : Heap} {C : Addr}
abbrev nLc : List Str := ["_law_names_here", "_law_facts_here", "_law_bound", "_law_one", "_law_turn", "_law_x", "_law_y", "_law_c", "_law_passed"]
theorem scLc : FnScope nLc ["_law_names_here", "_law_facts_here"] (defScope sLClosed) := ⟨rfl, rfl, rfl, by decide +kernel, rfl, by decide +kernel, by decide +kernel⟩
theorem ok_lclosed {f : Addr} {fd : FuncData} (F : Fun K "_law_closed" "_law_closed" sLClosed f fd) (mr : mg "range" = none) (ml : mg "len" = none) (mL : mg "list" = none) : FnOk P w K mg base CX0 1 f fd ["_law_names_here", "_law_facts_here"] spLClosed := by
  refine F.ok scLc (fun vs H Q E h => ?_) (fun cdv A outer s H vs Q E hr h => ?_)
  · obtain ⟨_, _, _, _, _, rfl, _⟩ := h
    rfl
  · obtain ⟨n, a, zs, xs, L, rfl, hn, ha, hI, zl, hin, q⟩ := h
    have hu := hu_of hr
    refine ⟨_, pss_cons (ps_set (i := 2) scLc.nd rfl (.inl rfl) pe_dnewT)
      (pss_cons (ps_for PassesOwn.never rfl (pi_list (pe_op op_cat (pe_lst (pa_cons pe_str pa_nil)) (pe_callTy call_list_of (by rfl) mL boot_list (pa_cons (pv 0) pa_nil)))) (pg_name (i := 3) scLc.nd rfl (.inl rfl))
        (pss_one (ps_dput hu (pv 2) (pe_tup (pa_cons (pv 3) (pa_cons (pv 3) pa_nil))) pe_int rfl)))
      (pss_cons (ps_for PassesOwn.never rfl (pi_range1 (by rfl) mr (pa_cons (pe_op op_add (pe_callB call_len_seq (by rfl) ml PySem.boot_len (pa_cons (pv 0) pa_nil)) pe_int) pa_nil)) (pg_name (i := 4) scLc.nd rfl (.inl rfl))
        (pss_one (ps_for PassesOwn.never rfl (pi_list (pv 1)) (pg_tup (by rfl) (pgs_cons (pg_name (i := 5) scLc.nd rfl (.inl rfl)) (pgs_cons (pg_name (i := 6) scLc.nd rfl (.inl rfl)) (pgs_cons (pg_name (i := 7) scLc.nd rfl (.inl rfl)) pgs_nil))))
          (pss_one (ps_for PassesOwn.never rfl (pi_list (pe_op op_cat (pe_lst (pa_cons pe_str pa_nil)) (pe_callTy call_list_of (by rfl) mL boot_list (pa_cons (pv 0) pa_nil)))) (pg_name (i := 3) scLc.nd rfl (.inl rfl))
            (pss_cons (ps_set (i := 8) scLc.nd rfl (.inl rfl) (pe_ifExp (pt_cmp (pc_din hu (pe_tup (pa_cons (pv 6) (pa_cons (pv 3) pa_nil))) (pv 2))) (pe_op op_add (pe_dget hu (pv 2) (pe_tup (pa_cons (pv 6) (pa_cons (pv 3) pa_nil))) (fun _ _ => rfl)) (pv 7)) pe_non))
            (pss_one (ps_if (PW.pt (pw_and (pt_cmpR op_notN (pv 8) pe_non (nomark _)) (pw_and1 (PW.pt (pw_or (pt_cmp (pc_dnotin hu (pe_tup (pa_cons (pv 5) (pa_cons (pv 3) pa_nil))) (pv 2))) (pw_or1 (pt_cmpR op_gt (pe_dget hu (pv 2) (pe_tup (pa_cons (pv 5) (pa_cons (pv 3) pa_nil))) (fun _ _ => rfl)) (pv 8) (nomark _))))))))
              (pss_one (ps_dput hu (pv 2) (pe_tup (pa_cons (pv 5) (pa_cons (pv 3) pa_nil))) (pv 8) rfl)) pss_nil))))))))
      (pss_one (ps_ret (pv 2))))), ?_⟩
    rw [show L2.start nLc [V.ref n, V.ref a] = [some (.ref n), some (.ref a), none, none, none, none, none, none, none] from rfl]
    intro q0 nq
    have s0 := same_upd (o := .dT []) nq
    have eq0 : (upd H q0 (.dT [])) q0 = some (.dT []) := upd_same
    generalize upd H q0 (.dT []) = H0 at s0 eq0 ⊢
    simp only [gName, List.set_cons_zero, List.set_cons_succ]
    have few : ∀ {kvs : List (List Key × V)} {T : M.Tb Str}, TbL kvs T → InV (srcs zs) T → kvs.length ≤ 49 := fun hT hV => by
      have h1 := hT.few (srcs zs) hV
      have h2 : (srcs zs).length ≤ 7 := by rw [List.length_cons]; omega
      have h3 := Nat.mul_le_mul h2 h2
      omega
    -- nothing, and the names: a new list
    refine ⟨by show 1 ≤ sizeLine; decide, fun l1 n1 => ?_⟩
    have s1 := same_upd (o := .lst [.str ("" : Str)]) n1
    refine ⟨_, rfl, n, _, rfl, .inl (SqL.of (s1 _ _ (s0 _ _ hn))), fun l2 n2 => ?_⟩
    have s2 := s1.trans (same_upd (o := .lst (zs.map V.str)) n2)
    have e1 : (upd (upd H0 l1 (.lst [.str ("" : Str)])) l2 (.lst (zs.map V.str))) l1 = some (.lst [.str ("" : Str)]) := by rw [upd_ne (ne_of_none upd_same n2)]; exact upd_same
    refine ⟨l1, l2, _, _, rfl, rfl, e1, upd_same, ?_, fun l3 n3 => ?_⟩
    · rw [List.length_map]
      exact small_line (by rw [show ([V.str ("" : Str)]).length = 1 from rfl]; omega)
    have s3 := s2.trans (same_upd (o := .lst ([.str ("" : Str)] ++ zs.map V.str)) n3)
    have e3 : (upd (upd (upd H0 l1 (.lst [.str ("" : Str)])) l2 (.lst (zs.map V.str))) l3 (.lst ([.str ("" : Str)] ++ zs.map V.str))) l3 = some (.lst ((srcs zs).map V.str)) := upd_same
    generalize upd (upd (upd H0 l1 (.lst [.str ("" : Str)])) l2 (.lst (zs.map V.str))) l3 (.lst ([.str ("" : Str)] ++ zs.map V.str)) = H3 at s3 e3 ⊢
    have eq3 := s3 _ _ eq0
    have s03 := s0.trans s3
    have l3q : l3 ≠ q0 := ne_of e3 eq3 (by intro z; cases z)
    refine ⟨l3, rfl, ⟨_, SqL.of e3⟩, ?_⟩
    refine for_list (K := K) (a := l3) (xs := (srcs zs).map V.str) (fun i σ H' => ∃ (y3 : Option V) (kvs : List (List Key × V)), σ = [some (.ref n), some (.ref a), some (.ref q0), y3, none, none, none, none, none] ∧ Same H H' ∧ H' l3 = some (.lst ((srcs zs).map V.str)) ∧ H' q0 = some (.dT kvs) ∧ TbL kvs (diagN (srcs zs) i))
      ⟨none, [], rfl, s03, e3, eq3, by rw [diagN_zero]; exact .nil⟩ (fun i σ H' _ h => by
        obtain ⟨_, _, _, _, e, _⟩ := h
        exact SqL.of e) ?_ ?_
    · rintro i x σ H' hxi ⟨y3, kvs, rfl, s', el, eq, hT⟩
      obtain ⟨u, hu, rfl⟩ : ∃ u, (srcs zs)[i]? = some u ∧ x = .str u := by
        rw [List.getElem?_map] at hxi
        cases e : (srcs zs)[i]? with
        | none => rw [e] at hxi; cases hxi
        | some z => rw [e] at hxi; cases hxi; exact ⟨z, rfl, rfl⟩
      have fw := few hT diagN_in
      simp only [gName, List.set_cons_zero, List.set_cons_succ]
      refine ⟨_, rfl, _, rfl, _, rfl, by show 2 ≤ sizeLine; decide, fun t nt => ?_⟩
      have sT := same_upd (o := .tup [.str u, .str u]) nt
      refine ⟨q0, _, rfl, DPut.t (k := kP u u) (sT _ _ eq) upd_same (small60 (by omega)), ?_⟩
      refine ⟨_, _, rfl, fun c o e => ?_, ?_, upd_same, ?_⟩
      · rw [upd_ne (ne_of_none e nq)]
        exact sT _ _ (s' c o e)
      · rw [upd_ne l3q]
        exact sT _ _ el
      · rw [diagN_succ hu]
        exact hT.put u u 0
    rintro σ H4 ⟨y3, kvs0, rfl, s4, el4, eq4, hT4⟩
    rw [List.length_map, diagN_all] at hT4
    refine ⟨_, rfl, n, _, rfl, .inl (SqL.of (s4 _ _ hn)), _, _, rfl, rfl, zs.length + 2, ?_, by omega, by omega, ?_⟩
    · rw [List.length_map]
    have dV : InV (srcs zs) (M.diag (srcs zs)) := by rw [← diagN_all]; exact diagN_in
    refine for_range (n := zs.length + 2) (fun i σ H' => ∃ (y3 y4 y5 y6 y7 y8 : Option V) (kvs : List (List Key × V)), σ = [some (.ref n), some (.ref a), some (.ref q0), y3, y4, y5, y6, y7, y8] ∧ Same H H' ∧ H' q0 = some (.dT kvs) ∧ TbL kvs (M.rounds (srcs zs) L i (M.diag (srcs zs))) ∧ InV (srcs zs) (M.rounds (srcs zs) L i (M.diag (srcs zs))))
      ⟨_, _, _, _, _, _, kvs0, rfl, s4, eq4, hT4, dV⟩ ?_ ?_
    · rintro i σ H' hi ⟨y3, y4, y5, y6, y7, y8, kvs, rfl, s', eq, hT, hV⟩
      simp only [gName, List.set_cons_zero, List.set_cons_succ]
      refine ⟨_, rfl, a, rfl, ⟨_, SqL.of (s' _ _ ha)⟩, ?_⟩
      refine for_list (K := K) (a := a) (xs := xs) (fun j σ H' => ∃ (y3 y4 y5 y6 y7 y8 : Option V) (kvs : List (List Key × V)), σ = [some (.ref n), some (.ref a), some (.ref q0), y3, y4, y5, y6, y7, y8] ∧ Same H H' ∧ H' q0 = some (.dT kvs) ∧ TbL kvs ((L.take j).foldl (M.pass (srcs zs)) (M.rounds (srcs zs) L i (M.diag (srcs zs)))) ∧ InV (srcs zs) ((L.take j).foldl (M.pass (srcs zs)) (M.rounds (srcs zs) L i (M.diag (srcs zs)))))
        ⟨_, _, _, _, _, _, kvs, rfl, s', eq, hT, hV⟩ (fun j σ H' _ h => by
          obtain ⟨_, _, _, _, _, _, _, _, s', _⟩ := h
          exact SqL.of (s' _ _ ha)) ?_ ?_
      · rintro j x σ H1 hxj ⟨y3, y4, y5, y6, y7, y8, kvs, rfl, s1, eq1, hT1, hV1⟩
        obtain ⟨⟨fx, fy, fc⟩, hf, t, rfl, ht⟩ := hI.at_ j x hxj
        obtain ⟨mx, my⟩ := hin _ (List.mem_of_getElem? hf)
        have mx := src_mem.mpr mx
        have my := src_mem.mpr my
        refine ⟨t, _, rfl, SqT.of (s1 _ _ ht), rfl, _, _, rfl, _, _, rfl, _, _, rfl, rfl, ?_⟩
        simp only [gName, List.set_cons_zero, List.set_cons_succ]
        refine ⟨by show 1 ≤ sizeLine; decide, fun l1 n1 => ?_⟩
        have t1 := same_upd (o := .lst [.str ("" : Str)]) n1
        refine ⟨_, rfl, n, _, rfl, .inl (SqL.of (t1 _ _ (s1 _ _ hn))), fun l2 n2 => ?_⟩
        have t2 := t1.trans (same_upd (o := .lst (zs.map V.str)) n2)
        have e1 : (upd (upd H1 l1 (.lst [.str ("" : Str)])) l2 (.lst (zs.map V.str))) l1 = some (.lst [.str ("" : Str)]) := by rw [upd_ne (ne_of_none upd_same n2)]; exact upd_same
        refine ⟨l1, l2, _, _, rfl, rfl, e1, upd_same, ?_, fun l3 n3 => ?_⟩
        · rw [List.length_map]
          exact small_line (by rw [show ([V.str ("" : Str)]).length = 1 from rfl]; omega)
        have t3 := t2.trans (same_upd (o := .lst ([.str ("" : Str)] ++ zs.map V.str)) n3)
        have e3 : (upd (upd (upd H1 l1 (.lst [.str ("" : Str)])) l2 (.lst (zs.map V.str))) l3 (.lst ([.str ("" : Str)] ++ zs.map V.str))) l3 = some (.lst ((srcs zs).map V.str)) := upd_same
        generalize upd (upd (upd H1 l1 (.lst [.str ("" : Str)])) l2 (.lst (zs.map V.str))) l3 (.lst ([.str ("" : Str)] ++ zs.map V.str)) = H5 at t3 e3 ⊢
        have eq5 := t3 _ _ eq1
        have s5 := s1.trans t3
        have l3q : l3 ≠ q0 := ne_of e3 eq5 (by intro z; cases z)
        refine ⟨l3, rfl, ⟨_, SqL.of e3⟩, ?_⟩
        have hstep := foldl_take (M.pass (srcs zs)) L (M.rounds (srcs zs) L i (M.diag (srcs zs))) hf
        rw [hstep]
        generalize (L.take j).foldl (M.pass (srcs zs)) (M.rounds (srcs zs) L i (M.diag (srcs zs))) = T1 at hT1 hV1 ⊢
        refine for_list (K := K) (a := l3) (xs := (srcs zs).map V.str) (fun k σ H' => ∃ (y3 y4 y8 : Option V) (kvs : List (List Key × V)), σ = [some (.ref n), some (.ref a), some (.ref q0), y3, y4, some (.str fx), some (.str fy), some (.int fc), y8] ∧ Same H H' ∧ H' l3 = some (.lst ((srcs zs).map V.str)) ∧ H' q0 = some (.dT kvs) ∧
            TbL kvs (((srcs zs).take k).foldl (fun T o => M.rx T fx fy fc o) T1) ∧ InV (srcs zs) (((srcs zs).take k).foldl (fun T o => M.rx T fx fy fc o) T1))
          ⟨_, _, _, kvs, rfl, s5, e3, eq5, hT1, hV1⟩ (fun k σ H' _ h => by
            obtain ⟨_, _, _, _, _, _, e, _⟩ := h
            exact SqL.of e) ?_ ?_
        · rintro k x σ H2 hxk ⟨y3, y4, y8, kvs, rfl, s2, el2, eq2, hT2, hV2⟩
          obtain ⟨u, hu, rfl⟩ : ∃ u, (srcs zs)[k]? = some u ∧ x = .str u := by
            rw [List.getElem?_map] at hxk
            cases e : (srcs zs)[k]? with
            | none => rw [e] at hxk; cases hxk
            | some z => rw [e] at hxk; cases hxk; exact ⟨z, rfl, rfl⟩
          have mu := List.mem_of_getElem? hu
          have hst2 := foldl_take (fun T o => M.rx T fx fy fc o) (srcs zs) T1 hu
          rw [hst2]
          generalize ((srcs zs).take k).foldl (fun T o => M.rx T fx fy fc o) T1 = T2 at hT2 hV2 ⊢
          have fw := few hT2 hV2
          simp only [gName, List.set_cons_zero, List.set_cons_succ]
          refine ⟨_, rfl, _, rfl, by show 2 ≤ sizeLine; decide, fun t2 nt2 => ?_⟩
          have sT := same_upd (o := .tup [.str fy, .str u]) nt2
          refine ⟨_, rfl, q0, _, rfl, DGet.t (k := kP fy u) (sT _ _ eq2) upd_same, ?_⟩
          rw [hT2.val]
          cases eb : T2 fy u with
          | none =>
            have er : M.rx T2 fx fy fc u = T2 := by unfold M.rx; rw [eb]
            rw [er]
            refine ⟨_, rfl, iteF ?_⟩
            simp only [gName, List.set_cons_zero, List.set_cons_succ]
            exact ⟨_, rfl, rfl, _, rfl, iteF ⟨_, _, _, kvs, rfl, s2.trans sT, sT _ _ el2, sT _ _ eq2, hT2, hV2⟩⟩
          | some b =>
            refine ⟨_, rfl, iteT ?_⟩
            have vb : valV kvs (kP fy u) = some (.int b) := by rw [hT2.val, eb]; rfl
            refine ⟨_, rfl, _, rfl, _, rfl, by show 2 ≤ sizeLine; decide, fun t3 nt3 => ?_⟩
            have sU := sT.trans (same_upd (o := .tup [.str fy, .str u]) nt3)
            refine ⟨q0, .int b, rfl, by have h := DGet.t (k := kP fy u) (sU _ _ eq2) upd_same; rw [vb] at h; exact h, ?_⟩
            refine ⟨_, rfl, _, _, rfl, rfl, ?_⟩
            simp only [gName, List.set_cons_zero, List.set_cons_succ]
            refine ⟨_, rfl, rfl, _, rfl, iteT ?_⟩
            refine ⟨_, rfl, _, rfl, by show 2 ≤ sizeLine; decide, fun t4 nt4 => ?_⟩
            have sV := sU.trans (same_upd (o := .tup [.str fx, .str u]) nt4)
            refine ⟨_, rfl, q0, _, rfl, DGet.t (k := kP fx u) (sV _ _ eq2) upd_same, ?_⟩
            rw [hT2.val]
            have put : ∀ {H' : Hp} {D : Ends}, Same H2 H' → M.rx T2 fx fy fc u = M.put T2 fx u (b + fc) →
                (∀ (kvs' : List (List Key × V)) (H'' : Hp), Same H H'' → H'' l3 = some (.lst ((srcs zs).map V.str)) → H'' q0 = some (.dT kvs') → TbL kvs' (M.rx T2 fx fy fc u) → InV (srcs zs) (M.rx T2 fx fy fc u) → D.nx [some (V.ref n), some (.ref a), some (.ref q0), some (.str u), y4, some (.str fx), some (.str fy), some (.int fc), some (.int (b + fc))] H'') →
                sDPut (tVar 2) (tTup (tCons (tVar 5) (tCons (tVar 3) tNil))) (tVar 8) D [some (V.ref n), some (.ref a), some (.ref q0), some (.str u), y4, some (.str fx), some (.str fy), some (.int fc), some (.int (b + fc))] H' := fun {H' D} s3 er kk => by
              rw [er] at kk
              refine ⟨_, rfl, _, rfl, _, rfl, _, rfl, by show 2 ≤ sizeLine; decide, fun t5 nt5 => ?_⟩
              have sW := s3.trans (same_upd (o := .tup [.str fx, .str u]) nt5)
              refine ⟨q0, _, rfl, DPut.t (k := kP fx u) (sW _ _ eq2) upd_same (small60 (by omega)), ?_⟩
              refine kk _ _ (fun c o e => ?_) ?_ upd_same (hT2.put fx u (b + fc)) (hV2.put mx mu _)
              · rw [upd_ne (ne_of_none e nq)]
                exact sW _ _ (s2 c o e)
              · rw [upd_ne l3q]
                exact sW _ _ el2
            cases ea : T2 fx u with
            | none =>
              exact ⟨_, rfl, iteT (put sV (by unfold M.rx; rw [eb]; dsimp only; rw [ea]) fun kvs' H'' a1 a2 a3 a4 a5 => ⟨_, _, _, kvs', rfl, a1, a2, a3, a4, a5⟩)⟩
            | some g =>
              have vg : valV kvs (kP fx u) = some (.int g) := by rw [hT2.val, ea]; rfl
              refine ⟨_, rfl, iteF ?_⟩
              refine ⟨_, rfl, _, rfl, _, rfl, by show 2 ≤ sizeLine; decide, fun t5 nt5 => ?_⟩
              have sW := sV.trans (same_upd (o := .tup [.str fx, .str u]) nt5)
              refine ⟨q0, .int g, rfl, by have h := DGet.t (k := kP fx u) (sW _ _ eq2) upd_same; rw [vg] at h; exact h, ?_⟩
              refine ⟨_, rfl, _, _, rfl, rfl, _, rfl, ite2 (fun e => ?_) (fun e => ?_)⟩
              · have lt : b + fc < g := of_decide_eq_true e
                exact put sW (by unfold M.rx; rw [eb]; dsimp only; rw [ea]; dsimp only; rw [if_pos lt]) fun kvs' H'' a1 a2 a3 a4 a5 => ⟨_, _, _, kvs', rfl, a1, a2, a3, a4, a5⟩
              · have nl : ¬ b + fc < g := fun z => e (decide_eq_true z)
                have er : M.rx T2 fx fy fc u = T2 := by unfold M.rx; rw [eb]; dsimp only; rw [ea]; dsimp only; rw [if_neg nl]
                rw [er]
                exact ⟨_, _, _, kvs, rfl, s2.trans sW, sW _ _ el2, sW _ _ eq2, hT2, hV2⟩
        · rintro σ H2 ⟨y3, y4, y8, kvs, rfl, s2, el2, eq2, hT2, hV2⟩
          rw [List.length_map, List.take_length] at hT2 hV2
          exact ⟨_, _, _, _, _, _, kvs, rfl, s2, eq2, hT2, hV2⟩
      · rintro σ H1 ⟨y3, y4, y5, y6, y7, y8, kvs, rfl, s1, eq1, hT1, hV1⟩
        rw [hI.len, List.take_length] at hT1 hV1
        exact ⟨_, _, _, _, _, _, kvs, rfl, s1, eq1, hT1, hV1⟩
    · rintro σ H' ⟨y3, y4, y5, y6, y7, y8, kvs, rfl, s', eq, hT, hV⟩
      exact ⟨_, rfl, q q0 kvs H' nq s' eq hT⟩
end
end Fv


/-! Where no start keeps all facts (pure): the closing finds it, and the law's rounds find it. -/
namespace Fv.M
set_option linter.unusedSectionVars false
variable {S : Type} [DecidableEq S]

/-- how a walk first comes to `x`: it stands there, or keeps away from it up to a fact that leads to it -/
def Hit (F : Fa S) (A : S → Prop) (x u : S) (c : Int) (n : Nat) : Prop :=
  (u = x ∧ c = 0 ∧ n = 0) ∨ ∃ b d f m, Wk F (fun s => A s ∧ s ≠ x) u b d m ∧ (b, x, f) ∈ F ∧ c = d + f ∧ n = m + 1

theorem Wk.first {F : Fa S} {A : S → Prop} (x : S) : ∀ {u y c n}, Wk F A u y c n →
    Wk F (fun s => A s ∧ s ≠ x) u y c n ∨ ∃ c1 n1 c2 n2, Hit F A x u c1 n1 ∧ Wk F A x y c2 n2 ∧ c = c1 + c2 ∧ n = n1 + n2 := by
  intro u y c n w
  induction w with
  | @nil u a =>
    by_cases h : u = x
    · subst h
      exact .inr ⟨0, 0, 0, 0, .inl ⟨rfl, rfl, rfl⟩, .nil a, rfl, rfl⟩
    · exact .inl (.nil ⟨a, h⟩)
  | @cons u v y c d n h a w ih =>
    by_cases hu : u = x
    · subst hu
      exact .inr ⟨0, 0, c + d, n + 1, .inl ⟨rfl, rfl, rfl⟩, .cons h a w, by omega, by omega⟩
    rcases ih with ih | ⟨c1, n1, c2, n2, hh, w2, e1, e2⟩
    · exact .inl (.cons h ⟨a, hu⟩ ih)
    · rcases hh with ⟨r1, r2, r3⟩ | ⟨b, d1, f, m, w1, hf, r1, r2⟩
      · subst r1
        exact .inr ⟨c, 1, c2, n2, .inr ⟨u, 0, c, 0, .nil ⟨a, hu⟩, h, by omega, rfl⟩, w2, by omega, by omega⟩
      · exact .inr ⟨c + c1, n1 + 1, c2, n2, .inr ⟨b, c + d1, f, m + 1, .cons h ⟨a, hu⟩ w1, hf, by omega, by omega⟩, w2, by omega, by omega⟩

/-- a round walk below 0 of at most `k` facts -/
def Neg (F : Fa S) (V : List S) (k : Nat) : Prop := ∃ x c n, Wk F (fun s => s ∈ V) x x c n ∧ c < 0 ∧ n ≤ k

theorem drop_len {x : S} : ∀ {L : List S}, x ∈ L → (L.filter (fun s => decide (s ≠ x))).length < L.length := by
  intro L hL
  induction L with
  | nil => cases hL
  | cons a t it =>
    by_cases ha : a = x
    · subst ha
      have := List.length_filter_le (fun s => decide (s ≠ a)) t
      simp only [List.filter_cons, ne_eq, not_true_eq_false, decide_false, List.length_cons, Bool.false_eq_true, if_false]
      simp only [ne_eq] at this
      omega
    · have hm : x ∈ t := by
        cases hL with
        | head => exact absurd rfl ha
        | tail _ h => exact h
      have := it hm
      simp only [ne_eq] at this
      simp only [List.filter_cons, ne_eq, ha, not_false_eq_true, decide_true, if_true, List.length_cons]
      omega

theorem alt {F : Fa S} : ∀ (k : Nat) (V : List S), V.length ≤ k → ∀ {x y c n}, Wk F (fun s => s ∈ V) x y c n →
    (∃ c' n', Wk F (fun s => s ∈ V) x y c' n' ∧ c' ≤ c ∧ n' + 1 ≤ k) ∨ Neg F V k := by
  intro k
  induction k with
  | zero =>
    intro V hV x y c n w
    have := w.at0
    cases V with
    | nil => cases this
    | cons => simp at hV
  | succ k ih =>
    intro V hV x y c n
    have up : Neg F (V.filter (fun s => decide (s ≠ x))) k → Neg F V (k + 1) := fun ⟨z, c, n, w, h1, h2⟩ =>
      ⟨z, c, n, w.mono fun s hs => (List.mem_filter.1 hs).1, h1, by omega⟩
    have inV : ∀ {u v d m}, Wk F (fun s => s ∈ V ∧ s ≠ x) u v d m → Wk F (fun s => s ∈ V.filter (fun s => decide (s ≠ x))) u v d m :=
      fun w => w.mono fun s hs => List.mem_filter.2 ⟨hs.1, by simp [hs.2]⟩
    have outV : ∀ {u v d m}, Wk F (fun s => s ∈ V.filter (fun s => decide (s ≠ x))) u v d m → Wk F (fun s => s ∈ V) u v d m :=
      fun w => w.mono fun s hs => (List.mem_filter.1 hs).1
    induction n using Nat.strongRecOn generalizing c with
    | _ n rec_ =>
      intro w
      have hx := w.at0
      have hlen : (V.filter (fun s => decide (s ≠ x))).length ≤ k := by
        have := drop_len hx
        omega
      cases w with
      | nil a => exact .inl ⟨0, 0, .nil a, Int.le_refl _, by omega⟩
      | @cons _ z _ e d n h a w =>
        rcases w.first x with w' | ⟨c1, n1, c2, n2, hh, w2, e1, e2⟩
        · rcases ih _ hlen (inV w') with ⟨c', n', ws, hc, hn⟩ | hneg
          · exact .inl ⟨e + c', n' + 1, .cons h hx (outV ws), by omega, by omega⟩
          · exact .inr (up hneg)
        · by_cases hl : 0 ≤ e + c1
          · rcases rec_ n2 (by omega) w2 with ⟨c', n', ws, hc, hn⟩ | hneg
            · exact .inl ⟨c', n', ws, by omega, hn⟩
            · exact .inr hneg
          · rcases hh with ⟨r1, r2, r3⟩ | ⟨b, d1, f, m, w1, hf, r1, r2⟩
            · subst r1
              exact .inr ⟨z, e + 0, 0 + 1, .cons h hx (.nil hx), by omega, by omega⟩
            · rcases ih _ hlen (inV w1) with ⟨c', n', ws, hc, hn⟩ | hneg
              · have back : Wk F (fun s => s ∈ V) b x (f + 0) (0 + 1) := .cons hf (outV ws).at1 (.nil hx)
                have loop := Wk.cons h hx ((outV ws).app back)
                exact .inr ⟨x, _, _, loop, by omega, by omega⟩
              · exact .inr (up hneg)

/-- what goes round below 0 does so in as many facts as there are points -/
theorem neg_short {F : Fa S} {V : List S} {x : S} {c : Int} {n : Nat} (w : Wk F (fun s => s ∈ V) x x c n) (h : c < 0) : Neg F V V.length := by
  rcases alt V.length V (Nat.le_refl _) w with ⟨c', n', ws, hc, hn⟩ | hneg
  · exact ⟨x, c', n', ws, by omega, by omega⟩
  · exact hneg

/-- the law's rounds find it -/
theorem rounds_neg {F : Fa S} {V : List S} {k : Nat} (hk : V.length ≤ k) {x : S} {c : Int} {n : Nat} (w : Wk F (fun s => s ∈ V) x x c n) (h : c < 0) :
    ∃ z ∈ V, ∃ g, rounds V F k (diag V) z z = some g ∧ g < 0 := by
  obtain ⟨z, c', n', ws, hc, hn⟩ := neg_short w h
  obtain ⟨g, hg, hl⟩ := rounds_least ws
  obtain ⟨j, hj⟩ : ∃ j, k = n' + j := ⟨k - n', by omega⟩
  obtain ⟨g2, hg2, hl2⟩ := rounds_up (V := V) (F := F) (diag V) n' j _ _ _ hg
  exact ⟨z, ws.at0, g2, by rw [hj]; exact hg2, by omega⟩

/-! ### the closing, where no start is known -/
structure Cn (F : Fa S) (M : List S) (T : Tb S) : Prop where
  off : ∀ x, T x x = none
  walk : ∀ x y c, T x y = some c → ∃ n, Wk F (fun _ => True) x y c n
  fact : ∀ x y c, (x, y, c) ∈ F → x ≠ y → ∃ g, T x y = some g ∧ g ≤ c
  tri : ∀ m ∈ M, ∀ x y a b, T x m = some a → T m y = some b → x ≠ y → ∃ g, T x y = some g ∧ g ≤ a + b
  self : ∀ m ∈ M, ∀ x a b, T x m = some a → T m x = some b → 0 ≤ a + b
  ends : ∀ x y c, T x y = some c → (∃ y' c', (x, y', c') ∈ F ∧ x ≠ y') ∧ ∃ x' c', (x', y, c') ∈ F ∧ x' ≠ y

theorem Cn.first {F : Fa S} {T : Tb S} (h : Tg F T) : Cn F [] T where
  off := h.off
  walk := fun x y c e => ⟨1, by have := Wk.cons (A := fun _ => True) (h.from_ _ _ _ e) trivial (.nil trivial); simpa using this⟩
  fact := h.le
  tri := fun m hm => by cases hm
  self := fun m hm => by cases hm
  ends := fun x y c e => by
    have hxy : x ≠ y := fun q => by rw [q, h.off] at e; cases e
    exact ⟨⟨y, c, h.from_ _ _ _ e, hxy⟩, ⟨x, c, h.from_ _ _ _ e, hxy⟩⟩

/-- what stops the closing goes round below 0 -/
theorem Cn.bad {F : Fa S} {M : List S} {T : Tb S} (h : Cn F M T) {m : S} {L : Fa S} (o : Over T m L) {x : S} {c : Int} (hm : (x, x, c) ∈ L) (hc : c < 0) :
    ∃ n, Wk F (fun _ => True) x x c n := by
  rcases o.from_ _ _ _ hm with e | ⟨a, b, ha, hb, e⟩
  · rw [h.off] at e; cases e
  · obtain ⟨n1, w1⟩ := h.walk _ _ _ ha
    obtain ⟨n2, w2⟩ := h.walk _ _ _ hb
    exact ⟨n1 + n2, by rw [e]; exact w1.app w2⟩

theorem Cn.next {F : Fa S} {M : List S} {T T' : Tb S} (h : Cn F M T) {m : S} {L : Fa S} (o : Over T m L) (nr : ∀ x c, (x, x, c) ∈ L → 0 ≤ c) (t : Tg L T') :
    Cn F (m :: M) T' := by
  have case' : ∀ x y c, T' x y = some c → T x y = some c ∨ ∃ a b, T x m = some a ∧ T m y = some b ∧ c = a + b :=
    fun x y c e => o.from_ _ _ _ (t.from_ _ _ _ e)
  have low : ∀ x y c, T x y = some c → ∃ g, T' x y = some g ∧ g ≤ c := fun x y c e =>
    t.le _ _ _ (o.own _ _ _ e) (fun q => by rw [q, h.off] at e; cases e)
  have lowM : ∀ x y a b, T x m = some a → T m y = some b → x ≠ y → ∃ g, T' x y = some g ∧ g ≤ a + b := fun x y a b ha hb n =>
    t.le _ _ _ (o.way _ _ _ _ ha hb) n
  have round0 : ∀ x a b, T x m = some a → T m x = some b → 0 ≤ a + b := fun x a b ha hb => nr _ _ (o.way _ _ _ _ ha hb)
  have ownL : ∀ x c, T' x m = some c → T x m = some c := fun x c e => by
    rcases case' _ _ _ e with e | ⟨_, b', _, hb', _⟩
    · exact e
    · rw [h.off] at hb'; cases hb'
  have ownR : ∀ x c, T' m x = some c → T m x = some c := fun x c e => by
    rcases case' _ _ _ e with e | ⟨a', _, ha', _, _⟩
    · exact e
    · rw [h.off] at ha'; cases ha'
  refine ⟨t.off, fun x y c e => ?_, fun x y c hm n => ?_, ?_, ?_, fun x y c e => ?_⟩
  · rcases case' _ _ _ e with e | ⟨a, b, ha, hb, e⟩
    · exact h.walk _ _ _ e
    · obtain ⟨n1, w1⟩ := h.walk _ _ _ ha
      obtain ⟨n2, w2⟩ := h.walk _ _ _ hb
      exact ⟨n1 + n2, by rw [e]; exact w1.app w2⟩
  · obtain ⟨g, e, l⟩ := h.fact _ _ _ hm n
    obtain ⟨g', e', l'⟩ := low _ _ _ e
    exact ⟨g', e', by omega⟩
  · intro k hk x y a b ha hb hxy
    by_cases hkm : k = m
    · subst hkm
      exact lowM _ _ _ _ (ownL _ _ ha) (ownR _ _ hb) hxy
    have hk' : k ∈ M := by
      cases hk with
      | head => exact absurd rfl hkm
      | tail _ h => exact h
    have tri := h.tri k hk'
    rcases case' _ _ _ ha with ea | ⟨a1, a2, ha1, ha2, ea⟩
    · rcases case' _ _ _ hb with eb | ⟨b1, b2, hb1, hb2, eb⟩
      · obtain ⟨g, e, l⟩ := tri _ _ _ _ ea eb hxy
        obtain ⟨g', e', l'⟩ := low _ _ _ e
        exact ⟨g', e', by omega⟩
      · by_cases hxm : x = m
        · subst hxm
          have := round0 k b1 a hb1 ea
          obtain ⟨g', e', l'⟩ := low _ _ _ hb2
          exact ⟨g', e', by omega⟩
        · obtain ⟨g, e, l⟩ := tri _ _ _ _ ea hb1 hxm
          obtain ⟨g', e', l'⟩ := lowM _ _ _ _ e hb2 hxy
          exact ⟨g', e', by omega⟩
    · rcases case' _ _ _ hb with eb | ⟨b1, b2, hb1, hb2, eb⟩
      · by_cases hym : m = y
        · subst hym
          have := round0 k b a2 eb ha2
          obtain ⟨g', e', l'⟩ := low _ _ _ ha1
          exact ⟨g', e', by omega⟩
        · obtain ⟨g, e, l⟩ := tri _ _ _ _ ha2 eb hym
          obtain ⟨g', e', l'⟩ := lowM _ _ _ _ ha1 e hxy
          exact ⟨g', e', by omega⟩
      · have := round0 k b1 a2 hb1 ha2
        obtain ⟨g', e', l'⟩ := lowM _ _ _ _ ha1 hb2 hxy
        exact ⟨g', e', by omega⟩
  · intro k hk x a b ha hb
    by_cases hkm : k = m
    · subst hkm
      exact round0 _ _ _ (ownL _ _ ha) (ownR _ _ hb)
    have hk' : k ∈ M := by
      cases hk with
      | head => exact absurd rfl hkm
      | tail _ h => exact h
    have tri := h.tri k hk'
    rcases case' _ _ _ ha with ea | ⟨a1, a2, ha1, ha2, ea⟩
    · rcases case' _ _ _ hb with eb | ⟨b1, b2, hb1, hb2, eb⟩
      · exact h.self k hk' _ _ _ ea eb
      · by_cases hxm : x = m
        · subst hxm
          rw [h.off] at hb2; cases hb2
        · obtain ⟨g, e, l⟩ := tri _ _ _ _ ea hb1 hxm
          have := round0 _ _ _ e hb2
          omega
    · rcases case' _ _ _ hb with eb | ⟨b1, b2, hb1, hb2, eb⟩
      · by_cases hxm : m = x
        · subst hxm
          rw [h.off] at ha1; cases ha1
        · obtain ⟨g, e, l⟩ := tri _ _ _ _ ha2 eb hxm
          have := round0 _ _ _ ha1 e
          omega
      · have := round0 _ _ _ hb1 ha2
        have := round0 _ _ _ ha1 hb2
        omega
  · rcases case' _ _ _ e with e | ⟨a, b, ha, hb, _⟩
    · exact h.ends _ _ _ e
    · exact ⟨(h.ends _ _ _ ha).1, (h.ends _ _ _ hb).2⟩

/-- the least of some numbers and 0 -/
def low0 : List Int → Int
  | [] => 0
  | a :: l => if a ≤ low0 l then a else low0 l
theorem low0_le0 : ∀ l : List Int, low0 l ≤ 0
  | [] => Int.le_refl _
  | a :: l => by
    have := low0_le0 l
    unfold low0
    split <;> omega
theorem low0_le : ∀ {l : List Int} {a : Int}, a ∈ l → low0 l ≤ a
  | b :: l, a, h => by
    unfold low0
    rcases List.mem_cons.1 h with rfl | h
    · split <;> omega
    · have := low0_le h
      split <;> omega
theorem low0_at : ∀ l : List Int, low0 l = 0 ∨ low0 l ∈ l
  | [] => .inl rfl
  | a :: l => by
    unfold low0
    split
    · exact .inr List.mem_cons_self
    · rcases low0_at l with h | h
      · exact .inl h
      · exact .inr (List.mem_cons_of_mem _ h)

/-- closed without a stop: there is a start -/
theorem Cn.start {F : Fa S} {M V : List S} {T : Tb S} (h : Cn F M T) (nr : ∀ x c, (x, x, c) ∈ F → 0 ≤ c)
    (hM : ∀ m x y c d, (x, m, c) ∈ F → x ≠ m → (m, y, d) ∈ F → m ≠ y → m ∈ M)
    (hF : ∀ x y c, (x, y, c) ∈ F → x ∈ V ∧ y ∈ V) : ∃ p, Keeps F p := by
  refine ⟨fun x => low0 (V.filterMap (T x)), fun x y c hm => ?_⟩
  show low0 (V.filterMap (T x)) - low0 (V.filterMap (T y)) ≤ c
  by_cases hxy : x = y
  · subst hxy
    have := nr _ _ hm
    omega
  obtain ⟨a, ea, la⟩ := h.fact _ _ _ hm hxy
  rcases low0_at (V.filterMap (T y)) with e | e
  · have := low0_le (l := V.filterMap (T x)) (List.mem_filterMap.2 ⟨y, (hF _ _ _ hm).2, ea⟩)
    omega
  · obtain ⟨z, hz, ez⟩ := List.mem_filterMap.1 e
    obtain ⟨y', d', hd', nd'⟩ := (h.ends _ _ _ ez).1
    have hy := hM y x y' c d' hm hxy hd' nd'
    by_cases hxz : x = z
    · subst hxz
      have := h.self y hy _ _ _ ea ez
      have := low0_le0 (V.filterMap (T x))
      omega
    · obtain ⟨g, eg, lg⟩ := h.tri y hy _ _ _ _ ea ez hxz
      have := low0_le (l := V.filterMap (T x)) (List.mem_filterMap.2 ⟨z, hz, eg⟩)
      omega
/-- no start keeps what goes round below 0 -/
theorem no_start {F : Fa S} {A : S → Prop} {x : S} {c : Int} {n : Nat} (w : Wk F A x x c n) (h : c < 0) : ¬ ∃ p, Keeps F p := fun ⟨p, K⟩ => by
  have := w.pot K
  omega
end Fv.M


set_option Elab.async false
set_option linter.all false
set_option maxRecDepth 100000
set_option maxHeartbeats 4000000
namespace Fv
open PySem PySem.Spec PyProof.Rows L2
/-! ### what goes round below 0 is refused -/
/-- what the written part says of an own class of errors that is made of nothing -/
structure Err0 (K : PySem.W.Frag) (mg : Str → Option Value) (x : Str) (C : Addr) : Prop where
  ex : PySem.W.excIn K C [.type "ValueError", .type "Exception", .type "BaseException", .type "object"] "ValueError.__new__" = true
  g : mg x = some (.ref C)
  k : PySem.W.keepIn K (.ref C) = true
  b : PySem.W.subIn K (.ref C) (.type "BaseException") = some true
  t : PySem.W.typeIn K (.ref C) = some (.type "type")
/-- no fact about one source is below 0 -/
def Fine0 (L : List FaT) : Prop := ∀ x c, (x, x, c) ∈ L → 0 ≤ c
theorem not_fine {L : List FaT} (h : ¬ Fine0 L) : ∃ x c, (x, x, c) ∈ L ∧ c < 0 := by
  apply Classical.byContradiction
  intro n
  refine h fun x c hm => ?_
  apply Classical.byContradiction
  intro l
  exact n ⟨x, c, hm, by omega⟩
/-- a list or a tuple of the heap -/
def RowAt (H : Hp) (a : Addr) (xs : List V) : Prop := H a = some (.lst xs) ∨ H a = some (.tup xs)
theorem RowAt.same {H H' : Hp} {a : Addr} {xs : List V} (h : RowAt H a xs) (s : Same H H') : RowAt H' a xs := h.imp (s _ _) (s _ _)
theorem RowAt.ex {H : Hp} {a : Addr} {xs : List V} (h : RowAt H a xs) : ∃ o, H a = some o := h.elim (fun e => ⟨_, e⟩) fun e => ⟨_, e⟩
/-- rows: walked while they stand -/
def iRowA (tl : TE) : TI := fun σ H R => tl σ H fun x H1 => ∃ a xs, x = .ref a ∧ RowAt H1 a xs ∧ ∀ J G, Walk J xs.length G (YAt xs) → (∀ H', H' a = H1 a → G H') → R J H1
theorem pi_rowA {X : Cx} {tg l : Expr} {i : Nat} (hl : PE X l (tVar i)) : PI X tg l (iRowA (tVar i)) := by
  constructor
  intro pins s σ H R I h
  obtain ⟨v, e, a, xs, ev, hq, q⟩ := h
  rcases hq with hq | hq
  · exact (pi_list hl).run pins s σ H R I ⟨v, e, a, ev, ⟨xs, SqL.of hq⟩, q _ (fun H' => H' a = some (.lst xs)) ⟨fun i H hi h => walk_list.goes i H hi (SqL.of h), fun H h => walk_list.stops H (SqL.of h), fun i H x H' hi h y => walk_list.yields i H x H' hi (SqL.of h) y⟩ fun H' s => s.trans hq⟩
  · exact (pi_tup hl).run pins s σ H R I ⟨v, e, a, ev, ⟨xs, SqT.of hq⟩, q _ (fun H' => H' a = some (.tup xs)) ⟨fun i H hi h => walk_tup.goes i H hi (SqT.of h), fun H h => walk_tup.stops H (SqT.of h), fun i H x H' hi h y => walk_tup.yields i H x H' hi (SqT.of h) y⟩ fun H' s => s.trans hq⟩
def spTightA (CE : Addr) : Sp := fun vs H Q E => ∃ (a : Addr) (xs : List V) (L : List FaT), vs = [.ref a] ∧ RowAt H a xs ∧ Its H xs L ∧ L.length ≤ 6000 ∧
  (Fine0 L → ∀ (q : Addr) (kvs : List (List Key × V)) (T : M.Tb Str) (H' : Hp), H q = none → Same H H' → H' q = some (.dT kvs) → TbL kvs T → M.Tg L T → kvs.length ≤ L.length → Q (.ref q) H') ∧
  (¬ Fine0 L → ∀ H1, Same H H1 → E (.ref CE) none H1)
section
variable {P : Program} {w : World} {K : PySem.W.Frag} {mg : Str → Option Value} {base : Heap} {C CE : Addr}
theorem ok_tightA {f : Addr} {fd : FuncData} (F : Fun K "_tightest" "_tightest" sTight f fd) (U : Err0 K mg "NoStart" CE) : FnOk P w K mg base (L2.CX P w) 1 f fd ["facts"] (spTightA CE) := by
  refine F.okX scTg (fun vs H Q E h => ?_) (fun cdv A outer s H vs Q E hr h => ?_)
  · obtain ⟨a, xs, L, rfl, _⟩ := h
    rfl
  · obtain ⟨a, xs, L, rfl, ha, hx, hl, q, qE⟩ := h
    have hu := hu_of hr
    refine ⟨_, pss_cons (ps_set (i := 1) scTg.nd rfl (.inl rfl) pe_dnewT)
      (pss_cons (ps_for (passes_of rfl) rfl (pi_rowA (pv 0)) (pg_tup (by rfl) (pgs_cons (pg_name (i := 2) scTg.nd rfl (.inl rfl)) (pgs_cons (pg_name (i := 3) scTg.nd rfl (.inl rfl)) (pgs_cons (pg_name (i := 4) scTg.nd rfl (.inl rfl)) pgs_nil))))
        (pss_cons (ps_if (PW.pt (pw_and (pt_cmpR op_eq (pv 2) (pv 3) (nomark _)) (pw_and1 (pt_cmpR op_lt (pv 4) pe_int (nomark _)))))
          (pss_one (ps_raise (W := fun cls d _ H => E cls d H) rfl (takes_of rfl rfl rfl rfl) (pmk_own0 PySem.F.excBase_ValueError U.ex U.g U.k (raises_own U.b U.t) (by rfl)))) pss_nil)
        (pss_one (ps_if (PW.pt (pw_and (pt_cmpR op_ne (pv 2) (pv 3) (nomark _)) (pw_and1 (pt_cmpR op_lt (pv 4) (pe_dget2 hu (pv 1) (pe_tup (pa_cons (pv 2) (pa_cons (pv 3) pa_nil))) (pe_op op_add (pv 4) pe_int) ⟨rfl, rfl, rfl, rfl⟩) (nomark _)))))
          (pss_one (ps_dput hu (pv 1) (pe_tup (pa_cons (pv 2) (pa_cons (pv 3) pa_nil))) (pv 4) rfl)) pss_nil))))
      (pss_one (ps_ret (pv 1)))), ?_⟩
    intro q0 nq
    have w1 := same_upd (o := .dT []) nq
    dsimp only [gName]
    refine ⟨_, rfl, a, xs, rfl, ha.same w1, fun J G wk hG => ?_⟩
    have stA : ∀ {H' : Hp}, Same H H' → G H' := fun {H'} s => hG H' (by
      obtain ⟨o, e⟩ := ha.ex
      rw [s _ _ e, w1 _ _ e])
    refine for_it wk (fun i σ H' => ∃ (y2 y3 y4 : Option V) (kvs : List (List Key × V)) (T : M.Tb Str), σ = [some (.ref a), some (.ref q0), y2, y3, y4] ∧ Same H H' ∧ H' q0 = some (.dT kvs) ∧ TbL kvs T ∧ M.Tg (L.take i) T ∧ kvs.length ≤ i ∧ Fine0 (L.take i))
      ⟨none, none, none, [], _, rfl, w1, upd_same, .nil, .nil, Nat.le_refl _, fun _ _ h => (by cases h)⟩ (fun i σ H' _ h => ?_) ?_ ?_
    · obtain ⟨_, _, _, _, _, _, s', _⟩ := h
      exact stA s'
    · rintro i x σ H0 H' hi ⟨y2, y3, y4, kvs, T, rfl, s', eq, hT, tg, hk, fn⟩ ⟨rfl, hxi⟩
      obtain ⟨⟨fx, fy, fc⟩, hf, t, rfl, ht⟩ := hx.at_ i x hxi
      have ilt : i < L.length := (List.getElem?_eq_some_iff.mp hf).1
      have hm : (fx, fy, fc) ∈ L := List.mem_of_getElem? hf
      have tg' := tg.step (fx, fy, fc)
      have et : L.take (i + 1) = L.take i ++ [(fx, fy, fc)] := by rw [List.take_succ, hf]; rfl
      have fn' : (fx = fy → 0 ≤ fc) → Fine0 (L.take (i + 1)) := fun h x c hm => by
        rw [et] at hm
        rcases List.mem_append.mp hm with hm | hm
        · exact fn x c hm
        · have e := List.mem_singleton.mp hm
          cases e
          exact h rfl
      rw [← et] at tg'
      refine ⟨t, _, rfl, SqT.of (s' _ _ ht), rfl, _, _, rfl, _, _, rfl, _, _, rfl, rfl, ?_⟩
      refine ⟨_, rfl, _, rfl, rfl, _, rfl, ?_⟩
      by_cases hxy : fx = fy
      · subst hxy
        have e1 : M.tgStep T (fx, fx, fc) = T := by simp [M.tgStep]
        rw [e1] at tg'
        refine ite2 (fun e => ?_) (fun e => absurd (decide_eq_true (Eq.refl (V.str fx))) e)
        refine ⟨_, rfl, _, _, rfl, rfl, _, rfl, ite2 (fun e2 => ?_) (fun e2 => ?_)⟩
        · have z : fc < 0 := of_decide_eq_true e2
          exact qE (fun h => by have h0 : 0 ≤ fc := h _ _ hm; omega) H' s'
        have z : 0 ≤ fc := by
          apply Classical.byContradiction
          intro h
          exact e2 (decide_eq_true (show fc < 0 by omega))
        refine ⟨_, rfl, _, rfl, rfl, _, rfl, ite2 (fun e3 => ?_) (fun e3 => ?_)⟩
        · simp at e3
        · exact ⟨_, _, _, kvs, T, rfl, s', eq, hT, tg', by omega, fn' fun _ => z⟩
      · have ne : V.str fx ≠ V.str fy := fun z => hxy (V.str.inj z)
        have fn'' := fn' fun h => absurd h hxy
        refine ite2 (fun e => absurd (of_decide_eq_true e) ne) (fun e => ?_)
        refine ⟨_, rfl, _, rfl, rfl, _, rfl, ite2 (fun e3 => ?_) (fun e3 => ?_)⟩
        · refine ⟨_, rfl, _, rfl, ?_⟩
          refine ⟨q0, rfl, .inr ⟨kvs, .inl eq⟩, _, rfl, _, rfl, by show 2 ≤ sizeLine; decide, fun pk npk => ?_⟩
          have kq : pk ≠ q0 := (ne_of_none eq npk).symm
          have sK := same_upd (o := .tup [.str fx, .str fy]) npk
          refine ⟨_, rfl, _, _, rfl, rfl, _, DGet.t (k := kP fx fy) (sK _ _ eq) upd_same, ?_⟩
          rw [hT.val]
          obtain ⟨z, ez, hp, hn⟩ : ∃ z : Int, ((T fx fy).map V.int).getD (V.int (fc + 1)) = V.int z ∧ (fc < z → M.tgStep T (fx, fy, fc) = M.put T fx fy fc) ∧ (¬ fc < z → M.tgStep T (fx, fy, fc) = T) := by
            cases eT : T fx fy with
            | none =>
              refine ⟨fc + 1, rfl, fun _ => ?_, fun n => absurd (Int.lt_succ fc) n⟩
              unfold M.tgStep
              rw [if_pos ⟨hxy, fun g e => by rw [eT] at e; cases e⟩]
            | some g =>
              refine ⟨g, rfl, fun l => ?_, fun n => ?_⟩
              · unfold M.tgStep
                rw [if_pos ⟨hxy, fun g' e => by rw [eT] at e; cases e; exact l⟩]
              · unfold M.tgStep
                rw [if_neg (fun z => n (z.2 g eT))]
          refine ⟨_, _, rfl, ez, _, rfl, ite2 (fun e4 => ?_) (fun e4 => ?_)⟩
          · have lt : fc < z := of_decide_eq_true e4
            rw [hp lt] at tg'
            refine ⟨_, rfl, _, rfl, _, rfl, _, rfl, by show 2 ≤ sizeLine; decide, fun p2 np2 => ?_⟩
            have sK2 := sK.trans (same_upd (o := .tup [.str fx, .str fy]) np2)
            refine ⟨q0, _, rfl, DPut.t (k := kP fx fy) (sK2 _ _ eq) upd_same (Nat.lt_of_le_of_lt hk (small6k (by omega))), ?_⟩
            exact ⟨_, _, _, _, _, rfl, fun c o e => by rw [upd_ne (ne_of_none e nq)]; exact sK2 _ _ (s' c o e), upd_same, hT.put fx fy fc, tg', Nat.le_trans (putK_le _ _ _) (by omega), fn''⟩
          · have nl : ¬ fc < z := fun l => e4 (decide_eq_true l)
            rw [hn nl] at tg'
            exact ⟨_, _, _, kvs, T, rfl, s'.trans sK, sK _ _ eq, hT, tg', by omega, fn''⟩
        · simp [hxy] at e3
    · rintro σ H' ⟨y2, y3, y4, kvs, T, rfl, s', eq, hT, tg, hk, fn⟩
      rw [hx.len, List.take_length] at tg fn
      exact ⟨_, rfl, q fn q0 kvs T H' nq s' eq hT tg (by rw [← hx.len]; exact hk)⟩
end
end Fv


set_option Elab.async false
set_option linter.all false
set_option maxRecDepth 100000
set_option maxHeartbeats 4000000
namespace Fv.M
theorem Cn.cl {S : Type} [DecidableEq S] {F : Fa S} {p : S → Int} {Z : List S} {T : Tb S} (h : Cn F Z T) (K : Keeps F p) : Cl F p Z T :=
  ⟨h.off, fun x y c e => by obtain ⟨n, w⟩ := h.walk _ _ _ e; exact w.pot K, h.walk, h.fact, h.tri, h.ends⟩
end Fv.M
namespace Fv
open PySem PySem.Spec PyProof.Rows L2
def spClosedA (CE : Addr) : Sp := fun vs H Q E => ∃ (a : Addr) (xs : List V) (L : List FaT) (W : List Str), vs = [.ref a] ∧ RowAt H a xs ∧ Its H xs L ∧ L.length ≤ 1000 ∧ (∀ f ∈ L, f.1 ∈ W ∧ f.2.1 ∈ W) ∧ W.length ≤ 7 ∧
  ((∃ p, M.Keeps L p) → ∀ (q : Addr) (kvs : List (List Key × V)) (T : M.Tb Str) (Z : List Str) (H' : Hp), H q = none → Same H H' → H' q = some (.dT kvs) → TbL kvs T → (∀ p, M.Keeps L p → M.Cl L p Z T) →
    (∀ m x y c d, (x, m, c) ∈ L → x ≠ m → (m, y, d) ∈ L → m ≠ y → m ∈ Z) → Q (.ref q) H') ∧
  ((¬ ∃ p, M.Keeps L p) → ∀ H1, Same H H1 → E (.ref CE) none H1)
section
variable {P : Program} {w : World} {K : PySem.W.Frag} {mg : Str → Option Value} {base : Heap} {C CE : Addr}
theorem ok_closedA {f fT : Addr} {fd fdT : FuncData} (F : Fun K "_closed" "_closed" sClosed f fd)
    (GT : FnOk P w K mg base (L2.CX P w) 1 fT fdT ["facts"] (spTightA CE)) (bT : Binds K fdT ["facts"] []) (mT : mg "_tightest" = some (.ref fT)) (kT : PySem.W.keepIn K (.ref fT) = true)
    (mo : mg "sorted" = none) : FnOk P w K mg base (L2.CX P w) 2 f fd ["facts"] (spClosedA CE) := by
  refine F.okX scCd (fun vs H Q E h => ?_) (fun cdv A outer s H vs Q E hr h => ?_)
  · obtain ⟨a, _, _, _, rfl, _⟩ := h
    rfl
  · obtain ⟨a, xs, L, W, rfl, ha, hx, hl, hW, hw7, q, qE⟩ := h
    have hu := hu_of hr
    refine ⟨_, pss_cons (ps_set (i := 1) scCd.nd rfl (.inl rfl) (pe_call GT hr (by rfl) mT kT bT .nil (passes_call (W := fun cls d _ H => E cls d H) (takes_of rfl rfl rfl rfl) (fun _ _ _ _ h => h)) (pa_cons (pv 0) pa_nil)))
      (pss_cons (ps_for (passes_of rfl) rfl (pi_list (pe_callB (r := rSortX P w) (call_sortX rfl) (by rfl) mo (by decide +kernel) (pa_cons
        (pe_op (op_meet)
          (pe_lock (pe_scX (own := [("x", 6), ("_", 8)]) (g := gTup K 2 (gCons (gName 6) (gCons (gName 8) gNil))) (tt := tYes) rfl scCd.nd (pi_keys (pv 1)) (blkOk_by (N := nCd) (sc := defScope sClosed) (by decide +kernel))
            (fun _ _ _ _ _ => pg_tup (by rfl) (pgs_cons (pg_name (i := 6) scCd.nd rfl (.inl rfl)) (pgs_cons (pg_name (i := 8) scCd.nd rfl (.inl rfl)) pgs_nil))) (fun _ _ _ _ _ => pts_nil) (fun _ _ _ _ _ => pv 6)))
          (pe_lock (pe_scX (own := [("_", 8), ("y", 7)]) (g := gTup K 2 (gCons (gName 8) (gCons (gName 7) gNil))) (tt := tYes) rfl scCd.nd (pi_keys (pv 1)) (blkOk_by (N := nCd) (sc := defScope sClosed) (by decide +kernel))
            (fun _ _ _ _ _ => pg_tup (by rfl) (pgs_cons (pg_name (i := 8) scCd.nd rfl (.inl rfl)) (pgs_cons (pg_name (i := 7) scCd.nd rfl (.inl rfl)) pgs_nil))) (fun _ _ _ _ _ => pts_nil) (fun _ _ _ _ _ => pv 7)))) pa_nil))) (pg_name (i := 2) scCd.nd rfl (.inr rfl))
        (pss_cons (ps_lock (ps_setLc (i := 3) (own := [("x", 6), ("y", 7), ("c", 9)]) (g := gTup K 2 (gCons (gTup K 2 (gCons (gName 6) (gCons (gName 7) gNil))) (gCons (gName 9) gNil))) rfl scCd.nd rfl rfl (sw_true rfl rfl rfl (by decide +kernel)) (pi_itemsT (pv 1)) (blkOk_by (N := nCd) (sc := defScope sClosed) (by decide +kernel))
            (fun _ _ _ _ _ => pg_tup (by rfl) (pgs_cons (pg_tup (by rfl) (pgs_cons (pg_name (i := 6) scCd.nd rfl (.inl rfl)) (pgs_cons (pg_name (i := 7) scCd.nd rfl (.inl rfl)) pgs_nil))) (pgs_cons (pg_name (i := 9) scCd.nd rfl (.inl rfl)) pgs_nil)))
            (fun _ _ _ _ _ => pts_one (pt_cmpR (r := rEq) op_eq (pv 7) (pv 2) (nomark _))) (fun _ _ _ _ _ => pe_tup (pa_cons (pv 6) (pa_cons (pv 9) pa_nil)))))
        (pss_cons (ps_set (i := 4) scCd.nd rfl (.inr rfl) (pe_lock (pe_lc (own := [("x", 6), ("y", 7), ("c", 9)]) (g := gTup K 2 (gCons (gTup K 2 (gCons (gName 6) (gCons (gName 7) gNil))) (gCons (gName 9) gNil))) rfl scCd.nd (pi_itemsT (pv 1)) (blkOk_by (N := nCd) (sc := defScope sClosed) (by decide +kernel))
            (fun _ _ _ _ _ => pg_tup (by rfl) (pgs_cons (pg_tup (by rfl) (pgs_cons (pg_name (i := 6) scCd.nd rfl (.inl rfl)) (pgs_cons (pg_name (i := 7) scCd.nd rfl (.inl rfl)) pgs_nil))) (pgs_cons (pg_name (i := 9) scCd.nd rfl (.inl rfl)) pgs_nil)))
            (fun _ _ _ _ _ => pts_one (pt_cmpR (r := rEq) op_eq (pv 6) (pv 2) (nomark _))) (fun _ _ _ _ _ => pe_tup (pa_cons (pv 7) (pa_cons (pv 9) pa_nil))))))
        (pss_cons (ps_lock (ps_setLc (i := 5) (own := [("x", 6), ("y", 7), ("c", 9)]) (g := gTup K 2 (gCons (gTup K 2 (gCons (gName 6) (gCons (gName 7) gNil))) (gCons (gName 9) gNil))) (tt := tYes) rfl scCd.nd rfl rfl (sw_true rfl rfl rfl (by decide +kernel)) (pi_itemsT (pv 1)) (blkOk_by (N := nCd) (sc := defScope sClosed) (by decide +kernel))
            (fun _ _ _ _ _ => pg_tup (by rfl) (pgs_cons (pg_tup (by rfl) (pgs_cons (pg_name (i := 6) scCd.nd rfl (.inl rfl)) (pgs_cons (pg_name (i := 7) scCd.nd rfl (.inl rfl)) pgs_nil))) (pgs_cons (pg_name (i := 9) scCd.nd rfl (.inl rfl)) pgs_nil)))
            (fun _ _ _ _ _ => pts_nil) (fun _ _ _ _ _ => pe_tup (pa_cons (pv 6) (pa_cons (pv 7) (pa_cons (pv 9) pa_nil))))))
        (pss_one (ps_set (i := 1) scCd.nd rfl (.inl rfl) (pe_call GT hr (by rfl) mT kT bT .nil (passes_call (W := fun cls d _ H => E cls d H) (takes_of rfl rfl rfl rfl) (fun _ _ _ _ h => h)) (pa_cons (pe_op op_cat (pv 5)
            (pe_lc2 (own := [("x", 6), ("c", 9), ("y", 7), ("d", 10)]) (vs1 := [7, 10]) (g := gTup K 2 (gCons (gName 6) (gCons (gName 9) gNil))) (g1 := gTup K 2 (gCons (gName 7) (gCons (gName 10) gNil))) (tt := tYes) (tt1 := tYes) (wi1 := iList K (tVar 4)) rfl scCd.nd (pi_list (pv 3)) (blkOk_by (N := nCd) (sc := defScope sClosed) (by decide +kernel)) (by decide)
            (fun _ _ _ _ _ => pg_tup (by rfl) (pgs_cons (pg_name (i := 6) scCd.nd rfl (.inl rfl)) (pgs_cons (pg_name (i := 9) scCd.nd rfl (.inl rfl)) pgs_nil))) (fun _ _ _ _ _ => pts_nil)
            (fun _ _ _ _ _ => pi_list (pv 4))
            (fun _ _ _ _ _ => pg_tup (by rfl) (pgs_cons (pg_name (i := 7) scCd.nd rfl (.inl rfl)) (pgs_cons (pg_name (i := 10) scCd.nd rfl (.inl rfl)) pgs_nil))) (fun _ _ _ _ _ => pts_nil)
            (fun _ _ _ _ _ => pe_tup (pa_cons (pv 6) (pa_cons (pv 7) (pa_cons (pe_op op_add (pv 9) (pv 10)) pa_nil)))))) pa_nil))))))))
      (pss_one (ps_ret (pv 1)))), ?_⟩
    refine ⟨_, rfl, a, xs, L, rfl, ha, hx, by omega, fun fn0 q0 kvs0 T0 H1 nq0 s1 eq0 hT0 tg0 hk0 => ?_, fun nf H1 s1 => qE (fun ⟨p, K0⟩ => by
      obtain ⟨z, c, hm, hc⟩ := not_fine nf
      have := K0 _ _ _ hm
      omega) H1 s1⟩
    dsimp only [gName]
    have cl0 := M.Cn.first tg0
    have inW : ∀ {Z : List Str} {T : M.Tb Str}, M.Cn L Z T → ∀ x y c, T x y = some c → x ∈ W ∧ y ∈ W := fun cl x y c e => by
      obtain ⟨⟨y', c', h1, _⟩, x', c'', h2, _⟩ := cl.ends x y c e
      exact ⟨(hW _ h1).1, (hW _ h2).2⟩
    have few : ∀ {Z : List Str} {T : M.Tb Str} {kvs : List (List Key × V)}, TbL kvs T → M.Cn L Z T → kvs.length ≤ 49 := fun hT cl => by
      have h1 := hT.few W (inW cl)
      have h2 := Nat.mul_le_mul hw7 hw7
      omega
    have k0 := few hT0 cl0
    refine ⟨q0, .dT kvs0, eq0, True.intro, fun od => ?_⟩
    refine ⟨_, rfl, q0, od, rfl, .inr ⟨kvs0, upd_same, fun D nD => ?_⟩⟩
    obtain ⟨Dq0, D1⟩ := locked_new nD
    refine sc_it (walk_keysT (d := q0) (o := od) (kvs := kvs0)) (fun i H' => Same (upd H1 q0 (.frz od (.dT kvs0))) H' ∧ ∃ S, H' D = some (TxtO P w D S) ∧ S.length ≤ i ∧ ∀ z, z ∈ S ↔ ∃ f ∈ (ents kvs0).take i, f.1 = z)
      ⟨same_upd nD, [], upd_same, Nat.zero_le _, fun z => by simp⟩ (fun i H' _ h => h.1 _ _ upd_same) ?_ ?_
    · rintro i x H' H2 hi ⟨s', S, eS, lS, mS⟩ ⟨rfl, kk, v, t, hkv, rfl, ht⟩
      obtain ⟨fx, fy, fc, rfl, rfl, hT, hf⟩ := hT0.item hkv
      refine ⟨t, _, rfl, SqT.of ht, rfl, _, _, rfl, _, _, rfl, rfl, rfl, _, rfl, fx, S, rfl, eS, by rw [show scanBound = 4096 from rfl]; omega, fun c o e => ?_, _, upd_same, Nat.le_trans (insL_le _ _) (by omega), fun z => ?_⟩
      · rw [upd_ne (ne_of_none e nD)]
        exact s' c o e
      · rw [mem_insL, mS, List.take_succ, hf]
        constructor
        · rintro (⟨f, h1, h2⟩ | rfl)
          · exact ⟨f, List.mem_append_left _ h1, h2⟩
          · exact ⟨_, List.mem_append_right _ List.mem_cons_self, rfl⟩
        · rintro ⟨f, h1, h2⟩
          rcases List.mem_append.mp h1 with h1 | h1
          · exact .inl ⟨f, h1, h2⟩
          · have e : f = (fx, fy, fc) := by simpa using h1
            exact .inr (by rw [← h2, e])
    rintro H2 ⟨s2', S1, eS1, lS1, mS1⟩
    refine ⟨s2' _ _ upd_same, ?_⟩
    have s2 := unlock eq0 s2'
    have eD2 : (upd H2 q0 (.dT kvs0)) D = some (TxtO P w D S1) := by rw [upd_ne Dq0]; exact eS1
    have eq2 : (upd H2 q0 (.dT kvs0)) q0 = some (.dT kvs0) := upd_same
    rw [← ents_len, List.take_length] at mS1
    generalize upd H2 q0 (.dT kvs0) = H3 at s2 eD2 eq2 ⊢
    refine ⟨q0, .dT kvs0, eq2, True.intro, fun od2 => ?_⟩
    refine ⟨_, rfl, q0, od2, rfl, .inr ⟨kvs0, upd_same, fun D2 nD2 => ?_⟩⟩
    obtain ⟨D2q0, D21⟩ := locked_new nD2
    refine sc_it (walk_keysT (d := q0) (o := od2) (kvs := kvs0)) (fun i H' => Same (upd H3 q0 (.frz od2 (.dT kvs0))) H' ∧ ∃ S, H' D2 = some (TxtO P w D2 S) ∧ S.length ≤ i ∧ ∀ z, z ∈ S ↔ ∃ f ∈ (ents kvs0).take i, f.2.1 = z)
      ⟨same_upd nD2, [], upd_same, Nat.zero_le _, fun z => by simp⟩ (fun i H' _ h => h.1 _ _ upd_same) ?_ ?_
    · rintro i x H' H2 hi ⟨s', S, eS, lS, mS⟩ ⟨rfl, kk, v, t, hkv, rfl, ht⟩
      obtain ⟨fx, fy, fc, rfl, rfl, hT, hf⟩ := hT0.item hkv
      refine ⟨t, _, rfl, SqT.of ht, rfl, _, _, rfl, _, _, rfl, rfl, rfl, _, rfl, fy, S, rfl, eS, by rw [show scanBound = 4096 from rfl]; omega, fun c o e => ?_, _, upd_same, Nat.le_trans (insL_le _ _) (by omega), fun z => ?_⟩
      · rw [upd_ne (ne_of_none e nD2)]
        exact s' c o e
      · rw [mem_insL, mS, List.take_succ, hf]
        constructor
        · rintro (⟨f, h1, h2⟩ | rfl)
          · exact ⟨f, List.mem_append_left _ h1, h2⟩
          · exact ⟨_, List.mem_append_right _ List.mem_cons_self, rfl⟩
        · rintro ⟨f, h1, h2⟩
          rcases List.mem_append.mp h1 with h1 | h1
          · exact .inl ⟨f, h1, h2⟩
          · have e : f = (fx, fy, fc) := by simpa using h1
            exact .inr (by rw [← h2, e])
    rintro H4 ⟨s4', S2, eS2, lS2, mS2⟩
    refine ⟨s4' _ _ upd_same, ?_⟩
    have s4 := unlock eq2 s4'
    have eD4 : (upd H4 q0 (.dT kvs0)) D2 = some (TxtO P w D2 S2) := by rw [upd_ne D2q0]; exact eS2
    have eD14 := s4 _ _ eD2
    have eq4 : (upd H4 q0 (.dT kvs0)) q0 = some (.dT kvs0) := upd_same
    rw [← ents_len, List.take_length] at mS2
    generalize upd H4 q0 (.dT kvs0) = H5 at s4 eD4 eD14 eq4 ⊢
    have DD : D ≠ D2 := ne_of_none eD2 D21
    refine ⟨D, D2, S1, S2, rfl, rfl, DD, eD14, eD4, fun Mm N ndN hN nM => ?_⟩
    have s6 := same_upd (o := TxtO P w Mm N) nM
    have inN : ∀ z ∈ N, z ∈ W := fun z hz => by
      obtain ⟨⟨x, y, c⟩, h1, h2⟩ := (mS1 z).mp ((hN z).mp hz).1
      have := (inW cl0 _ _ _ (hT0.mem.mp h1)).1
      rw [← h2]
      exact this
    have lN : N.length ≤ 7 := Nat.le_trans (nodup_len ndN inN) hw7
    refine ⟨Mm, N, rfl, upd_same, by omega, fun ys Ll perm srt nL wL => ?_⟩
    have s7 := same_upd (o := .lst (ys.map V.str)) nL
    have s17 := (((s1.trans s2).trans s4).trans s6).trans s7
    have eq7 := s7 _ _ (s6 _ _ eq4)
    have eL7 : (upd (upd H5 Mm (TxtO P w Mm N)) Ll (.lst (ys.map V.str))) Ll = some (.lst (ys.map V.str)) := upd_same
    have hMid : ∀ m x y c d, (x, m, c) ∈ L → x ≠ m → (m, y, d) ∈ L → m ≠ y → m ∈ ys := fun m x y c d h1 n1 h2 n2 => by
      rw [perm.mem_iff, hN, mS1, mS2]
      obtain ⟨g1, e1, _⟩ := tg0.le _ _ _ h1 n1
      obtain ⟨g2, e2, _⟩ := tg0.le _ _ _ h2 n2
      exact ⟨⟨_, hT0.mem.mpr e2, rfl⟩, ⟨_, hT0.mem.mpr e1, rfl⟩⟩
    have nq7 : H q0 = none := nq0
    refine ⟨Ll, rfl, ⟨_, SqL.of upd_same⟩, ?_⟩
    refine for_list (K := K) (a := Ll) (xs := ys.map V.str) (fun i σ H' => ∃ (q1 : Addr) (kvs : List (List Key × V)) (T : M.Tb Str) (Z : List Str) (y2 y3 y4 y5 y6 y7 y8 y9 y10 : Option V), σ = [some (.ref a), some (.ref q1), y2, y3, y4, y5, y6, y7, y8, y9, y10] ∧ H q1 = none ∧ Same H H' ∧ H' Ll = some (.lst (ys.map V.str)) ∧ H' q1 = some (.dT kvs) ∧ TbL kvs T ∧ M.Cn L Z T ∧ ∀ z ∈ ys.take i, z ∈ Z)
      ⟨q0, kvs0, T0, [], none, none, none, none, none, none, none, none, none, rfl, nq0, s17, eL7, eq7, hT0, cl0, fun z hz => by simp at hz⟩ (fun i σ H' _ h => by
        obtain ⟨_, _, _, _, _, _, _, _, _, _, _, _, _, _, _, _, e, _⟩ := h
        exact SqL.of e) ?_ ?_
    · rintro i x σ H' hxi ⟨q1, kvs, T, Z, y2, y3, y4, y5, y6, y7, y8, y9, y10, rfl, nq1, s', eL, eq, hT, cl, hZ⟩
      obtain ⟨m, hmi, rfl⟩ : ∃ z, ys[i]? = some z ∧ x = .str z := by
        rw [List.getElem?_map] at hxi
        cases e : ys[i]? with
        | none => rw [e] at hxi; cases hxi
        | some z => rw [e] at hxi; cases hxi; exact ⟨z, rfl, rfl⟩
      have et : ys.take (i + 1) = ys.take i ++ [m] := by rw [List.take_succ, hmi]; rfl
      have kk := few hT cl
      have el : (ents kvs).length ≤ 49 := by rw [ents_len]; exact kk
      have al := Nat.le_trans (ahead_len (E := ents kvs) (m := m)) el
      have bl := Nat.le_trans (behind_len (E := ents kvs) (m := m)) el
      -- ahead
      refine ⟨q1, .dT kvs, eq, True.intro, fun od1 => ?_⟩
      refine ⟨_, rfl, q1, od1, kvs, rfl, upd_same, fun A nA => ?_⟩
      obtain ⟨Aq, A1⟩ := locked_new nA
      refine lc_it walk_itemsT (fun j H2 => Same (upd H' q1 (.frz od1 (.dT kvs))) H2 ∧ ∃ xs, H2 A = some (.lst xs) ∧ Prs H2 xs (aheadOf ((ents kvs).take j) m))
        ⟨same_upd nA, [], upd_same, .nil⟩ (fun j H2 _ h => h.1 _ _ upd_same) ?_ ?_
      · rintro j x H2 H3 hj ⟨s2, xs2, e2, p2⟩ ⟨N1, kq, kk2, val, hkv, rfl, nN, hkq, rfl⟩
        obtain ⟨fx, fy, fc, rfl, rfl, hT2, hf⟩ := hT.item hkv
        have sN := same_upd (o := .tup [.ref kq, .int fc]) nN
        refine ⟨N1, _, rfl, SqT.of upd_same, rfl, _, _, rfl, ⟨kq, _, rfl, SqT.of (sN _ _ hkq), rfl, _, _, rfl, _, _, rfl, rfl, _, _, rfl, rfl, rfl, ?_⟩⟩
        refine ⟨_, rfl, _, rfl, rfl, _, rfl, ite2 (fun e => ?_) (fun e => ?_)⟩
        · obtain rfl : fy = m := V.str.inj (of_decide_eq_true e)
          refine ⟨_, rfl, _, rfl, by show 2 ≤ sizeLine; decide, fun t nt => ?_⟩
          have sT := sN.trans (same_upd (o := .tup [.str fx, .int fc]) nt)
          refine ⟨xs2, sT _ _ e2, small6k (by rw [p2.len]; have := ahead_len (E := (ents kvs).take j) (m := fy); rw [List.length_take] at this; omega), fun c o e => ?_, _, upd_same, ?_⟩
          · rw [upd_ne (ne_of_none e nA)]
            exact sT _ _ (s2 c o e)
          · rw [ahead_snoc hf, if_pos rfl]
            refine (p2.same fun t' ys e => ?_).snoc (by rw [upd_ne (ne_of (sT _ _ e2) upd_same (by intro z; cases z)).symm]; exact upd_same)
            rw [upd_ne (ne_of e e2 (by intro z; cases z))]
            exact sT _ _ e
        · have nm : ¬ fy = m := fun z => e (decide_eq_true (congrArg V.str z))
          refine ⟨s2.trans sN, xs2, sN _ _ e2, ?_⟩
          rw [ahead_snoc hf, if_neg nm, List.append_nil]
          exact p2.same fun t' ys e => sN _ _ e
      rintro H2 ⟨s2', xsA, eA2, pA2⟩
      refine ⟨s2' _ _ upd_same, ?_⟩
      have s2 := unlock eq s2'
      rw [← ents_len, List.take_length] at pA2
      have eA3 : (upd H2 q1 (.dT kvs)) A = some (.lst xsA) := by rw [upd_ne Aq]; exact eA2
      have pA3 : Prs (upd H2 q1 (.dT kvs)) xsA (aheadOf (ents kvs) m) := pA2.same fun t ys e => by rw [upd_ne (ne_of e (s2' _ _ upd_same) (by intro z; cases z))]; exact e
      have eq3 : (upd H2 q1 (.dT kvs)) q1 = some (.dT kvs) := upd_same
      generalize upd H2 q1 (.dT kvs) = H3 at s2 eA3 pA3 eq3 ⊢
      -- behind
      dsimp only [gName]
      refine ⟨q1, .dT kvs, eq3, True.intro, fun od2 => ?_⟩
      refine ⟨_, rfl, q1, od2, kvs, rfl, upd_same, fun B nB => ?_⟩
      obtain ⟨Bq, B1⟩ := locked_new nB
      refine lc_it walk_itemsT (fun j H2 => Same (upd H3 q1 (.frz od2 (.dT kvs))) H2 ∧ ∃ xs, H2 B = some (.lst xs) ∧ Prs H2 xs (behindOf ((ents kvs).take j) m))
        ⟨same_upd nB, [], upd_same, .nil⟩ (fun j H2 _ h => h.1 _ _ upd_same) ?_ ?_
      · rintro j x H2 H4 hj ⟨s3, xs2, e2, p2⟩ ⟨N1, kq, kk2, val, hkv, rfl, nN, hkq, rfl⟩
        obtain ⟨fx, fy, fc, rfl, rfl, hT2, hf⟩ := hT.item hkv
        have sN := same_upd (o := .tup [.ref kq, .int fc]) nN
        refine ⟨N1, _, rfl, SqT.of upd_same, rfl, _, _, rfl, ⟨kq, _, rfl, SqT.of (sN _ _ hkq), rfl, _, _, rfl, _, _, rfl, rfl, _, _, rfl, rfl, rfl, ?_⟩⟩
        refine ⟨_, rfl, _, rfl, rfl, _, rfl, ite2 (fun e => ?_) (fun e => ?_)⟩
        · obtain rfl : fx = m := V.str.inj (of_decide_eq_true e)
          refine ⟨_, rfl, _, rfl, by show 2 ≤ sizeLine; decide, fun t nt => ?_⟩
          have sT := sN.trans (same_upd (o := .tup [.str fy, .int fc]) nt)
          refine ⟨xs2, sT _ _ e2, small6k (by rw [p2.len]; have := behind_len (E := (ents kvs).take j) (m := fx); rw [List.length_take] at this; omega), fun c o e => ?_, _, upd_same, ?_⟩
          · rw [upd_ne (ne_of_none e nB)]
            exact sT _ _ (s3 c o e)
          · rw [behind_snoc hf, if_pos rfl]
            refine (p2.same fun t' ys e => ?_).snoc (by rw [upd_ne (ne_of (sT _ _ e2) upd_same (by intro z; cases z)).symm]; exact upd_same)
            rw [upd_ne (ne_of e e2 (by intro z; cases z))]
            exact sT _ _ e
        · have nm : ¬ fx = m := fun z => e (decide_eq_true (congrArg V.str z))
          refine ⟨s3.trans sN, xs2, sN _ _ e2, ?_⟩
          rw [behind_snoc hf, if_neg nm, List.append_nil]
          exact p2.same fun t' ys e => sN _ _ e
      rintro H4 ⟨s4', xsB, eB4, pB4⟩
      refine ⟨s4' _ _ upd_same, ?_⟩
      have s4 := unlock eq3 s4'
      rw [← ents_len, List.take_length] at pB4
      have eB5 : (upd H4 q1 (.dT kvs)) B = some (.lst xsB) := by rw [upd_ne Bq]; exact eB4
      have pB5 : Prs (upd H4 q1 (.dT kvs)) xsB (behindOf (ents kvs) m) := pB4.same fun t ys e => by rw [upd_ne (ne_of e (s4' _ _ upd_same) (by intro z; cases z))]; exact e
      have eA5 := s4 _ _ eA3
      have pA5 := pA3.same (H' := upd H4 q1 (.dT kvs)) fun t ys e => s4 _ _ e
      have eq5 : (upd H4 q1 (.dT kvs)) q1 = some (.dT kvs) := upd_same
      generalize upd H4 q1 (.dT kvs) = H5 at s4 eB5 pB5 eA5 pA5 eq5 ⊢
      -- known
      refine ⟨q1, .dT kvs, eq5, True.intro, fun od3 => ?_⟩
      refine ⟨_, rfl, q1, od3, kvs, rfl, upd_same, fun D3 nD3 => ?_⟩
      obtain ⟨D3q, D31⟩ := locked_new nD3
      refine lc_it walk_itemsT (fun j H2 => Same (upd H5 q1 (.frz od3 (.dT kvs))) H2 ∧ ∃ xs, H2 D3 = some (.lst xs) ∧ Its H2 xs ((ents kvs).take j))
        ⟨same_upd nD3, [], upd_same, .nil⟩ (fun j H2 _ h => h.1 _ _ upd_same) ?_ ?_
      · rintro j x H2 H6 hj ⟨s5, xs2, e2, p2⟩ ⟨N1, kq, kk2, val, hkv, rfl, nN, hkq, rfl⟩
        obtain ⟨fx, fy, fc, rfl, rfl, hT2, hf⟩ := hT.item hkv
        have sN := same_upd (o := .tup [.ref kq, .int fc]) nN
        refine ⟨N1, _, rfl, SqT.of upd_same, rfl, _, _, rfl, ⟨kq, _, rfl, SqT.of (sN _ _ hkq), rfl, _, _, rfl, _, _, rfl, rfl, _, _, rfl, rfl, rfl, ?_⟩⟩
        refine ⟨_, rfl, _, rfl, _, rfl, by show 3 ≤ sizeLine; decide, fun t nt => ?_⟩
        have sT := sN.trans (same_upd (o := .tup [.str fx, .str fy, .int fc]) nt)
        have e1 : (ents kvs).take (j + 1) = (ents kvs).take j ++ [(fx, fy, fc)] := by rw [List.take_succ, hf]; rfl
        refine ⟨xs2, sT _ _ e2, small6k (by rw [p2.len, List.length_take]; omega), fun c o e => ?_, _, upd_same, ?_⟩
        · rw [upd_ne (ne_of_none e nD3)]
          exact sT _ _ (s5 c o e)
        · rw [e1]
          refine (p2.samT fun t' ys e => ?_).snoc (by rw [upd_ne (ne_of (sT _ _ e2) upd_same (by intro z; cases z)).symm]; exact upd_same)
          rw [upd_ne (ne_of e e2 (by intro z; cases z))]
          exact sT _ _ e
      rintro H6 ⟨s6', xsK, eK6, pK6⟩
      refine ⟨s6' _ _ upd_same, ?_⟩
      have s6 := unlock eq5 s6'
      rw [← ents_len, List.take_length] at pK6
      have eK7 : (upd H6 q1 (.dT kvs)) D3 = some (.lst xsK) := by rw [upd_ne D3q]; exact eK6
      have pK7 : Its (upd H6 q1 (.dT kvs)) xsK (ents kvs) := pK6.samT fun t ys e => by rw [upd_ne (ne_of e (s6' _ _ upd_same) (by intro z; cases z))]; exact e
      have eA7 := s6 _ _ eA5
      have pA7 := pA5.same (H' := upd H6 q1 (.dT kvs)) fun t ys e => s6 _ _ e
      have eB7 := s6 _ _ eB5
      have pB7 := pB5.same (H' := upd H6 q1 (.dT kvs)) fun t ys e => s6 _ _ e
      have s07 := ((s'.trans s2).trans s4).trans s6
      have eL7 := s6 _ _ (s4 _ _ (s2 _ _ eL))
      clear s6' s4' s2' eK6 pK6 eB4 pB4 eA2 pA2 s2 s4
      generalize upd H6 q1 (.dT kvs) = H7 at s6 eK7 pK7 eA7 pA7 eB7 pB7 s07 eL7 ⊢
      dsimp only [gName]
      -- the ways
      refine ⟨_, rfl, _, rfl, A, rfl, ⟨_, SqL.of eA7⟩, fun G nG => ?_⟩
      refine loop_it (walk_list (K := K) (a := A) (xs := xsA)) (fun j H2 => Same H7 H2 ∧ ∃ xs, H2 G = some (.lst xs) ∧ Its H2 xs (waysOf ((aheadOf (ents kvs) m).take j) (behindOf (ents kvs) m)))
        ⟨same_upd nG, [], upd_same, .nil⟩ (fun j H2 _ h => SqL.of (h.1 _ _ eA7)) ?_ ?_
      · rintro j x H2 H8 hj ⟨s8, xs2, e2, p2⟩ ⟨rfl, hxj⟩
        obtain ⟨⟨fx, fc⟩, hf, t, rfl, ht⟩ := pA7.at_ _ _ hxj
        have ht2 := s8 _ _ ht
        have jl : j < (aheadOf (ents kvs) m).length := (List.getElem?_eq_some_iff.mp hf).1
        have e1 : waysOf ((aheadOf (ents kvs) m).take (j + 1)) (behindOf (ents kvs) m) = waysOf ((aheadOf (ents kvs) m).take j) (behindOf (ents kvs) m) ++ (behindOf (ents kvs) m).map fun b => (fx, b.1, fc + b.2) := by
          unfold waysOf
          rw [List.take_succ, hf, List.flatMap_append]
          congr 1
          simp
        refine ⟨t, _, rfl, SqT.of ht2, rfl, _, _, rfl, _, _, rfl, rfl, wp1 (wp1 wp0), ?_⟩
        simp only [gName, wipe, List.map_cons, List.map_nil, List.set_cons_zero, List.set_cons_succ]
        refine ⟨_, rfl, B, rfl, ⟨_, SqL.of (s8 _ _ eB7)⟩, ?_⟩
        refine loop_it (walk_list (K := K) (a := B) (xs := xsB)) (fun k H3 => Same H7 H3 ∧ ∃ xs, H3 G = some (.lst xs) ∧ Its H3 xs (waysOf ((aheadOf (ents kvs) m).take j) (behindOf (ents kvs) m) ++ ((behindOf (ents kvs) m).take k).map fun b => (fx, b.1, fc + b.2)))
          ⟨s8, xs2, e2, by rw [List.take_zero, List.map_nil, List.append_nil]; exact p2⟩ (fun k H3 _ h => SqL.of (h.1 _ _ eB7)) ?_ ?_
        · rintro k x H3 H9 hk ⟨s9, xs3, e3, p3⟩ ⟨rfl, hxk⟩
          obtain ⟨⟨fy, fd⟩, hg, u, rfl, hu2⟩ := pB7.at_ _ _ hxk
          have kl : k < (behindOf (ents kvs) m).length := (List.getElem?_eq_some_iff.mp hg).1
          refine ⟨u, _, rfl, SqT.of (s9 _ _ hu2), rfl, _, _, rfl, _, _, rfl, rfl, rfl, ?_⟩
          simp only [gName, wipe, List.map_cons, List.map_nil, List.set_cons_zero, List.set_cons_succ]
          refine ⟨_, rfl, _, rfl, _, rfl, _, rfl, _, _, rfl, rfl, by show 3 ≤ sizeLine; decide, fun t nt => ?_⟩
          have sT := same_upd (o := .tup [.str fx, .str fy, .int (fc + fd)]) nt
          have e4 : ((behindOf (ents kvs) m).take (k + 1)).map (fun b => (fx, b.1, fc + b.2)) = ((behindOf (ents kvs) m).take k).map (fun b => (fx, b.1, fc + b.2)) ++ [(fx, fy, fc + fd)] := by
            rw [List.take_succ, hg, List.map_append]
            rfl
          refine ⟨xs3, sT _ _ e3, small6k ?_, fun c o e => ?_, _, upd_same, ?_⟩
          · rw [p3.len, List.length_append, ways_len, List.length_map, List.length_take, List.length_take]
            have h1 : min j (aheadOf (ents kvs) m).length ≤ 49 := by omega
            have h2 := Nat.mul_le_mul h1 bl
            omega
          · rw [upd_ne (ne_of_none e nG)]
            exact sT _ _ (s9 c o e)
          · rw [e4, ← List.append_assoc]
            refine (p3.samT fun t' ys e => ?_).snoc (by rw [upd_ne (ne_of (sT _ _ e3) upd_same (by intro z; cases z)).symm]; exact upd_same)
            rw [upd_ne (ne_of e e3 (by intro z; cases z))]
            exact sT _ _ e
        · rintro H3 ⟨s9, xs3, e3, p3⟩
          rw [pB7.len, List.take_length] at p3
          exact ⟨s9, xs3, e3, by rw [e1]; exact p3⟩
      rintro H8 ⟨s8, xsG, eG, pG⟩
      rw [pA7.len, List.take_length] at pG
      have lG : xsG.length ≤ 2401 := by
        rw [pG.len, ways_len]
        exact Nat.mul_le_mul al bl
      have lK : xsK.length ≤ 49 := by rw [pK7.len]; exact el
      refine ⟨D3, G, xsK, xsG, rfl, rfl, s8 _ _ eK7, eG, Nat.le_of_lt (small6k (by omega)), fun Pn nP => ?_⟩
      have sP := same_upd (o := .lst (xsK ++ xsG)) nP
      have over := over_of hT m
      refine ⟨Pn, xsK ++ xsG, ents kvs ++ waysOf (aheadOf (ents kvs) m) (behindOf (ents kvs) m), rfl, .inl upd_same, ((pK7.samT fun t ys e => s8 _ _ e).app pG).samT fun t ys e => sP _ _ e, by rw [List.length_append, ways_len]; have := Nat.mul_le_mul al bl; omega, fun fnL q2 kvs2 T2 H9 nq2 s9 eq9 hT9 tg9 hk9 => ?_, fun nf H9 s9 => qE (by
        obtain ⟨z, c, hm, hc⟩ := not_fine nf
        obtain ⟨n, wk⟩ := cl.bad over hm hc
        exact M.no_start wk hc) H9 ((s07.trans (s8.trans sP)).trans s9)⟩
      have s89 := (s8.trans sP).trans s9
      refine ⟨q2, kvs2, T2, m :: Z, _, _, _, _, _, _, _, _, _, rfl, ?_, s07.trans s89, s89 _ _ eL7, eq9, hT9, cl.next over fnL tg9, fun z hz => ?_⟩
      · cases e : H q2 with
        | none => rfl
        | some o =>
          have := ((s07.trans s8).trans sP) _ _ e
          rw [nq2] at this
          cases this
      · rw [et] at hz
        rcases List.mem_append.mp hz with hz | hz
        · exact List.mem_cons_of_mem _ (hZ z hz)
        · rw [List.mem_singleton.mp hz]
          exact List.mem_cons_self
    · rintro σ H' ⟨q1, kvs, T, Z, y2, y3, y4, y5, y6, y7, y8, y9, y10, rfl, nq1, s', eL, eq, hT, cl, hZ⟩
      rw [List.length_map, List.take_length] at hZ
      have hM := fun m x y c d h1 n1 h2 n2 => hZ m (hMid m x y c d h1 n1 h2 n2)
      exact ⟨_, rfl, q (cl.start (V := W) fn0 hM fun x y c hm => hW _ hm) q1 kvs T Z H' nq1 s' eq hT (fun p K0 => cl.cl K0) hM⟩
end
end Fv


set_option Elab.async false
set_option linter.all false
set_option maxRecDepth 100000
set_option maxHeartbeats 4000000
namespace Fv
open PySem PySem.Spec PyProof.Rows L2
def spChkSR (CE : Addr) : Sp := fun vs H Q E => ∃ (n a : Addr) (zs : List Str) (xs : List V) (L : List FaT), vs = [.ref n, .ref a] ∧ RowAt H n (zs.map V.str) ∧ zs.length ≤ 60 ∧ RowAt H a xs ∧ Its H xs L ∧
  ((∀ f ∈ L, SrcIn zs f.1 ∧ SrcIn zs f.2.1) → ∀ H', Same H H' → Q .non H') ∧
  ∀ u, FirstBad zs L u → ∀ (H1 : Hp) (dx : Addr), Same H H1 → H1 dx = none → E (.ref CE) (some dx) (upd H1 dx (.xd [("name", .str u)]))
section
variable {P : Program} {w : World} {K : PySem.W.Frag} {mg : Str → Option Value} {base : Heap} {C CE : Addr}
theorem ok_chksR {f : Addr} {fd : FuncData} (F : Fun K "_check_sources" "_check_sources" sChkSrc f fd) (O : Own1 P w K mg base "NoName" "name" CE) : FnOk P w K mg base (L2.CX P w) 3 f fd ["names", "facts"] (spChkSR CE) := by
  refine F.okX scCs (fun vs H Q E h => ?_) (fun cdv A outer s H vs Q E hr h => ?_)
  · obtain ⟨n, a, zs, xs, L, rfl, _⟩ := h
    rfl
  · obtain ⟨n, a, zs, xs, L, rfl, hn, hz, ha, hx, q, qE⟩ := h
    have hu := hu_of hr
    refine ⟨_, pss_cons (ps_setDc (i := 2) (own := [("name", 7)]) (g := gName 7) (tt := tYes) rfl scCs.nd rfl rfl (swD_true rfl rfl rfl (by decide +kernel)) (pi_rowA (pv 0)) (blkOk_by (N := nCs) (sc := defScope sChkSrc) (by decide +kernel))
        (fun _ _ _ _ _ => pg_name (i := 7) scCs.nd rfl (Or.inl rfl)) (fun _ _ _ _ _ => pts_nil) (fun _ _ _ _ _ => pv 7) (fun _ _ _ _ _ => pe_bl))
      (pss_one (ps_for (passes_of rfl) rfl (pi_rowA (pv 1)) (pg_tup (by rfl) (pgs_cons (pg_name (i := 3) scCs.nd rfl (.inl rfl)) (pgs_cons (pg_name (i := 4) scCs.nd rfl (.inl rfl)) (pgs_cons (pg_name (i := 5) scCs.nd rfl (.inl rfl)) pgs_nil))))
        (pss_one (ps_for (passes_of rfl) rfl (pi_tup (pe_tup (pa_cons (pv 3) (pa_cons (pv 4) pa_nil)))) (pg_name (i := 6) scCs.nd rfl (.inl rfl))
          (pss_one (ps_if (PW.pt (pw_and (pt_cmpR op_ne (pv 6) pe_str (nomark _)) (pw_and1 (pt_cmp (pc_dnotin hu (pv 6) (pv 2))))))
            (pss_one (ps_raise (W := fun cls d _ H => E cls d H) rfl (takes_of rfl rfl rfl rfl) (pmk1 O hr (by rfl) (pa_cons (pv 6) pa_nil)))) pss_nil)))))), ?_⟩
    refine ⟨_, rfl, n, _, rfl, hn, fun J G wk hG D hD => ?_⟩
    have stN : ∀ {H' : Hp}, Same H H' → G H' := fun {H'} s => hG H' (by
      obtain ⟨o, e⟩ := hn.ex
      rw [s _ _ e, e])
    refine dc_it wk (fun i H' => Same H H' ∧ H' D = some (.dK (dkOf (zs.take i)))) ⟨same_upd hD, upd_same⟩ (fun i H' _ h => stN h.1) ?_ ?_
    · rintro i x H' H2 hi ⟨s', e'⟩ ⟨rfl, hxi⟩
      obtain ⟨z, hzi, rfl⟩ : ∃ z, zs[i]? = some z ∧ x = .str z := by
        rw [List.getElem?_map] at hxi
        cases e : zs[i]? with
        | none => rw [e] at hxi; cases hxi
        | some z => rw [e] at hxi; cases hxi; exact ⟨z, rfl, rfl⟩
      have et : zs.take (i + 1) = zs.take i ++ [z] := by rw [List.take_succ, hzi]; rfl
      refine ⟨rfl, _, rfl, _, Sum.inr z, rfl, e', ?_, fun c o e => ?_, ?_⟩
      · exact Nat.lt_of_le_of_lt (dkOf_both _ _ rfl).1 (small60 (by rw [List.length_take]; omega))
      · rw [upd_ne (ne_of_none e hD)]
        exact s' c o e
      · rw [upd_same, et, dkOf_snoc]
    · rintro H1 ⟨s1, e1⟩
      rw [List.length_map, List.take_length] at e1
      have vz := (dkOf_both _ zs rfl).2
      dsimp only [gName]
      refine ⟨_, rfl, a, _, rfl, ha.same s1, fun J2 G2 wk2 hG2 => ?_⟩
      have stA : ∀ {H' : Hp}, Same H1 H' → G2 H' := fun {H'} s => hG2 H' (by
        obtain ⟨o, e⟩ := ha.ex
        rw [s _ _ (s1 _ _ e), s1 _ _ e])
      refine for_it wk2 (fun i σ H' => ∃ y3 y4 y5 y6 y7 : Option V, σ = [some (.ref n), some (.ref a), some (.ref D), y3, y4, y5, y6, y7] ∧ Same H1 H' ∧ ∀ (j : Nat) (g : FaT), j < i → L[j]? = some g → SrcIn zs g.1 ∧ SrcIn zs g.2.1)
        ⟨none, none, none, none, _, rfl, fun _ _ e => e, fun j g h => absurd h (Nat.not_lt_zero j)⟩ (fun i σ H' _ h => by obtain ⟨_, _, _, _, _, _, s', _⟩ := h; exact stA s') ?_ ?_
      · rintro i x σ H0 H' hi ⟨y3, y4, y5, y6, y7, rfl, s', hb⟩ ⟨rfl, hxi⟩
        obtain ⟨⟨fx, fy, fc⟩, hf, t, rfl, ht⟩ := hx.at_ i x hxi
        refine ⟨t, _, rfl, SqT.of (s' _ _ (s1 _ _ ht)), rfl, _, _, rfl, _, _, rfl, _, _, rfl, rfl, ?_⟩
        refine ⟨_, rfl, _, rfl, by show 2 ≤ sizeLine; decide, fun p np => ?_⟩
        have sp := same_upd (o := .tup [.str fx, .str fy]) np
        refine ⟨p, rfl, ⟨_, SqT.of upd_same⟩, ?_⟩
        refine for_tup (K := K) (a := p) (xs := [.str fx, .str fy]) (fun i σ H2 => (∃ y6 y7 : Option V, σ = [some (.ref n), some (.ref a), some (.ref D), some (.str fx), some (.str fy), some (.int fc), y6, y7] ∧ H2 = upd H' p (.tup [.str fx, .str fy])) ∧ (1 ≤ i → SrcIn zs fx) ∧ (2 ≤ i → SrcIn zs fy))
          ⟨⟨y6, y7, rfl, rfl⟩, fun h => absurd h (by decide), fun h => absurd h (by decide)⟩ (fun i σ H2 _ h => by obtain ⟨⟨_, _, _, rfl⟩, _⟩ := h; exact SqT.of upd_same) ?_ ?_
        · rintro j x σ H2 hxj ⟨⟨y6, y7, rfl, rfl⟩, hb1, hb2⟩
          obtain ⟨z, rfl, hz0, hz1⟩ : ∃ z, x = .str z ∧ (j = 0 → z = fx) ∧ (j ≠ 0 → j = 1 ∧ z = fy) := by
            match j, hxj with
            | 0, h => cases h; exact ⟨fx, rfl, fun _ => rfl, fun h => absurd rfl h⟩
            | 1, h => cases h; exact ⟨fy, rfl, (fun h => by cases h), fun _ => ⟨rfl, rfl⟩⟩
          have good : SrcIn zs z → (1 ≤ j + 1 → SrcIn zs fx) ∧ (2 ≤ j + 1 → SrcIn zs fy) := fun h => by
            by_cases e : j = 0
            · rw [← hz0 e]
              exact ⟨fun _ => h, fun h2 => absurd h2 (by omega)⟩
            · obtain ⟨e1, e2⟩ := hz1 e
              rw [← e2]
              exact ⟨fun _ => hb1 (by omega), fun _ => h⟩
          refine ⟨_, rfl, rfl, _, rfl, ite2 (fun e => ?_) (fun e => ?_)⟩
          · have nz : z ≠ "" := fun q => by simp [q] at e
            have sm := vz z
            refine ⟨_, rfl, _, rfl, D, _, rfl, DGet.k (k := Sum.inr z) (sp _ _ (s' _ _ e1)), ?_⟩
            rw [sm]
            by_cases hm : z ∈ zs
            · rw [decide_eq_true hm]
              exact ⟨_, rfl, iteF ⟨⟨_, _, rfl, rfl⟩, good (.inr hm)⟩⟩
            · rw [decide_eq_false hm]
              have bad : ¬ SrcIn zs z := fun h => h.elim nz hm
              refine ⟨_, rfl, iteT ⟨_, rfl, fun dx nd => ?_⟩⟩
              refine qE z ⟨i, (fx, fy, fc), hf, hb, ?_⟩ _ dx (s1.trans (s'.trans sp)) nd
              by_cases e : j = 0
              · exact .inl ⟨(hz0 e).symm, by rw [show (fx, fy, fc).1 = fx from rfl, ← hz0 e]; exact bad⟩
              · obtain ⟨e1, e2⟩ := hz1 e
                exact .inr ⟨hb1 (by omega), e2.symm, by rw [show (fx, fy, fc).2.1 = fy from rfl, ← e2]; exact bad⟩
          · have ez : z = "" := by
              by_cases q : z = ""
              · exact q
              · exact absurd (by simp [q]) e
            exact ⟨⟨_, _, rfl, rfl⟩, good (.inl ez)⟩
        · rintro σ H2 ⟨⟨y6, y7, rfl, rfl⟩, hb1, hb2⟩
          refine ⟨_, _, _, _, _, rfl, s'.trans sp, fun j g hj hg => ?_⟩
          by_cases e : j = i
          · rw [e, hf] at hg
            cases hg
            exact ⟨hb1 (by show 1 ≤ 2; decide), hb2 (by show 2 ≤ 2; decide)⟩
          · exact hb j g (by omega) hg
      · rintro σ H' ⟨y3, y4, y5, y6, y7, rfl, s', hb⟩
        refine q (fun f hf => ?_) H' (s1.trans s')
        obtain ⟨j, hj⟩ := List.getElem?_of_mem hf
        exact hb j f (by rw [hx.len]; exact (List.getElem?_eq_some_iff.mp hj).1) hj
end
end Fv


set_option Elab.async false
set_option linter.all false
set_option maxRecDepth 100000
set_option maxHeartbeats 4000000
namespace Fv
open PySem PySem.Spec PyProof.Rows L2
def SameX (x : Addr) (H H' : Hp) : Prop := ∀ c o, c ≠ x → H c = some o → H' c = some o
theorem SameX.trans {x : Addr} {H H' H2 : Hp} (h : SameX x H H') (k : SameX x H' H2) : SameX x H H2 := fun c o n e => k c o n (h c o n e)
theorem sameX {x : Addr} {H H' : Hp} (h : Same H H') : SameX x H H' := fun c o _ e => h c o e
/-- two arguments that are each as told -/
structure TwoV (H : Hp) (x : Addr) (v0 v1 : V) (zs : List Str) (L : List FaT) : Prop where
  at_ : ∃ n a xs, v0 = .ref n ∧ v1 = .ref a ∧ n ≠ x ∧ a ≠ x ∧ RowAt H n (zs.map V.str) ∧ RowAt H a xs ∧ Its H xs L
  nm : ∀ z ∈ zs, NmOk z
  nd : zs.Nodup
  zl : zs.length ≤ 6
  ll : L.length ≤ 60
def spMade (C CW CN CS : Addr) : Sp := fun vs H Q E => ∃ (x dx : Addr) (v0 v1 : V) (r0 r1 : Bool), vs = [.ref x, v0, v1] ∧ H x = some (.ins C dx []) ∧ ArgN C H x namesD v0 r0 ∧ ArgN C H x factsD v1 r1 ∧
  (∀ m : Nat, FirstNo [r0, r1] m → ∀ (H1 : Hp) (d : Addr), SameX x H H1 → H1 d = none → E (.ref CW) (some d) (upd H1 d (.xd [("place", .int m)]))) ∧
  ([r0, r1].all id = true → ∃ (zs : List Str) (L : List FaT), TwoV H x v0 v1 zs L ∧
    (∀ u, FirstBad zs L u → ∀ (H1 : Hp) (d : Addr), SameX x H H1 → H1 d = none → E (.ref CN) (some d) (upd H1 d (.xd [("name", .str u)]))) ∧
    ((∀ f ∈ L, SrcIn zs f.1 ∧ SrcIn zs f.2.1) → (¬ ∃ p, M.Keeps L p) → ∀ H1, SameX x H H1 → E (.ref CS) none H1) ∧
    ((∀ f ∈ L, SrcIn zs f.1 ∧ SrcIn zs f.2.1) → (∃ p, M.Keeps L p) → ∀ H' ys (T : M.Tb Str) Z m, H m = none → ys.Perm zs → sortedS ys = true → FacAtN C H' x m ys T → (∀ p, M.Keeps L p → M.Cl L p Z T) → (∀ m x y c d, (x, m, c) ∈ L → x ≠ m → (m, y, d) ∈ L → m ≠ y → m ∈ Z) → SameX x H H' → Q .non H'))
section
variable {P : Program} {w : World} {K : PySem.W.Frag} {mg : Str → Option Value} {base : Heap} {C : Addr}
theorem no_arefacts {f fR fP : Addr} {fd fdR fdP : FuncData} (F : Fun K "_are_facts" "_are_facts" sAreFacts f fd)
    (GR : FnOk P w K mg base CX0 1 fR fdR ["thing"] (spNo true)) (bR : Binds K fdR ["thing"] []) (mR : mg "is_row" = some (.ref fR)) (kR : PySem.W.keepIn K (.ref fR) = true)
    (GP : FnOk P w K mg base CX0 3 fP fdP ["thing"] (spX C factD)) (bP : Binds K fdP ["thing"] []) (mP : mg "_is_fact" = some (.ref fP)) (kP : PySem.W.keepIn K (.ref fP) = true)
    (ma : mg "all" = none) : FnOk P w K mg base CX0 4 f fd ["thing"] (spNo false) := by
  refine F.ok scAf (fun vs H Q E h => ?_) (fun cdv A outer s H vs Q E hr h => ?_)
  · obtain ⟨b, v, rfl, _⟩ := h
    rfl
  · obtain ⟨b, v, rfl, hv, hb, q⟩ := h
    have hr1 : Room 1 _ := hr.mono (by decide)
    refine ⟨_, pss_one (ps_ret (pe_and (pe_call GR hr1 (by rfl) mR kR bR .nil pass0 (pa_cons (pv 0) pa_nil))
      (pe_one (pe_callB (cr_all rfl) (by rfl) ma (by decide +kernel) (pa_cons
        (pe_lc (own := [("item", 1)]) (g := gName 1) (tt := tYes) rfl scAf.nd (pi_list (pv 0)) (blkOk_by (N := ["thing", "item"]) (sc := defScope sAreFacts) (by decide +kernel))
        (fun _ _ _ _ _ => pg_name (i := 1) scAf.nd rfl (Or.inl rfl)) (fun _ _ _ _ _ => pts_nil) (fun _ _ _ _ _ => pe_call GP hr (by rfl) mP kP bP .nil pass0 (pa_cons (pv 1) pa_nil))) pa_nil))))), ?_⟩
    refine ⟨_, rfl, b, v, rfl, hv, hb, fun H1 s1 => ⟨_, rfl, iteT ?_⟩⟩
    obtain ⟨a, n, rfl, ea, hn⟩ := hv.same s1
    refine ⟨_, rfl, a, rfl, ⟨_, SqL.of ea⟩, fun D hD => ?_⟩
    refine lc_list (K := K) (a := a) (xs := List.replicate (n + 1) V.non) (fun i H' => Same H1 H' ∧ H' D = some (.lst (List.replicate i (V.bl false)))) ⟨same_upd hD, upd_same⟩ (fun i H' _ h => SqL.of (h.1 _ _ ea)) ?_ ?_
    · rintro i x H' hxi ⟨s', e'⟩
      have hi : i < n + 1 := by
        have := (List.getElem?_eq_some_iff.mp hxi).1
        rwa [List.length_replicate] at this
      obtain rfl := take_rep hxi
      refine ⟨rfl, _, rfl, b, .non, .none, rfl, .non, True.intro, there (s1.trans s') hb, fun H3 s3 => ⟨_, s3 _ _ e', ?_, fun c o e => ?_, ?_⟩⟩
      · rw [List.length_replicate]
        have : 9001 < sizeLine := by decide
        omega
      · rw [upd_ne (ne_of_none e hD)]
        exact s3 _ _ (s' c o e)
      · rw [upd_same, List.replicate_succ']
        rfl
    · rintro H2 ⟨s2, e2⟩
      rw [List.length_replicate] at e2
      refine ⟨D, List.replicate (n + 1) false, rfl, SqL.of (by rw [List.map_replicate]; exact e2), ?_⟩
      rw [show (List.replicate (n + 1) false).all id = false from rfl]
      exact q H2 (s1.trans s2)

theorem ok_made {f fC fM fA fS fD CW CN CS : Addr} {fd fdC fdM fdA fdS fdD : FuncData} {dvs : List V} (F : FunD K "__init__" "Facts.__init__" (defArgs sInit) (defBody sInit) (defScope sInit) dvs [] f fd) (T : FacC K C)
    (GC : FnOk P w K mg base (L2.CX P w) 3 fC fdC ["rights"] (spChkA CW)) (bC : Binds K fdC ["rights"] []) (mC : mg "check_arguments" = some (.ref fC)) (kC : PySem.W.keepIn K (.ref fC) = true)
    (GM : FnOk P w K mg base CX0 2 fM fdM ["thing"] (spN C namesD)) (bM : Binds K fdM ["thing"] []) (mM : mg "are_names" = some (.ref fM)) (kM : PySem.W.keepIn K (.ref fM) = true)
    (GA : FnOk P w K mg base CX0 4 fA fdA ["thing"] (spN C factsD)) (bA : Binds K fdA ["thing"] []) (mA : mg "_are_facts" = some (.ref fA)) (kA : PySem.W.keepIn K (.ref fA) = true)
    (GS : FnOk P w K mg base (L2.CX P w) 3 fS fdS ["names", "facts"] (spChkSR CN)) (bS : Binds K fdS ["names", "facts"] []) (mS : mg "_check_sources" = some (.ref fS)) (kS : PySem.W.keepIn K (.ref fS) = true)
    (GD : FnOk P w K mg base (L2.CX P w) 2 fD fdD ["facts"] (spClosedA CS)) (bD : Binds K fdD ["facts"] []) (mD : mg "_closed" = some (.ref fD)) (kD : PySem.W.keepIn K (.ref fD) = true)
    (mo : mg "sorted" = none) : FnOk P w K mg base (L2.CX P w) 5 f fd ["self", "names", "facts"] (spMade C CW CN CS) := by
  refine F.ok scIni (fun vs H Q E h => ?_) (fun cdv A outer s H vs Q E hr h => ?_)
  · obtain ⟨x, dx, v0, v1, _, _, rfl, _⟩ := h
    rfl
  · obtain ⟨x, dx, v0, v1, r0, r1, rfl, hx, a0, a1, qW, qV⟩ := h
    have hr2 : Room 2 _ := hr.mono (by decide)
    have hr3 : Room 3 _ := hr.mono (by decide)
    refine ⟨_, pss_cons (ps_expr (pe_call GC hr3 (by rfl) mC kC bC .nil (passes_call (W := fun cls d _ H => E cls d H) (takes_of rfl rfl rfl rfl) (fun _ _ _ _ h => h)) (pa_cons (pe_lst (pa_cons (pe_call GM hr2 (by rfl) mM kM bM .nil pass0 (pa_cons (pv 1) pa_nil)) (pa_cons (pe_call GA hr (by rfl) mA kA bA .nil pass0 (pa_cons (pv 2) pa_nil)) pa_nil))) pa_nil)))
      (pss_cons (ps_expr (pe_call GS hr3 (by rfl) mS kS bS .nil (passes_call (W := fun cls d _ H => E cls d H) (takes_of rfl rfl rfl rfl) (fun _ _ _ _ h => h)) (pa_cons (pv 1) (pa_cons (pv 2) pa_nil))))
      (pss_cons (ps_fld (pv 0) (pe_callB (r := rSortB K) call_sortB (by rfl) mo (by decide +kernel) (pa_cons (pv 1) pa_nil)) rfl)
      (pss_one (ps_fld (pv 0) (pe_call GD hr2 (by rfl) mD kD bD .nil (passes_call (W := fun cls d _ H => E cls d H) (takes_of rfl rfl rfl rfl) (fun _ _ _ _ h => h)) (pa_cons (pv 2) pa_nil)) rfl)))), ?_⟩
    have hxo : ∃ o, H x = some o := ⟨_, hx⟩
    refine ⟨_, rfl, x, v0, r0, rfl, a0, hxo, fun H1 s1 => ?_⟩
    refine ⟨_, rfl, x, v1, r1, rfl, a1.same s1, there s1 hxo, fun H2 s2 => ⟨by show 2 ≤ sizeLine; decide, fun pp np => ?_⟩⟩
    have s02 := s1.trans s2
    have s3 := same_upd (o := .lst ([r0, r1].map V.bl)) np
    have s03 := s02.trans s3
    refine ⟨pp, [r0, r1], rfl, upd_same, fun hall H4 s4 => ?_, fun m hm H7 d s7 nd => qW m hm H7 d (sameX (s03.trans s7)) nd⟩
    obtain ⟨zs, L, ⟨⟨n, a, xs, rfl, rfl, ne, ae, hn, ha, hi⟩, hz, nd, zl, ll⟩, qN, qS, qO⟩ := qV hall
    have hb : ∀ ys, H x ≠ some (.tup ys) := fun ys z => by rw [hx] at z; cases z
    have s04 := s03.trans s4
    refine ⟨_, rfl, _, rfl, n, a, zs, xs, L, rfl, hn.same s04, by omega, ha.same s04, hi.same s04, fun hs H5 s5 => ?_, fun u hu H5 d s5 nd => qN u hu H5 d (sameX (s04.trans s5)) nd⟩
    have s05 := s04.trans s5
    refine ⟨_, rfl, n, zs, rfl, (hn.same s05).imp SqL.of SqT.of, by omega, fun ys r perm srt nr wr => ?_⟩
    have s6 := same_upd (o := .lst (ys.map V.str)) nr
    have s06 := s05.trans s6
    refine ⟨_, rfl, x, C, dx, _, rfl, s06 _ _ hx, T.cl, T.n1, by decide, ?_⟩
    have rx : r ≠ x := fun z => by rw [z, s05 _ _ hx] at nr; cases nr
    obtain ⟨H7, eH7⟩ : ∃ H7, H7 = upd (upd H5 r (.lst (ys.map V.str))) x (.ins C dx (putF "_names" (.ref r) [])) := ⟨_, rfl⟩
    rw [← eH7]
    have hx7 : H7 x = some (.ins C dx (putF "_names" (.ref r) [])) := by rw [eH7]; exact upd_same
    have hr7 : H7 r = some (.lst (ys.map V.str)) := by rw [eH7, upd_ne rx]; exact upd_same
    have k07 : SameX x H H7 := fun c u n e => by
      rw [eH7, upd_ne n]
      exact s06 _ _ e
    clear eH7
    have hi7 : Its H7 xs L := hi.samT fun t us e => k07 _ _ (fun z => hb us (by rw [← z]; exact e)) e
    refine ⟨_, rfl, a, xs, L, "" :: zs, rfl, ha.imp (k07 _ _ ae) (k07 _ _ ae), hi7, by omega, fun f hf => ?_, by rw [List.length_cons]; omega, fun hp r2 kvs T2 Z H8 nr2 s8 e8 hT cl hM => ?_, fun np H8 s8 => qS hs np H8 (k07.trans (sameX s8))⟩
    · obtain ⟨h1, h2⟩ := hs f hf
      exact ⟨h1.elim (fun e => by rw [e]; exact List.mem_cons_self) (List.mem_cons_of_mem _), h2.elim (fun e => by rw [e]; exact List.mem_cons_self) (List.mem_cons_of_mem _)⟩
    have r2x : r2 ≠ x := fun z => by rw [z, hx7] at nr2; cases nr2
    refine ⟨_, rfl, x, C, dx, _, rfl, s8 _ _ hx7, T.cl, T.n2, by show 1 < 1000; decide, ?_⟩
    have rH : H r = none := by
      cases e : H r with
      | none => rfl
      | some o => rw [s05 _ _ e] at nr; cases nr
    refine qO hs hp _ ys T2 Z r rH perm srt ⟨dx, r2, kvs, by rw [upd_same, fac_made], ?_, by rw [perm.length_eq]; omega, ?_, hT⟩ cl hM fun c u n e => ?_
    · rw [upd_ne rx]
      exact s8 _ _ hr7
    · rw [upd_ne r2x]
      exact e8
    · rw [upd_ne n]
      exact s8 _ _ (k07 c u n e)
end
end Fv


set_option Elab.async false
set_option linter.all false
set_option maxRecDepth 100000
set_option maxHeartbeats 4000000
namespace Fv
open PySem PySem.Spec PyProof.Rows L2
mutual
theorem Dx.away {C : Addr} {H H' : Hp} {b x : Addr} (k : Same H H') (n : H x = none) : ∀ {v : V} {d : PyData}, Dx C H b v d → Dx C H' x v d
  | _, _, .non => .non
  | _, _, .bl x => .bl x
  | _, _, .int i => .int i
  | _, _, .str x => .str x
  | _, _, .obj e _ => .obj (k _ _ e) (ne_of_none e n)
  | _, _, .lst e _ h => .lst (k _ _ e) (ne_of_none e n) (DxAll.away k n h)
  | _, _, .tup e _ h => .tup (k _ _ e) (ne_of_none e n) (DxAll.away k n h)
  | _, _, .dct e _ => .dct (k _ _ e) (ne_of_none e n)
theorem DxAll.away {C : Addr} {H H' : Hp} {b x : Addr} (k : Same H H') (n : H x = none) : ∀ {v : List V} {d : List PyData}, DxAll C H b v d → DxAll C H' x v d
  | _, _, .nil => .nil
  | _, _, .cons h t => .cons (Dx.away k n h) (DxAll.away k n t)
end
mutual
theorem Dq.away {H H' : Hp} {b x : Addr} (k : Same H H') (n : H x = none) : ∀ {v : V} {d : PyData}, Dq H b v d → Dq H' x v d
  | _, _, .non => .non
  | _, _, .bl x => .bl x
  | _, _, .int i => .int i
  | _, _, .str x => .str x
  | _, _, .lst e _ m h => .lst (k _ _ e) (ne_of_none e n) m (DqAll.away k n h)
  | _, _, .tup e _ h => .tup (k _ _ e) (ne_of_none e n) (DqAll.away k n h)
  | _, _, .dct e _ h h' => .dct (k _ _ e) (ne_of_none e n) (DqAll.away k n h) (DqAll.away k n h')
theorem DqAll.away {H H' : Hp} {b x : Addr} (k : Same H H') (n : H x = none) : ∀ {v : List V} {d : List PyData}, DqAll H b v d → DqAll H' x v d
  | _, _, .nil => .nil
  | _, _, .cons h t => .cons (Dq.away k n h) (DqAll.away k n t)
end
theorem ArgN.away {C : Addr} {H H' : Hp} {b x : Addr} (k : Same H H') (n : H x = none) {g : PyData → Bool} {v : V} {r : Bool} (h : ArgN C H b g v r) : ArgN C H' x g v r := by
  rcases h with ⟨d, h1, h2, h3⟩ | ⟨h1, h2⟩
  · exact .inl ⟨d, h1.away k n, h2, h3⟩
  · exact .inr ⟨h1.same k, h2⟩
theorem dq_strs {H : Hp} {b : Addr} : ∀ zs : List Str, DqAll H b (zs.map V.str) (zs.map PyData.str)
  | [] => .nil
  | z :: zs => .cons (.str z) (dq_strs zs)
/-! ### C(..) in a try: its __init__ may raise -/
def tMakeS (C : Addr) (sp : Sp) (E : L2.St → XK) (t : TA) : TE := fun σ H Q => t σ H fun vs H1 => ∀ x dx, H1 x = none → H1 dx = none → dx ≠ x → x ≠ sysModules →
  sp (.ref x :: vs) (upd (upd H1 dx (.own x)) x (.ins C dx [])) (fun v H2 => v = .non ∧ Q (.ref x) H2) (E σ)
section
variable {X : Cx} {CX : CXT} {k : Nat} {f C : Addr} {fd : FuncData} {ps : List Str} {sp : Sp} {E : L2.St → XK} {x : Str} {p pos : Pos} {e : Expr} {es : List Expr} {t : TA}
theorem pe_makeS (M : Mk X.K C f) (F : FnOk X.prog X.w X.K X.mg X.base CX k f fd ps sp) (hr : Room (k + 1) X.A) (hg : Gl X x) (hm : X.mg x = some (.ref C)) (hb : Binds X.K fd ps []) (hx : ∀ σ, PassesAt CX X σ (E σ))
    (ha : PA X (e :: es) t) (hdb : (x == ("__debug__" : Str)) = false := by decide) (he : starEach (e :: es) X.env = (false, eval e X.env) :: starEach es X.env := by rfl) (hpl : (backTo pos (starEach es X.env)).any (·.1) = false := by rfl) :
    PE X (.Call (.Name x p) (e :: es) [] pos) (tMakeS C sp E t) := by
  refine ⟨fun pins s σ H Q I h => wpAny_Call_Name_kw (ld_glob I hg hm ?_ hdb)⟩
  refine PySem.W.callWith_K (h₀ := X.base) I.ok.mod.kin M.kp (thn (ha.run pos pins s σ H _ I h) fun us s1 ⟨vs, H1, I1, r, q⟩ => ⟨I1.kIn, ?_⟩) he hpl
  have hq := q (s1.heap.objs.size + 1) s1.heap.objs.size (I1.hok.fresh (Nat.le_succ _)) (I1.hok.fresh (Nat.le_refl _)) (Nat.ne_of_lt (Nat.lt_succ_self _)) (Nat.ne_of_gt (Nat.lt_succ_of_lt I1.big))
  have I2 := Inv.made (C := C) I1
  have r2 : Vals (V.ref (s1.heap.objs.size + 1) :: vs) (Value.ref (s1.heap.objs.size + 1) :: us) := .cons rfl r
  have hl : (Value.ref (s1.heap.objs.size + 1) :: us).length = ps.length := by rw [← r2.length]; exact F.len _ _ _ _ hq
  have bi := hb _ (Value.ref (s1.heap.objs.size + 1) :: us) I2.kIn (by rw [List.append_nil]; exact hl)
  rw [List.append_nil] at bi
  refine wpAny_call (make_map (f := f) I1.kIn M.makes M.init (beq_iff_eq.mp M.fn) (codeAny_mono (F.run _ X.stack _ _ ⟨Value.ref (s1.heap.objs.size + 1) :: us, []⟩ (Value.ref (s1.heap.objs.size + 1) :: us) _ _ (E σ) (hr.make C us []) (I2.env0.make C us []) bi r2 hq) fun res s' hq' => ?_))
  cases res with
  | error e => exact hx σ pins _ _ e s' I2 hq'
  | ok fl =>
    cases fl with
    | ret u =>
      obtain ⟨v, H', I3, rv, ev, q3⟩ := I2.after hq'
      subst ev
      exact ⟨rv, ⟨V.ref (s1.heap.objs.size + 1), H', I3, rfl, q3⟩⟩
    | next => exact False.elim hq'
    | brk => exact False.elim hq'
    | cont => exact False.elim hq'
end
theorem pe_imp {X : Cx} {e : Expr} {t t' : TE} (he : PE X e t) (hi : ∀ σ H Q, t' σ H Q → t σ H Q) : PE X e t' := ⟨fun pins s σ H Q I h => he.run pins s σ H Q I (hi σ H Q h)⟩
/-! ### in an except suite: isinstance(e, c), e.f, the class told by what is read -/
def rIsQ (K : PySem.W.Frag) (a : Addr) (cls : Value) (d : Option Addr) : List V → Hp → VK → Prop := fun xs H Q => ∃ (D : Addr) (c : V) (u : Value) (r : Bool), xs = [.ref a, c] ∧ cls = .ref D ∧ ((∃ (dd : Addr) (fs : List (Str × V)), d = some dd ∧ H dd = some (.xd fs)) ∨ d = none) ∧ ExcC K D ∧ ClsV c u ∧ PySem.W.kitOne K (.ref D) u = some r ∧ Q (.bl r) H
def tXfQ (K : PySem.W.Frag) (a : Addr) (cls : Value) (d : Option Addr) (n : Str) (te : TE) : TE := fun σ H Q => te σ H fun x H1 => x = .ref a ∧ ∃ (C dd : Addr) (fs : List (Str × V)) (v : V), cls = .ref C ∧ d = some dd ∧ H1 dd = some (.xd fs) ∧ XfC K C ∧ PySem.W.findIn K (.ref C) n = some none ∧ fs.lookup n = some v ∧ Q v H1
section
variable {X : Cx} {a : Addr} {oe : Obj} {cls : Value} {d : Option Addr}
theorem bears_q {H : Hp} {D dd : Addr} {fs : List (Str × V)} (hz : Zc cls d oe) (hf : ∃ vs, oe.data = .fields vs) (e1 : cls = .ref D) (e2 : d = some dd) (e3 : H dd = some (.xd fs)) : Bears H oe D (some (dd, fs)) := by
  obtain ⟨z1, z2⟩ := hz
  exact ⟨z1.trans e1, hf, z2.trans e2, e3⟩
theorem call_isQ (hp : (a, oe) ∈ X.pn) (hz : Zc cls d oe) (hf : ∃ vs, oe.data = .fields vs) : CallR X (.builtin "isinstance") (rIsQ X.K a cls d) := by
  intro pins s σ H xs us Q I r ⟨D, c, u, b, ex, e1, e23, C, k, e, q⟩
  rcases e23 with ⟨dd, fs, e2, e3⟩ | e2
  · exact call_isP hp pins s σ H xs us Q I r ⟨D, _, c, u, b, ex, bears_q hz hf e1 e2 e3, C, k, e, q⟩
  · obtain ⟨z1, z2⟩ := hz
    exact call_isP hp pins s σ H xs us Q I r ⟨D, none, c, u, b, ex, ⟨z1.trans e1, hf, z2.trans e2⟩, C, k, e, q⟩
theorem pe_xfQ {K : PySem.W.Frag} {e : Expr} {n : Str} {i : Nat} {pos : Pos} (hK : X.K = K) (hp : (a, oe) ∈ X.pn) (hz : Zc cls d oe) (hf : ∃ vs, oe.data = .fields vs) (he : PE X e (tVar i)) (hb : attributeBase e n X.env (eval e X.env) = eval e X.env := by rfl) : PE X (.Attribute e n pos) (tXfQ K a cls d n (tVar i)) :=
  hK ▸ pe_imp (pe_xfP (a := a) (oe := oe) hp he hb) fun σ H Q h => by
    obtain ⟨v, hv, ex, C, dd, fs, w, e1, e2, e3, r⟩ := h
    exact ⟨v, hv, ex, C, dd, fs, w, bears_q hz hf e1 e2 e3, r⟩
end

structure Errs3 (K : PySem.W.Frag) (mg : Str → Option Value) (CW CN CS AE : Addr) : Prop where
  gA : mg "ApartError" = some (.ref AE)
  gW : mg "Wrong" = some (.ref CW)
  gN : mg "NoName" = some (.ref CN)
  gS : mg "NoStart" = some (.ref CS)
  eW : ExcC K CW
  eN : ExcC K CN
  eS : ExcC K CS
  nW : PySem.W.findIn K (.ref CW) "place" = some none
  nN : PySem.W.findIn K (.ref CN) "name" = some none
  mW : PySem.W.exmOne K (.ref CW) (.ref AE) = some true
  mN : PySem.W.exmOne K (.ref CN) (.ref AE) = some true
  mS : PySem.W.exmOne K (.ref CS) (.ref AE) = some true
  ww : PySem.W.kitOne K (.ref CW) (.ref CW) = some true
  nw : PySem.W.kitOne K (.ref CN) (.ref CW) = some false
  nn : PySem.W.kitOne K (.ref CN) (.ref CN) = some true
  sw : PySem.W.kitOne K (.ref CS) (.ref CW) = some false
  sn : PySem.W.kitOne K (.ref CS) (.ref CN) = some false
  ss : PySem.W.kitOne K (.ref CS) (.ref CS) = some true
/-- what comes of two arguments -/
def OutF (r0 r1 : Bool) (zs : List Str) (L : List FaT) (o : PyData) : Prop :=
  (r0 = false ∧ o = .tuple [.str "wrong", .int 0]) ∨ (r0 = true ∧ r1 = false ∧ o = .tuple [.str "wrong", .int 1]) ∨
  (r0 = true ∧ r1 = true ∧ ∃ u, FirstBad zs L u ∧ o = .tuple [.str "name", .str u]) ∨
  (r0 = true ∧ r1 = true ∧ (∀ f ∈ L, SrcIn zs f.1 ∧ SrcIn zs f.2.1) ∧ (¬ ∃ p, M.Keeps L p) ∧ o = .tuple [.str "start", .int 0]) ∨
  (r0 = true ∧ r1 = true ∧ (∀ f ∈ L, SrcIn zs f.1 ∧ SrcIn zs f.2.1) ∧ (∃ p, M.Keeps L p) ∧ ∃ ys : List Str, ys.Perm zs ∧ sortedS ys = true ∧ o = .tuple [.str "told", .list (ys.map .str)])
section
variable {P : Program} {w : World} {K : PySem.W.Frag} {mg : Str → Option Value} {base : Heap} {C : Addr}
end
end Fv


set_option Elab.async false
set_option linter.all false
set_option maxRecDepth 100000
set_option maxHeartbeats 4000000
namespace Fv
open PySem PySem.Spec PyProof.Rows L2
/-! ### Facts(["a"]) -/
def spRowT (K : PySem.W.Frag) : Sp := fun vs H Q _ => ∃ a o, vs = [.ref a] ∧ K.lookup a = some o ∧ o.cls = .type "tuple" ∧ ∀ H', Same H H' → Q (.bl true) H'
def spAreF (K : PySem.W.Frag) : Sp := fun vs H Q _ => ∃ a o, vs = [.ref a] ∧ K.lookup a = some o ∧ o.cls = .type "tuple" ∧ (∀ H, SqT K H a []) ∧ ∀ H', Same H H' → Q (.bl true) H'
def spTight0 (K : PySem.W.Frag) : Sp := fun vs H Q _ => ∃ a, vs = [.ref a] ∧ (∀ H, SqT K H a []) ∧ ∀ H' p, Same H H' → H p = none → H' p = some (.dK []) → Q (.ref p) H'
section
variable {P : Program} {w : World} {K : PySem.W.Frag} {mg : Str → Option Value} {base : Heap} {C : Addr}
theorem ok_isrowT {f : Addr} {fd : FuncData} (F : Fun K "is_row" "is_row" sIsRow f fd) (mq : mg "isinstance" = none) (ml : mg "list" = none) (mt : mg "tuple" = none) : FnOk P w K mg base CX0 1 f fd ["thing"] (spRowT K) := by
  refine F.ok sc5 (fun vs H Q E h => ?_) (fun cdv A outer s H vs Q E hr h => ?_)
  · obtain ⟨a, o, rfl, _⟩ := h
    rfl
  · obtain ⟨a, o, rfl, hk, hc, q⟩ := h
    refine ⟨_, pss_one (ps_ret (pe_callB call_isiT (by rfl) mq (by decide +kernel) (pa_cons (pv 0) (pa_cons (pe_tup (pa_cons (pe_bltn (v := .ty "list") (by rfl) ml boot_list rfl) (pa_cons (pe_bltn (v := .ty "tuple") (by rfl) mt boot_tuple rfl) pa_nil))) pa_nil)))), ?_⟩
    refine ⟨_, rfl, by show 2 ≤ sizeLine; decide, fun p np => ?_⟩
    exact ⟨_, _, _, _, _, _, rfl, upd_same, .cons (.ty "list") (.cons (.ty "tuple") .nil), .kTuple hk hc, kitAny_cons (r := true) (kit_list (.tuple [])) (fun _ => kitAny_cons (r := true) (kit_tup (.tuple [])) (fun e => by cases e) (fun _ => rfl)) (fun e => by cases e), q _ (same_upd np)⟩
theorem ok_arefacts0 {f fR : Addr} {fd fdR : FuncData} (F : Fun K "_are_facts" "_are_facts" sAreFacts f fd)
    (GR : FnOk P w K mg base CX0 1 fR fdR ["thing"] (spRowT K)) (bR : Binds K fdR ["thing"] []) (mR : mg "is_row" = some (.ref fR)) (kR : PySem.W.keepIn K (.ref fR) = true)
    (ma : mg "all" = none) : FnOk P w K mg base CX0 2 f fd ["thing"] (spAreF K) := by
  refine F.ok scAf (fun vs H Q E h => ?_) (fun cdv A outer s H vs Q E hr h => ?_)
  · obtain ⟨a, o, rfl, _⟩ := h
    rfl
  · obtain ⟨a, o, rfl, hk, hc, ht, q⟩ := h
    refine ⟨_, pss_one (ps_ret (pe_and (pe_call GR hr (by rfl) mR kR bR .nil pass0 (pa_cons (pv 0) pa_nil))
      (pe_one (pe_callB (cr_all rfl) (by rfl) ma (by decide +kernel) (pa_cons
        (pe_lc (own := [("item", 1)]) (g := gName 1) (tt := tYes) rfl scAf.nd (pi_tup (pv 0)) (blkOk_by (N := ["thing", "item"]) (sc := defScope sAreFacts) (by decide +kernel))
        (fun _ _ _ _ _ => pg_name (i := 1) scAf.nd rfl (Or.inl rfl)) (fun _ _ _ _ _ => pts_nil) (fun _ _ _ _ _ => pe_dead)) pa_nil))))), ?_⟩
    refine ⟨_, rfl, a, o, rfl, hk, hc, fun H1 s1 => ⟨_, rfl, ?_⟩⟩
    refine iteT ⟨_, rfl, a, rfl, ⟨_, ht H1⟩, fun D hD => ?_⟩
    refine lc_tup (K := K) (a := a) (xs := []) (fun i H' => Same H1 H' ∧ H' D = some (.lst [])) ⟨same_upd hD, upd_same⟩ (fun i H' _ h => ht H') ?_ ?_
    · intro i x H' hxi
      cases hxi
    · rintro H2 ⟨s2, e2⟩
      exact ⟨D, [], rfl, SqL.of e2, q H2 (s1.trans s2)⟩
theorem ok_tight0 {f : Addr} {fd : FuncData} (F : Fun K "_tightest" "_tightest" sTight f fd) : FnOk P w K mg base CX0 1 f fd ["facts"] (spTight0 K) := by
  refine F.ok scTg (fun vs H Q E h => ?_) (fun cdv A outer s H vs Q E hr h => ?_)
  · obtain ⟨a, rfl, _⟩ := h
    rfl
  · obtain ⟨a, rfl, ht, q⟩ := h
    refine ⟨_, pss_cons (ps_set (i := 1) scTg.nd rfl (.inl rfl) pe_dnewK)
      (pss_cons (ps_for PassesOwn.never rfl (pi_tup (pv 0)) (pg_tup (by rfl) (pgs_cons (pg_name (i := 2) scTg.nd rfl (.inl rfl)) (pgs_cons (pg_name (i := 3) scTg.nd rfl (.inl rfl)) (pgs_cons (pg_name (i := 4) scTg.nd rfl (.inl rfl)) pgs_nil)))) pss_dead)
      (pss_one (ps_ret (pv 1)))), ?_⟩
    intro p np
    have w1 := same_upd (o := .dK []) np
    dsimp only [gName]
    refine ⟨_, rfl, a, rfl, ⟨_, ht _⟩, ?_⟩
    refine for_tup (K := K) (a := a) (xs := []) (fun i σ H' => σ = [some (.ref a), some (.ref p), none, none, none] ∧ H' = upd H p (.dK [])) ⟨rfl, rfl⟩ (fun i σ H' _ h => ht H') ?_ ?_
    · intro i x σ H' hx
      cases hx
    · rintro σ H' ⟨rfl, rfl⟩
      exact ⟨_, rfl, q _ p w1 np upd_same⟩
theorem ok_closed0 {f fT : Addr} {fd fdT : FuncData} (F : Fun K "_closed" "_closed" sClosed f fd)
    (GT : FnOk P w K mg base CX0 1 fT fdT ["facts"] (spTight0 K)) (bT : Binds K fdT ["facts"] []) (mT : mg "_tightest" = some (.ref fT)) (kT : PySem.W.keepIn K (.ref fT) = true)
    (mo : mg "sorted" = none) : FnOk P w K mg base CX0 2 f fd ["facts"] (spTight0 K) := by
  refine F.ok scCd (fun vs H Q E h => ?_) (fun cdv A outer s H vs Q E hr h => ?_)
  · obtain ⟨a, rfl, _⟩ := h
    rfl
  · obtain ⟨a, rfl, ht, q⟩ := h
    refine ⟨_, pss_cons (ps_set (i := 1) scCd.nd rfl (.inl rfl) (pe_call GT hr (by rfl) mT kT bT .nil pass0 (pa_cons (pv 0) pa_nil)))
      (pss_cons (ps_for PassesOwn.never rfl (pi_list (pe_callB (r := rSortX P w) (call_sortX rfl) (by rfl) mo (by decide +kernel) (pa_cons
        (pe_op (op_meet0)
          (pe_lock (pe_scX (own := [("x", 6), ("_", 8)]) (g := gTup K 2 (gCons (gName 6) (gCons (gName 8) gNil))) (tt := tYes) rfl scCd.nd (pi_keys (pv 1)) (blkOk_by (N := nCd) (sc := defScope sClosed) (by decide +kernel))
            (fun _ _ _ _ _ => pg_tup (by rfl) (pgs_cons (pg_name (i := 6) scCd.nd rfl (.inl rfl)) (pgs_cons (pg_name (i := 8) scCd.nd rfl (.inl rfl)) pgs_nil))) (fun _ _ _ _ _ => pts_nil) (fun _ _ _ _ _ => pe_dead)))
          (pe_lock (pe_scX (own := [("_", 8), ("y", 7)]) (g := gTup K 2 (gCons (gName 8) (gCons (gName 7) gNil))) (tt := tYes) rfl scCd.nd (pi_keys (pv 1)) (blkOk_by (N := nCd) (sc := defScope sClosed) (by decide +kernel))
            (fun _ _ _ _ _ => pg_tup (by rfl) (pgs_cons (pg_name (i := 8) scCd.nd rfl (.inl rfl)) (pgs_cons (pg_name (i := 7) scCd.nd rfl (.inl rfl)) pgs_nil))) (fun _ _ _ _ _ => pts_nil) (fun _ _ _ _ _ => pe_dead)))) pa_nil))) (pg_name (i := 2) scCd.nd rfl (.inr rfl)) pss_dead)
      (pss_one (ps_ret (pv 1)))), ?_⟩
    refine ⟨_, rfl, a, rfl, ht, fun H1 p s1 np ep => ?_⟩
    dsimp only [gName]
    have sc0 : ∀ {H1 : Hp} {od : Obj} {g : TG} {vs : List Nat} {σ : L2.St} {Qd : Hp → Prop} {D : Addr}, H1 p = some (.frz od (.dK [])) → D ≠ p → (Qd (upd H1 D (TxtO P w D []))) →
      ∃ W : Nat → Nat → Hp → Prop, (∃ m, W 0 m (upd H1 D (TxtO P w D []))) ∧ ∀ i m H, W i m H →
      ((Itk p od []).stop i H ∧ Qd H) ∨ ((Itk p od []).go i H ∧ ∃ Nx : Hp → Prop, (∀ H', Nx H' → ∃ m', m' < m ∧ W (i + 1) m' H') ∧ ∀ x H', (Itk p od []).yld i H x H' → g x (wipe σ vs) H' fun σ2 H2 => wipe σ2 vs = wipe σ vs ∧ tYes σ2 H2 fun b H3 =>
        if b = true then tDead σ2 H3 fun y H4 => ∃ (z : Str) (L : List Str), y = .str z ∧ H4 D = some (TxtO P w D L) ∧ L.length + 1 < scanBound ∧ Nx (upd H4 D (TxtO P w D (insL L z))) else Nx H3) := fun {H1 od g vs σ Qd D} e n q => by
      refine sc_it (walk_keys (d := p) (o := od) (kvs := [])) (fun i H' => H' = upd H1 D (TxtO P w D [])) rfl (fun i H' _ h => ?_) ?_ ?_
      · rw [h, upd_ne n.symm]
        exact e
      · intro i x H H' hi
        exact absurd hi (Nat.not_lt_zero i)
      · rintro H' rfl
        exact q
    refine ⟨p, .dK [], ep, True.intro, fun od => ?_⟩
    refine ⟨_, rfl, p, od, rfl, .inl ⟨[], upd_same, fun D nD => ?_⟩⟩
    have Dp : D ≠ p := fun z => by
      rw [z, upd_same] at nD
      cases nD
    refine sc0 upd_same Dp ⟨by rw [upd_ne Dp.symm]; exact upd_same, ?_⟩
    have D1 : H1 D = none := by rw [upd_ne Dp] at nD; exact nD
    obtain ⟨H2, eH2⟩ : ∃ H2, H2 = upd (upd (upd H1 p (.frz od (.dK []))) D (TxtO P w D [])) p (.dK []) := ⟨_, rfl⟩
    rw [← eH2]
    have s2 : Same H1 H2 := fun c o e => by
      rw [eH2]
      by_cases z : c = p
      · subst z
        rw [upd_same, ← e, ep]
      · rw [upd_ne z, upd_ne (ne_of_none e D1), upd_ne z]
        exact e
    have eD2 : H2 D = some (TxtO P w D []) := by rw [eH2, upd_ne Dp, upd_same]
    have ep2 := s2 _ _ ep
    clear eH2 nD
    refine ⟨p, .dK [], ep2, True.intro, fun od2 => ?_⟩
    refine ⟨_, rfl, p, od2, rfl, .inl ⟨[], upd_same, fun D2 nD2 => ?_⟩⟩
    have D2p : D2 ≠ p := fun z => by
      rw [z, upd_same] at nD2
      cases nD2
    refine sc0 upd_same D2p ⟨by rw [upd_ne D2p.symm]; exact upd_same, ?_⟩
    have D21 : H2 D2 = none := by rw [upd_ne D2p] at nD2; exact nD2
    obtain ⟨H3, eH3⟩ : ∃ H3, H3 = upd (upd (upd H2 p (.frz od2 (.dK []))) D2 (TxtO P w D2 [])) p (.dK []) := ⟨_, rfl⟩
    rw [← eH3]
    have s3 : Same H2 H3 := fun c o e => by
      rw [eH3]
      by_cases z : c = p
      · subst z
        rw [upd_same, ← e, ep2]
      · rw [upd_ne z, upd_ne (ne_of_none e D21), upd_ne z]
        exact e
    have eD23 : H3 D2 = some (TxtO P w D2 []) := by rw [eH3, upd_ne D2p, upd_same]
    have DD : D ≠ D2 := ne_of_none eD2 D21
    refine ⟨D, D2, rfl, rfl, DD, s3 _ _ eD2, eD23, fun M nM => ?_⟩
    have s4 := same_upd (o := TxtO P w M []) nM
    refine ⟨M, [], rfl, upd_same, by decide, fun ys L perm srt nL wL => ?_⟩
    obtain rfl : ys = [] := List.perm_nil.mp perm
    have s5 := same_upd (o := .lst ([].map V.str)) nL
    have s15 := ((s2.trans s3).trans s4).trans s5
    refine ⟨L, rfl, ⟨_, SqL.of upd_same⟩, ?_⟩
    refine for_list (K := K) (a := L) (xs := []) (fun i σ H' => σ = [some (.ref a), some (.ref p), none, none, none, none, none, none, none, none, none] ∧ H' = upd (upd H3 M (TxtO P w M [])) L (.lst ([].map V.str))) ⟨rfl, rfl⟩ (fun i σ H' _ h => by rw [h.2]; exact SqL.of upd_same) ?_ ?_
    · intro i x σ H' hx
      cases hx
    · rintro σ H' ⟨rfl, rfl⟩
      exact ⟨_, rfl, q _ p (s1.trans s15) np (s15 _ _ ep)⟩
end
end Fv


set_option Elab.async false
set_option linter.all false
set_option maxRecDepth 100000
set_option maxHeartbeats 4000000
namespace Fv
open PySem PySem.Spec PyProof.Rows L2
/-! ### Facts of names alone -/
def spChkS0 (K : PySem.W.Frag) : Sp := fun vs H Q _ => ∃ (n a : Addr) (zs : List Str), vs = [.ref n, .ref a] ∧ RowAt H n (zs.map V.str) ∧ zs.length ≤ 60 ∧ (∀ H, SqT K H a []) ∧ ∀ H', Same H H' → Q .non H'
def spIni0 (K : PySem.W.Frag) (C : Addr) : Sp := fun vs H Q _ => ∃ (x n a dx : Addr) (o : Obj) (zs : List Str), vs = [.ref x, .ref n, .ref a] ∧ H x = some (.ins C dx []) ∧ H n = some (.lst (zs.map V.str)) ∧ n ≠ x ∧ K.lookup a = some o ∧ o.cls = .type "tuple" ∧ (∀ H, SqT K H a []) ∧ (∀ z ∈ zs, NmOk z) ∧ zs.Nodup ∧ zs.length ≤ 6 ∧
  ∀ (H' : Hp) (r r2 : Addr) (ys : List Str), H' x = some (.ins C dx [(("_names" : Str), .ref r), (("_table" : Str), .ref r2)]) → H' r = some (.lst (ys.map V.str)) → ys.Perm zs → SameX x H H' → Q .non H'
def spNm0 (C : Addr) : Sp := fun vs H Q _ => ∃ (x dx r r2 : Addr) (zs : List Str), vs = [.ref x] ∧ H x = some (.ins C dx [(("_names" : Str), .ref r), (("_table" : Str), .ref r2)]) ∧ H r = some (.lst (zs.map V.str)) ∧ ∀ p, H p = none → p ≠ sysModules → Q (.ref p) (upd H p (.lst (zs.map V.str)))
section
variable {P : Program} {w : World} {K : PySem.W.Frag} {mg : Str → Option Value} {base : Heap} {C : Addr}
theorem ok_nm0 {f : Addr} {fd : FuncData} (T : FacC K C) (F : Fun K "names" "Facts.names" sNamesM f fd) (mL : mg "list" = none) : FnOk P w K mg base CX0 1 f fd ["self"] (spNm0 C) := by
  refine F.ok scNm (fun vs H Q E h => ?_) (fun cdv A outer s H vs Q E hr h => ?_)
  · obtain ⟨x, dx, r, r2, zs, rfl, _⟩ := h
    rfl
  · obtain ⟨x, dx, n, q0, zs, rfl, h1, h4, q⟩ := h
    refine ⟨_, pss_one (ps_ret (pe_callTy (r := rListL K) call_listL (by rfl) mL boot_list (pa_cons (pe_fld (pv 0) rfl) pa_nil))), ?_⟩
    exact ⟨_, rfl, x, C, dx, _, _, rfl, h1, T.cl, T.n1, rfl, n, _, rfl, SqL.of h4, fun l nl wl => q l nl wl⟩
theorem ok_chks0 {f : Addr} {fd : FuncData} (F : Fun K "_check_sources" "_check_sources" sChkSrc f fd) : FnOk P w K mg base CX0 1 f fd ["names", "facts"] (spChkS0 K) := by
  refine F.ok scCs (fun vs H Q E h => ?_) (fun cdv A outer s H vs Q E hr h => ?_)
  · obtain ⟨n, a, zs, rfl, _⟩ := h
    rfl
  · obtain ⟨n, a, zs, rfl, hn, hz, ht, q⟩ := h
    refine ⟨_, pss_cons (ps_setDc (i := 2) (own := [("name", 7)]) (g := gName 7) (tt := tYes) rfl scCs.nd rfl rfl (swD_true rfl rfl rfl (by decide +kernel)) (pi_rowA (pv 0)) (blkOk_by (N := nCs) (sc := defScope sChkSrc) (by decide +kernel))
        (fun _ _ _ _ _ => pg_name (i := 7) scCs.nd rfl (Or.inl rfl)) (fun _ _ _ _ _ => pts_nil) (fun _ _ _ _ _ => pv 7) (fun _ _ _ _ _ => pe_bl))
      (pss_one (ps_for PassesOwn.never rfl (pi_tup (pv 1)) (pg_tup (by rfl) (pgs_cons (pg_name (i := 3) scCs.nd rfl (.inl rfl)) (pgs_cons (pg_name (i := 4) scCs.nd rfl (.inl rfl)) (pgs_cons (pg_name (i := 5) scCs.nd rfl (.inl rfl)) pgs_nil)))) pss_dead)), ?_⟩
    refine ⟨_, rfl, n, _, rfl, hn, fun J G wk hG D hD => ?_⟩
    have stN : ∀ {H' : Hp}, Same H H' → G H' := fun {H'} s => hG H' (by
      obtain ⟨o, e⟩ := hn.ex
      rw [s _ _ e, e])
    refine dc_it wk (fun i H' => Same H H' ∧ H' D = some (.dK (dkOf (zs.take i)))) ⟨same_upd hD, upd_same⟩ (fun i H' _ h => stN h.1) ?_ ?_
    · rintro i x H' H2 hi ⟨s', e'⟩ ⟨rfl, hxi⟩
      obtain ⟨z, hzi, rfl⟩ : ∃ z, zs[i]? = some z ∧ x = .str z := by
        rw [List.getElem?_map] at hxi
        cases e : zs[i]? with
        | none => rw [e] at hxi; cases hxi
        | some z => rw [e] at hxi; cases hxi; exact ⟨z, rfl, rfl⟩
      have et : zs.take (i + 1) = zs.take i ++ [z] := by rw [List.take_succ, hzi]; rfl
      refine ⟨rfl, _, rfl, _, Sum.inr z, rfl, e', ?_, fun c o e => ?_, ?_⟩
      · exact Nat.lt_of_le_of_lt (dkOf_both _ _ rfl).1 (small60 (by rw [List.length_take]; omega))
      · rw [upd_ne (ne_of_none e hD)]
        exact s' c o e
      · rw [upd_same, et, dkOf_snoc]
    · rintro H1 ⟨s1, e1⟩
      dsimp only [gName]
      refine ⟨_, rfl, a, rfl, ⟨_, ht _⟩, ?_⟩
      refine for_tup (K := K) (a := a) (xs := []) (fun i σ H' => H' = H1) rfl (fun i σ H' _ h => ht H') ?_ ?_
      · intro i x σ H' hx
        cases hx
      · rintro σ H' rfl
        exact q _ s1
theorem ok_ini0 {f fC fM fA fS fD : Addr} {fd fdC fdM fdA fdS fdD : FuncData} {dvs : List V} (F : FunD K "__init__" "Facts.__init__" (defArgs sInit) (defBody sInit) (defScope sInit) dvs [] f fd) (T : FacC K C)
    (GC : FnOk P w K mg base CX0 1 fC fdC ["rights"] spChk) (bC : Binds K fdC ["rights"] []) (mC : mg "check_arguments" = some (.ref fC)) (kC : PySem.W.keepIn K (.ref fC) = true)
    (GM : FnOk P w K mg base CX0 2 fM fdM ["thing"] (spX C namesD)) (bM : Binds K fdM ["thing"] []) (mM : mg "are_names" = some (.ref fM)) (kM : PySem.W.keepIn K (.ref fM) = true)
    (GA : FnOk P w K mg base CX0 2 fA fdA ["thing"] (spAreF K)) (bA : Binds K fdA ["thing"] []) (mA : mg "_are_facts" = some (.ref fA)) (kA : PySem.W.keepIn K (.ref fA) = true)
    (GS : FnOk P w K mg base CX0 1 fS fdS ["names", "facts"] (spChkS0 K)) (bS : Binds K fdS ["names", "facts"] []) (mS : mg "_check_sources" = some (.ref fS)) (kS : PySem.W.keepIn K (.ref fS) = true)
    (GD : FnOk P w K mg base CX0 2 fD fdD ["facts"] (spTight0 K)) (bD : Binds K fdD ["facts"] []) (mD : mg "_closed" = some (.ref fD)) (kD : PySem.W.keepIn K (.ref fD) = true)
    (mo : mg "sorted" = none) : FnOk P w K mg base CX0 3 f fd ["self", "names", "facts"] (spIni0 K C) := by
  refine F.ok scIni (fun vs H Q E h => ?_) (fun cdv A outer s H vs Q E hr h => ?_)
  · obtain ⟨x, n, a, dx, o, zs, rfl, _⟩ := h
    rfl
  · obtain ⟨x, n, a, dx, o, zs, rfl, hx, hn, nx, hk, hc, ht, hz, nd, zl, q⟩ := h
    have hr1 : Room 1 _ := hr.mono (by decide)
    refine ⟨_, pss_cons (ps_expr (pe_call GC hr1 (by rfl) mC kC bC .nil pass0 (pa_cons (pe_lst (pa_cons (pe_call GM hr (by rfl) mM kM bM .nil pass0 (pa_cons (pv 1) pa_nil)) (pa_cons (pe_call GA hr (by rfl) mA kA bA .nil pass0 (pa_cons (pv 2) pa_nil)) pa_nil))) pa_nil)))
      (pss_cons (ps_expr (pe_call GS hr1 (by rfl) mS kS bS .nil pass0 (pa_cons (pv 1) (pa_cons (pv 2) pa_nil))))
      (pss_cons (ps_fld (pv 0) (pe_callB (r := rSortB K) call_sortB (by rfl) mo (by decide +kernel) (pa_cons (pv 1) pa_nil)) rfl)
      (pss_one (ps_fld (pv 0) (pe_call GD hr (by rfl) mD kD bD .nil pass0 (pa_cons (pv 2) pa_nil)) rfl)))), ?_⟩
    have hdx : Dx C H x (.ref n) (.list (zs.map PyData.str)) := .lst hn nx names_dx
    refine ⟨_, rfl, x, _, _, rfl, hdx, ⟨by rw [List.length_map]; omega, names_ok hz⟩, ⟨_, hx⟩, fun H1 s1 => ?_⟩
    refine ⟨_, rfl, a, o, rfl, hk, hc, ht, fun H2 s2 => ⟨by show 2 ≤ sizeLine; decide, fun p np => ?_⟩⟩
    rw [names_true hz nd]
    have s3 := same_upd (o := .lst [.bl true, .bl true]) np
    refine ⟨p, rfl, upd_same, fun H4 s4 => ?_⟩
    have s04 := ((s1.trans s2).trans s3).trans s4
    refine ⟨_, rfl, _, rfl, n, a, zs, rfl, .inl (s04 _ _ hn), by omega, ht, fun H5 s5 => ?_⟩
    have s05 := s04.trans s5
    refine ⟨_, rfl, n, zs, rfl, .inl (SqL.of (s05 _ _ hn)), by omega, fun ys r perm srt nr wr => ?_⟩
    have s6 := same_upd (o := .lst (ys.map V.str)) nr
    have s06 := s05.trans s6
    refine ⟨_, rfl, x, C, dx, _, rfl, s06 _ _ hx, T.cl, T.n1, by decide, ?_⟩
    obtain ⟨H7, eH7⟩ : ∃ H7, H7 = upd (upd H5 r (.lst (ys.map V.str))) x (.ins C dx (putF "_names" (.ref r) [])) := ⟨_, rfl⟩
    rw [← eH7]
    have hx7 : H7 x = some (.ins C dx (putF "_names" (.ref r) [])) := by rw [eH7]; exact upd_same
    have k07 : ∀ c u, c ≠ x → H c = some u → H7 c = some u := fun c u n e => by
      rw [eH7, upd_ne n]
      exact s06 _ _ e
    have rx : r ≠ x := fun z => by rw [z, s05 _ _ hx] at nr; cases nr
    have hr7 : H7 r = some (.lst (ys.map V.str)) := by rw [eH7, upd_ne rx]; exact upd_same
    clear eH7
    refine ⟨_, rfl, a, rfl, ht, fun H8 r2 s8 nr2 e8 => ?_⟩
    refine ⟨_, rfl, x, C, dx, _, rfl, s8 _ _ hx7, T.cl, T.n2, by show 1 < 1000; decide, ?_⟩
    exact q _ r r2 ys (by rw [upd_same, fac_made]) (by rw [upd_ne rx]; exact s8 _ _ hr7) perm fun c u n e => by
      rw [upd_ne n]
      exact s8 _ _ (k07 c u n e)
end
end Fv


set_option Elab.async false
set_option linter.all false
set_option maxRecDepth 100000
set_option maxHeartbeats 4000000
namespace Fv
open PySem PySem.Spec PyProof.Rows L2
/-! ### greatest of what is no source; the law's looking at it -/
theorem xf_of {K : PySem.W.Frag} {C : Addr} (h : ExcC K C) : XfC K C := ⟨h.hg, h.hk, h.hs, h.hd⟩
/-- what is asked of an own error's class that is caught by its name -/
structure CatchC (K : PySem.W.Frag) (mg : Str → Option Value) (x f : Str) (C : Addr) : Prop where
  ec : ExcC K C
  no : PySem.W.findIn K (.ref C) f = some none
  em : PySem.W.exmOne K (.ref C) (.ref C) = some true
  gC : mg x = some (.ref C)
/-- the first of two that is no source -/
def Bad2 (zs : List Str) (u v z : Str) : Prop := (u = z ∧ ¬ SrcIn zs u) ∨ (SrcIn zs u ∧ v = z ∧ ¬ SrcIn zs v)
theorem Bad2.first {zs : List Str} {u v z : Str} {c : Int} (h : Bad2 zs u v z) : FirstBad zs [(u, v, c)] z := ⟨0, _, rfl, fun j g hj => absurd hj (Nat.not_lt_zero j), h⟩
def spCheckA (C CE : Addr) : Sp := fun vs H _ E => ∃ (x : Addr) (zs : List Str) (T : M.Tb Str) (u v z : Str), vs = [.ref x, .str u, .str v] ∧ FacAt C H x zs T ∧ Bad2 zs u v z ∧
  ∀ (H1 : Hp) (dx : Addr), Same H H1 → H1 dx = none → E (.ref CE) (some dx) (upd H1 dx (.xd [("name", .str z)]))
section
variable {P : Program} {w : World} {K : PySem.W.Frag} {mg : Str → Option Value} {base : Heap} {C CE : Addr}
theorem ok_checkmA {f fS : Addr} {fd fdS : FuncData} (T : FacC K C) (F : Fun K "_check" "Facts._check" sCheckM f fd)
    (GS : FnOk P w K mg base (L2.CX P w) 3 fS fdS ["names", "facts"] (spChkSA CE)) (bS : Binds K fdS ["names", "facts"] []) (mS : mg "_check_sources" = some (.ref fS)) (kS : PySem.W.keepIn K (.ref fS) = true) :
    FnOk P w K mg base (L2.CX P w) 4 f fd ["self", "x", "y"] (spCheckA C CE) := by
  refine F.okX scCm (fun vs H Q E h => ?_) (fun cdv A outer s H vs Q E hr h => ?_)
  · obtain ⟨x, zs, T0, u, v, z, rfl, _⟩ := h
    rfl
  · obtain ⟨x, zs, T0, u, v, z, rfl, ⟨n, dx, q0, kvs, h1, h4, h5, h6, h7⟩, bad, qE⟩ := h
    refine ⟨_, pss_one (ps_expr (pe_call (E := E) GS hr (by rfl) mS kS bS .nil (passes_call (W := fun cls d _ H => E cls d H) (takes_of rfl rfl rfl rfl) (fun _ _ _ _ h => h)) (pa_cons (pe_fld (pv 0) rfl) (pa_cons (pe_lst (pa_cons (pe_tup (pa_cons (pv 1) (pa_cons (pv 2) (pa_cons pe_int pa_nil)))) pa_nil)) pa_nil)))), ?_⟩
    refine ⟨_, rfl, x, C, dx, _, _, rfl, h1, T.cl, T.n1, rfl, _, rfl, _, rfl, by show 3 ≤ sizeLine; decide, fun t nt => ?_⟩
    have s1 := same_upd (o := .tup [.str u, .str v, .int 0]) nt
    refine ⟨by show 1 ≤ sizeLine; decide, fun l nl => ?_⟩
    have s2 := s1.trans (same_upd (o := .lst [.ref t]) nl)
    refine ⟨n, l, zs, [.ref t], [(u, v, 0)], rfl, s2 _ _ h4, h5, upd_same, ⟨rfl, fun i x e => ?_⟩, fun hf => ?_, fun u' hb H1 dx' s3 nd => ?_⟩
    · match i, e with
      | 0, e =>
        cases e
        exact ⟨_, rfl, t, rfl, by rw [upd_ne (ne_of_none upd_same nl)]; exact upd_same⟩
    · obtain ⟨a1, a2⟩ := hf _ List.mem_cons_self
      rcases bad with ⟨_, hn⟩ | ⟨_, _, hn⟩
      · exact absurd a1 hn
      · exact absurd a2 hn
    · have e : u' = z := by
        obtain ⟨i, g, hg, _, hc⟩ := hb
        match i, hg with
        | 0, hg =>
          cases hg
          rcases bad with ⟨e1, n1⟩ | ⟨i1, e1, n1⟩
          · rcases hc with ⟨e2, _⟩ | ⟨i2, _⟩
            · exact e2.symm.trans e1
            · exact absurd i2 n1
          · rcases hc with ⟨_, n2⟩ | ⟨_, e2, _⟩
            · exact absurd i1 n2
            · exact e2.symm.trans e1
      subst e
      exact qE H1 dx' (s2.trans s3) nd
theorem ok_greatestA {f fc : Addr} {fd fdc : FuncData} (T : FacC K C) (F : Fun K "greatest" "Facts.greatest" sGreatest f fd)
    (Mc : Meth K C "_check" fc) (Gc : FnOk P w K mg base (L2.CX P w) 4 fc fdc ["self", "x", "y"] (spCheckA C CE)) (bc : Binds K fdc ["self", "x", "y"] []) :
    FnOk P w K mg base (L2.CX P w) 5 f fd ["self", "x", "y"] (spCheckA C CE) := by
  refine F.okX scGr (fun vs H Q E h => ?_) (fun cdv A outer s H vs Q E hr h => ?_)
  · obtain ⟨x, zs, T0, u, v, z, rfl, _⟩ := h
    rfl
  · obtain ⟨x, zs, T0, u, v, z, rfl, FA, bad, qE⟩ := h
    have hu := hu_of hr
    refine ⟨_, pss_cons (ps_expr (pe_meth (E := E) (pv 0) T.cl Mc Gc hr bc .nil (passes_call (W := fun cls d _ H => E cls d H) (takes_of rfl rfl rfl rfl) (fun _ _ _ _ h => h)) (pa_cons (pv 1) (pa_cons (pv 2) pa_nil)))) pss_dead, ?_⟩
    obtain ⟨n, dx, q0, kvs, h1, h4, h5, h6, h7⟩ := id FA
    exact ⟨_, rfl, x, dx, _, rfl, h1, rfl, _, rfl, _, rfl, x, zs, T0, u, v, z, rfl, FA, bad, qE⟩
end
end Fv


set_option Elab.async false
set_option linter.all false
set_option maxRecDepth 100000
set_option maxHeartbeats 2000000
/-! own rules: a dict with None among its keys: made, looked at by a text, its size; the same words for a dict of numbers and texts -/
namespace Fv
open PySem PySem.Spec PyProof.Rows L2

def LfS (P : Program) (w : World) (h : Heap) (a : Addr) (kvs : List (Leaf × V)) : Prop := kvs.length ≤ sizeLine ∧ (a == sysModules) = false ∧ ∃ vs, KV kvs vs ∧ h.DictOf (leafKind P w) a vs
/-- a dict of which None may be a key -/
def LfO (P : Program) (w : World) (a : Addr) (kvs : List (Leaf × V)) : HO := .ext fun h => LfS P w h a kvs
theorem lfO_new {P : Program} {w : World} {H : Hp} {h : Heap} {a : Addr} {kvs : List (Leaf × V)} (R : LfS P w h a kvs) : ObjOk P w H h a (LfO P w a kvs) :=
  ⟨R, let ⟨_, _, _, _, o, _, _, e, _⟩ := R; ⟨o, e⟩, fun _ _ p k => let ⟨z, y, vs, r, o, es, ep, e, c⟩ := p; ⟨z, y, vs, r, o, es, ep, k _ e, c⟩⟩
/-- what stands at a text -/
def lfV (kvs : List (Leaf × V)) (z : Str) : Option V := valV kvs (.text z)
/-- the dict x has n entries; what stands at a text -/
inductive DicAt (P : Program) (w : World) (H : Hp) : V → Nat → (Str → Option V) → Prop
  | k {a : Addr} {kvs : List (Key × V)} : H a = some (.dK kvs) → DicAt P w H (.ref a) kvs.length (fun z => valV kvs (.inr z))
  | l {a : Addr} {kvs : List (Leaf × V)} : H a = some (LfO P w a kvs) → DicAt P w H (.ref a) kvs.length (lfV kvs)
theorem kvL_val {kvs : List (Leaf × V)} {vs : List (Leaf × Value)} (r : KV kvs vs) (k : Leaf) : RelO (valV kvs k) (valueAt vs k) := by
  unfold KV at r
  induction r with
  | nil => exact True.intro
  | @cons p q ps qs h t ih =>
    obtain ⟨h1, h2⟩ := h
    unfold valV at ih ⊢
    unfold valueAt at ih ⊢
    by_cases e : p.1 = k
    · rw [List.find?_cons_of_pos (by simpa using e), List.find?_cons_of_pos (by rw [← h1]; simpa using e)]
      exact h2
    · rw [List.find?_cons_of_neg (by simpa using e), List.find?_cons_of_neg (by rw [← h1]; simpa using e)]
      exact ih
section
variable {X : Cx} {pins : List (Addr × Obj)} {σ : L2.St} {H : Hp} {s : Shared}
theorem lf_at {a : Addr} {kvs : List (Leaf × V)} (I : Inv X pins σ H s) (e : H a = some (LfO X.prog X.w a kvs)) : LfS X.prog X.w s.heap a kvs := (I.hok a _ e).1
theorem dic_type {x : V} {n : Nat} {f : Str → Option V} {u : Value} (I : Inv X pins σ H s) (d : DicAt X.prog X.w H x n f) (r : RelV x u) : s.TypeIs u "dict" := by
  cases d with
  | k e =>
    cases r
    obtain ⟨_, _, vs, _, dd⟩ := dk_rd I.hok (.inl e)
    exact dd.typeIs
  | l e =>
    cases r
    obtain ⟨_, _, vs, _, dd⟩ := lf_at I e
    exact dd.typeIs
/-- z in d -/
def rInDic (P : Program) (w : World) (g : Bool → Bool) : R2 := fun y x H Q => ∃ (z : Str) (n : Nat) (f : Str → Option V), y = .str z ∧ DicAt P w H x n f ∧ Q (.bl (g (f z).isSome)) H
theorem op_inDic : OpR X (compareOp .In) (rInDic X.prog X.w fun b => b) := by
  intro pins s σ H y x v u Q I ry rx h
  obtain ⟨z, n, f, rfl, d, q⟩ := h
  obtain ⟨t, rfl⟩ := ry
  cases d with
  | @k a kvs e =>
    cases rx
    obtain ⟨_, hd, vs, rel, dd⟩ := dk_rd I.hok (.inl e)
    refine wpAny_in_of (k := Sum.inr z) (keyIs_str z t) hd dd.mapOf ?_
    rw [← (rel.val (Sum.inr z)).isSome_eq]
    exact ⟨.bl _, H, I.tok _, rfl, q⟩
  | @l a kvs e =>
    cases rx
    obtain ⟨_, hd, vs, rel, dd⟩ := lf_at I e
    refine wpAny_in_of (k := Leaf.text z) (show Value.isStrOf z (.str z t) = true by simp [Value.isStrOf]) hd dd.mapOf ?_
    rw [← (kvL_val rel (Leaf.text z)).isSome_eq]
    exact ⟨.bl _, H, I.tok _, rfl, q⟩
theorem op_notInDic : OpR X (compareOp .NotIn) (rInDic X.prog X.w fun b => !b) := by
  intro pins s σ H y x v u Q I ry rx h
  obtain ⟨z, n, f, rfl, d, q⟩ := h
  obtain ⟨t, rfl⟩ := ry
  cases d with
  | @k a kvs e =>
    cases rx
    obtain ⟨_, hd, vs, rel, dd⟩ := dk_rd I.hok (.inl e)
    refine wpAny_notIn_of (k := Sum.inr z) (keyIs_str z t) hd dd.mapOf ?_
    rw [← (rel.val (Sum.inr z)).isSome_eq]
    exact ⟨.bl _, H, I.tok _, rfl, q⟩
  | @l a kvs e =>
    cases rx
    obtain ⟨_, hd, vs, rel, dd⟩ := lf_at I e
    refine wpAny_notIn_of (k := Leaf.text z) (show Value.isStrOf z (.str z t) = true by simp [Value.isStrOf]) hd dd.mapOf ?_
    rw [← (kvL_val rel (Leaf.text z)).isSome_eq]
    exact ⟨.bl _, H, I.tok _, rfl, q⟩
/-- d[z], there -/
def tDicGet (P : Program) (w : World) (td ty : TE) : TE := fun σ H Q => td σ H fun x H1 => ty σ H1 fun y H2 => ∃ (z : Str) (n : Nat) (f : Str → Option V) (v : V), y = .str z ∧ DicAt P w H2 x n f ∧ f z = some v ∧ Q v H2
theorem pe_dicget {o i : Expr} {td ty : TE} {pos : Pos} (ho : PE X o td) (hi : PE X i ty) (hs : NoSl i) : PE X (.Subscript o i pos) (tDicGet X.prog X.w td ty) := by
  refine ⟨fun pins s σ H Q I h => ?_⟩
  refine subD_of PySem.F.slot_dict_getitem.lookup hs (thn (ho.run pins s σ H _ I h) fun u s1 ⟨x, H1, I1, rx, q1⟩ => thn (hi.run pins s1 σ H1 _ I1 q1) fun iv s2 ⟨y, H2, I2, ry, z, n, f, v, ey, d, hv, q2⟩ => ?_)
  subst ey
  obtain ⟨t, rfl⟩ := ry
  refine ⟨dic_type I2 d rx, ?_⟩
  cases d with
  | @k a kvs e =>
    cases rx
    obtain ⟨_, hd, vs, rel, dd⟩ := dk_rd I2.hok (.inl e)
    obtain ⟨w', hw, rw'⟩ := RelO.some_of (v := v) (o := valueAt vs (Sum.inr z)) (by rw [← hv]; exact rel.val _)
    exact wpAny_getItem_of (k := Sum.inr z) (keyIs_str z t) dd.mapOf hw ⟨v, H2, I2.tok _, rw', q2⟩
  | @l a kvs e =>
    cases rx
    obtain ⟨_, hd, vs, rel, dd⟩ := lf_at I2 e
    obtain ⟨w', hw, rw'⟩ := RelO.some_of (v := v) (o := valueAt vs (Leaf.text z)) (by rw [← hv]; exact kvL_val rel _)
    exact wpAny_getItem_of (k := Leaf.text z) (show Value.isStrOf z (.str z t) = true by simp [Value.isStrOf]) dd.mapOf hw ⟨v, H2, I2.tok _, rw', q2⟩
/-- len(d) -/
def rLenDic (P : Program) (w : World) : List V → Hp → VK → Prop := fun xs H Q => ∃ (x : V) (n : Nat) (f : Str → Option V), xs = [x] ∧ DicAt P w H x n f ∧ Q (.int n) H
theorem call_lenDic : CallR X (.builtin "len") (rLenDic X.prog X.w) := by
  intro pins s σ H xs us Q I r h
  obtain ⟨x, n, f, rfl, d, q⟩ := h
  obtain ⟨u, rfl, rx⟩ := vals1 r
  cases d with
  | @k a kvs e =>
    cases rx
    exact d_len I (.inl e) fun t s' I' => ⟨.int _, H, I', ⟨t, rfl⟩, q⟩
  | @l a kvs e =>
    cases rx
    obtain ⟨z, hd, vs, rel, dd⟩ := lf_at I e
    have el : kvs.length = vs.length := Paired.length rel
    refine call_len_dict hd dd (by rw [← el]; rw [sizeLine_eq] at z; omega) ?_
    rw [← el]
    exact ⟨.int _, H, I.tok _, ⟨_, rfl⟩, q⟩
/-- isinstance(x, T), x such a dict or any other thing -/
def rIsDic (P : Program) (w : World) (K : PySem.W.Frag) : List V → Hp → VK → Prop := fun xs H Q => (∃ (x : V) (n : Nat) (f : Str → Option V), xs = [x, .ty "dict"] ∧ DicAt P w H x n f ∧ Q (.bl true) H) ∨ rIsi K xs H Q
theorem call_isDic : CallR X (.builtin "isinstance") (rIsDic X.prog X.w X.K) := by
  intro pins s σ H xs us Q I r h
  rcases h with ⟨x, n, f, rfl, d, q⟩ | h
  · obtain ⟨u1, u2, rfl, r1, r2⟩ := vals2 r
    have e2 : u2 = .type "dict" := r2
    subst e2
    have T := dic_type I d r1
    cases d with
    | @k a kvs e =>
      cases r1
      exact PySem.W.kia_one PySem.W.kitx_dict I.kIn T (kit_ty (by decide +kernel)) (fun z => nomatch z) fun tk => ⟨.bl true, H, I.tok tk, rfl, q⟩
    | @l a kvs e =>
      cases r1
      exact PySem.W.kia_one PySem.W.kitx_dict I.kIn T (kit_ty (by decide +kernel)) (fun z => nomatch z) fun tk => ⟨.bl true, H, I.tok tk, rfl, q⟩
  · exact call_isi pins s σ H xs us Q I r h
/-- {None: v, z: u} -/
def tDispN (P : Program) (w : World) (trs : List (TE × TE)) : TE := fun σ H Q => ∀ p, H p = none → tPairs trs σ (upd H p (LfO P w p [])) fun ps H2 => H2 p = some (LfO P w p []) ∧ ∃ (v : V) (z : Str) (u : V), ps = [(.non, v), (.str z, u)] ∧ Q (.ref p) (upd H2 p (LfO P w p [(Leaf.none, v), (Leaf.text z, u)]))
theorem pe_dispN {pos : Pos} {keys : List (Option Expr)} {values : List Expr} {trs : List (TE × TE)} (h : PPs X pos keys values trs) (hall : keys.all (·.isSome) = true) (hl : keys.length = values.length) (h0 : keys ≠ [])
    (h15 : keys.length ≤ 15) : PE X (.Dict keys values pos) (tDispN X.prog X.w trs) := by
  refine ⟨fun pins s σ H Q I q => ?_⟩
  have hn := I.hok.fresh (Nat.le_refl s.heap.objs.size)
  have hb := I.big
  have I1 := I.laid (a := s.heap.objs.size) (o := LfO X.prog X.w s.heap.objs.size []) (h' := s.heap.push { cls := .type "dict", data := .dict #[] }) (t' := s.toks) (fun _ _ q => Heap.get?_push_of_some _ q) (Nat.le_refl _)
    (lfO_new ⟨Nat.zero_le _, beq_eq_false_iff_ne.mpr (Ne.symm (Nat.ne_of_lt hb)), [], .nil, Heap.DictOf.new s.heap⟩)
  refine wpAny_Dict_walk (knd := leafKind X.prog X.w) hall hl h0 h15 (thn (h.run pins _ σ _ _ I1 (q _ hn)) fun ws s2 ⟨ps, H2, I2, rel, e, v, z, u, ep, q2⟩ => ?_)
  subst ep
  obtain ⟨_, hd, vs0, r0, dd⟩ := lf_at I2 e
  cases r0
  cases rel with
  | @cons _ w1 _ ws h1 t1 =>
  cases t1 with
  | @cons _ w2 _ ws h2 t2 =>
  cases t2
  obtain ⟨a1, b1⟩ := w1
  obtain ⟨a2, b2⟩ := w2
  obtain ⟨h1k, h1v⟩ := h1
  obtain ⟨h2k, h2v⟩ := h2
  have e1 : a1 = Value.none := h1k
  obtain ⟨t, e2⟩ : ∃ t, a2 = Value.str z t := h2k
  subst e1 e2
  refine ⟨[(Leaf.none, b1), (Leaf.text z, b2)], ⟨rfl, rfl, show Value.isStrOf z (.str z t) = true by simp [Value.isStrOf], rfl, True.intro⟩, dd, fun h' dd' hs => ⟨.ref s.heap.objs.size, _, ?_, rfl, q2⟩⟩
  have he : ∃ q, h'.get? s.heap.objs.size = some q := let ⟨q, _, _, hq, _⟩ := dd'; ⟨q, hq⟩
  refine d_write I2 (by rw [e]; exact True.intro) hs he (lfO_new ⟨by show 2 ≤ sizeLine; decide, hd, [(Leaf.none, b1), (Leaf.text z, b2)], .cons ⟨rfl, h1v⟩ (.cons ⟨rfl, h2v⟩ .nil), ?_⟩)
  exact dd'
end
end Fv


set_option Elab.async false
set_option linter.all false
set_option maxRecDepth 100000
set_option maxHeartbeats 4000000
namespace Fv
open PySem PySem.Spec PyProof.Rows L2
abbrev sAlike : Stmt := top 28
mutual
theorem Dq.dp {K : PySem.W.Frag} {H : Hp} {b : Addr} : ∀ {v : V} {d : PyData}, Dq H b v d → d.canLay0 = true → Dp K H v d
  | _, _, .non, _ => .non
  | _, _, .bl x, _ => .bl x
  | _, _, .int i, _ => .int i
  | _, _, .str x, _ => .str x
  | _, _, .lst e _ _ h, c => .lst (SqL.of e) (DqAll.dp h (by simpa only [PyData.canLay0] using c))
  | _, _, .tup e _ h, c => .tup (SqT.of e) (DqAll.dp h (by simpa only [PyData.canLay0] using c))
  | _, _, .dct _ _ _ _, c => by simp [PyData.canLay0] at c
theorem DqAll.dp {K : PySem.W.Frag} {H : Hp} {b : Addr} : ∀ {v : List V} {d : List PyData}, DqAll H b v d → PyData.canLayAll0 d = true → DpAll K H v d
  | _, _, .nil, _ => .nil
  | _, _, .cons h t, c => by
    simp only [PyData.canLayAll0, Bool.and_eq_true] at c
    exact .cons (Dq.dp h c.1) (DqAll.dp t c.2)
end
structure Flat (d : PyData) : Prop extends Fine d where
  shape : SeqAt.shaped d = true
def spAlike : Sp := fun vs H Q _ => ∃ (b : Addr) (x y : V) (d : PyData), vs = [x, y] ∧ Dq H b x d ∧ Dq H b y d ∧ Flat d ∧ Q (.bl true) H
section
variable {P : Program} {w : World} {K : PySem.W.Frag} {mg : Str → Option Value} {base : Heap}
theorem sd9 : FnScope ["_law_found", "_law_due"] ["_law_found", "_law_due"] (defScope sAlike) := ⟨rfl, rfl, rfl, by decide +kernel, rfl, by decide +kernel, by decide +kernel⟩
theorem ok_alike {f : Addr} {fd : FuncData} (F : Fun K "_law_alike" "_law_alike" sAlike f fd) (mr : mg "repr" = none) : FnG P w K mg base 1 f fd ["_law_found", "_law_due"] spAlike := by
  refine okG F sd9 (fun vs H Q E h => ?_) (fun cdv A outer s H vs Q E hg hr h => ?_)
  · obtain ⟨b, x, y, d, rfl, _⟩ := h
    rfl
  · obtain ⟨b, x, y, d, rfl, hx, hy, fl, q⟩ := h
    refine ⟨_, pss_one (ps_ret (pe_and (pe_cmpR (op_eqD hr.units) (pv 0) (pv 1) (nomark _))
      (pe_one (pe_cmpR op_eq (pe_callB (call_reprD hg hr.units) (by rfl) mr (by decide +kernel) (pa_cons (pv 0) pa_nil)) (pe_callB (call_reprD hg hr.units) (by rfl) mr (by decide +kernel) (pa_cons (pv 1) pa_nil)) (nomark _))))), ?_⟩
    have cl := SeqAt.canLay_of_shaped fl.shape
    refine ⟨_, rfl, _, rfl, d, d, hx.dp cl, hy.dp cl, fl.shape, fl.shape, _, rfl, ?_⟩
    rw [SeqAt.eqv_refl d cl]
    refine iteT ⟨_, rfl, b, _, d, rfl, hx, fl.show_, fl.line, fl.low, _, rfl, b, _, d, rfl, hy, fl.show_, fl.line, fl.low, rfl, ?_⟩
    show Q (V.bl (decide (V.str d.shown = V.str d.shown))) H
    rw [decide_eq_true rfl]
    exact q
end
theorem flat_bool (b : Bool) : Flat (.bool b) := ⟨⟨by cases b <;> rfl, by cases b <;> decide +kernel, by simp [PyData.depth]⟩, by cases b <;> decide +kernel⟩
theorem flat_two (b c : Bool) : Flat (.list [.bool b, .bool c]) := ⟨⟨by cases b <;> cases c <;> rfl, by cases b <;> cases c <;> decide +kernel, by simp [PyData.depth, PyData.depthAll]⟩, by cases b <;> cases c <;> decide +kernel⟩
end Fv


set_option Elab.async false
set_option linter.all false
set_option maxRecDepth 100000
set_option maxHeartbeats 4000000
namespace Fv
open PySem PySem.Spec PyProof.Rows L2
/-! ### both tables told alike; what stands through draws -/
abbrev lstT (ws : List Str) (L : List FaT) : M.Tb Str := M.rounds (srcs ws) L (ws.length + 2) (M.diag (srcs ws))
def SrcAll (zs : List Str) (L : List FaT) : Prop := ∀ f ∈ L, SrcIn zs f.1 ∧ SrcIn zs f.2.1
/-- a Facts that stands, its table over its names -/
structure FacG (C : Addr) (H : Hp) (x : Addr) (zs : List Str) (T : M.Tb Str) : Prop where
  at_ : FacAt C H x zs T
  ti : TIn zs T
  nm : ∀ z ∈ zs, NmOk z
theorem FacG.same {C : Addr} {H H' : Hp} {x : Addr} {zs : List Str} {T : M.Tb Str} (h : FacG C H x zs T) (s : Same H H') : FacG C H' x zs T := ⟨h.at_.same s, h.ti, h.nm⟩
structure Lk (ys : List Str) (T : M.Tb Str) (L : List FaT) : Prop where
  one : ∀ u v, u ≠ v → T u v = lstT ys L u v
  dia : ∀ u, lstT ys L u u = if u ∈ srcs ys then some 0 else none
  off : ∀ u, T u u = none
theorem Lk.of {ys : List Str} {T : M.Tb Str} {L : List FaT} {pot : Str → Int} {Z : List Str} (hK : M.Keeps L pot) (hin : SrcAll ys L) (cl : M.Cl L pot Z T) (hM : ∀ m x y c d, (x, m, c) ∈ L → x ≠ m → (m, y, d) ∈ L → m ≠ y → m ∈ Z) : Lk ys T L := by
  have hF : ∀ x y c, (x, y, c) ∈ L → x ∈ srcs ys ∧ y ∈ srcs ys := fun x y c m => ⟨src_mem.mpr (hin _ m).1, src_mem.mpr (hin _ m).2⟩
  have walk : ∀ x y c, lstT ys L x y = some c → ∃ m, M.Wk L (fun s => s ∈ srcs ys) x y c m := M.rounds_there (fun x y c m => (hF x y c m).1) _
  refine ⟨fun u v n => ?_, fun u => ?_, cl.off⟩
  · by_cases hu : u ∈ srcs ys
    · exact M.same hK cl hM hF (by show ys.length + 1 ≤ ys.length + 2; omega) hu n
    · cases e1 : T u v with
      | some c =>
        obtain ⟨⟨y', c', h1, _⟩, _⟩ := cl.ends u v c e1
        exact absurd (hF _ _ _ h1).1 hu
      | none =>
        cases e2 : lstT ys L u v with
        | none => rfl
        | some c =>
          obtain ⟨m, wk⟩ := walk _ _ _ e2
          exact absurd wk.at0 hu
  · by_cases hu : u ∈ srcs ys
    · rw [if_pos hu]
      exact M.same0 hK hF (by show ys.length + 1 ≤ ys.length + 2; omega) hu
    · rw [if_neg hu]
      cases e2 : lstT ys L u u with
      | none => rfl
      | some c =>
        obtain ⟨m, wk⟩ := walk _ _ _ e2
        exact absurd wk.at0 hu
theorem Lk.bt {ys : List Str} {T T' : M.Tb Str} {L L' : List FaT} (h : Lk ys T L) (h' : Lk ys T' L') : M.Bt T T' ↔ M.Bt (lstT ys L) (lstT ys L') := by
  constructor
  · intro b x y g e
    by_cases n : x = y
    · subst n
      rw [h.dia] at e
      rw [h'.dia]
      exact ⟨g, e, Int.le_refl _⟩
    · rw [← h.one x y n] at e
      obtain ⟨g', e', l⟩ := b x y g e
      exact ⟨g', by rw [← h'.one x y n]; exact e', l⟩
  · intro b x y g e
    have n : x ≠ y := fun z => by
      rw [z, h.off] at e
      cases e
    rw [h.one x y n] at e
    obtain ⟨g', e', l⟩ := b x y g e
    exact ⟨g', by rw [h'.one x y n]; exact e', l⟩
theorem bt_eq {T T' : M.Tb Str} : T = T' ↔ M.Bt T T' ∧ M.Bt T' T := by
  constructor
  · rintro rfl
    exact ⟨M.Bt.rfl' T, M.Bt.rfl' T⟩
  · rintro ⟨a, b⟩
    funext x y
    cases e : T x y with
    | none =>
      cases e' : T' x y with
      | none => rfl
      | some g =>
        obtain ⟨g', h, _⟩ := b x y g e'
        rw [e] at h
        cases h
    | some g =>
      obtain ⟨g', h, l⟩ := a x y g e
      obtain ⟨g2, h2, l2⟩ := b x y g' h
      rw [e] at h2
      cases h2
      rw [h]
      congr 1
      omega
/-- all stands but lists in which no text is -/
def Kst (H H' : Hp) : Prop := ∀ a o, (∀ l, o = .lst l → ∃ u, V.str u ∈ l) → H a = some o → H' a = some o
theorem Kst.trans {H H' H'' : Hp} (a : Kst H H') (b : Kst H' H'') : Kst H H'' := fun c o h e => b c o h (a c o h e)
theorem Kst.same {H H' : Hp} (s : Same H H') : Kst H H' := fun c o _ e => s c o e
theorem Kst.upd {H : Hp} {D : Addr} {l : List V} {o : HO} (h : H D = some (.lst l)) (n : ∀ u, V.str u ∉ l) : Kst H (upd H D o) := fun c o' hl e => by
  rw [upd_ne]
  · exact e
  · intro z
    rw [z, h] at e
    cases e
    obtain ⟨u, hu⟩ := hl l rfl
    exact n u hu
theorem Kst.keep {H H' : Hp} {b c0 : Addr} (B : BagAt H b c0) (k : Keep b H H') : Kst H H' := fun c o hl e => by
  refine k c o (fun z => ?_) e
  obtain ⟨cs, p, s, i, BB⟩ := B
  rw [z, BB.at_] at e
  cases e
  obtain ⟨u, hu⟩ := hl _ rfl
  simp at hu
theorem FacG.kst {C : Addr} {H H' : Hp} {x : Addr} {zs : List Str} {T : M.Tb Str} (h : FacG C H x zs T) (ne : zs ≠ []) (k : Kst H H') : FacG C H' x zs T := by
  refine ⟨?_, h.ti, h.nm⟩
  obtain ⟨n, dx, q, kvs, h1, h4, h5, h6, h7⟩ := h.at_
  refine ⟨n, dx, q, kvs, k _ _ (fun l z => nomatch z) h1, k _ _ (fun l z => ?_) h4, h5, k _ _ (fun l z => nomatch z) h6, h7⟩
  cases z
  cases zs with
  | nil => exact absurd rfl ne
  | cons z zs => exact ⟨z, List.mem_cons_self⟩
theorem Its.kst {H H' : Hp} {xs : List V} {L : List FaT} (h : Its H xs L) (k : Kst H H') : Its H' xs L := h.samT fun t us e => k t _ (fun l z => nomatch z) e
/-- a Facts made of the facts L over the names zs -/
def MadeAt (C : Addr) (H : Hp) (zs : List Str) (x : Addr) (L : List FaT) : Prop := ∃ ys T, ys.Perm zs ∧ sortedS ys = true ∧ FacG C H x ys T ∧ Lk ys T L
theorem MadeAt.kst {C : Addr} {H H' : Hp} {zs : List Str} {x : Addr} {L : List FaT} (h : MadeAt C H zs x L) (ne : zs ≠ []) (k : Kst H H') : MadeAt C H' zs x L := by
  obtain ⟨ys, T, p, s, f, l⟩ := h
  exact ⟨ys, T, p, s, f.kst (fun z => ne (by rw [z] at p; exact (List.nil_perm.mp p))) k, l⟩
end Fv


/-! A start at which two points are so far apart; lists of facts that tell the same (pure). -/
namespace Fv.M
set_option linter.unusedSectionVars false
variable {S : Type} [DecidableEq S]
/-- a table that is closed, and one of its starts -/
structure Shut (T : Tb S) (q : S → Int) : Prop where
  off : ∀ x, T x x = none
  pot : ∀ x y c, T x y = some c → q x - q y ≤ c
  tri : ∀ x m y a b, T x m = some a → T m y = some b → x ≠ y → ∃ g, T x y = some g ∧ g ≤ a + b
def upTo (T : Tb S) (y z : S) : Option Int := if z = y then some 0 else T z y
def farP (T : Tb S) (q : S → Int) (y : S) (m : Int) (z : S) : Int := match upTo T y z with
  | some c => min c (q z + m)
  | none => q z + m
theorem farP_le {T : Tb S} {q : S → Int} {y : S} {m : Int} (z : S) : farP T q y m z ≤ q z + m := by
  unfold farP
  split <;> omega
theorem Shut.up {T : Tb S} {q : S → Int} (h : Shut T q) {y a b : S} {c e : Int} (hab : T a b = some c) (hb : upTo T y b = some e) : ∃ e', upTo T y a = some e' ∧ e' ≤ c + e := by
  have nab : a ≠ b := fun z => by rw [z, h.off] at hab; cases hab
  unfold upTo at hb ⊢
  by_cases by_ : b = y
  · rw [if_pos by_] at hb
    cases hb
    rw [if_neg (by rw [← by_]; exact nab), ← by_]
    exact ⟨c, hab, by omega⟩
  · rw [if_neg by_] at hb
    by_cases ay : a = y
    · rw [if_pos ay]
      have h1 := h.pot _ _ _ hab
      have h2 := h.pot _ _ _ hb
      rw [← ay] at h2
      exact ⟨0, rfl, by omega⟩
    · rw [if_neg ay]
      exact h.tri _ _ _ _ _ hab hb ay
theorem Shut.far {T : Tb S} {q : S → Int} (h : Shut T q) {x y : S} {k : Int} (n : x ≠ y) (hk : ∀ g, T x y = some g → k ≤ g) : ∃ p : S → Int, (∀ a b c, T a b = some c → p a - p b ≤ c) ∧ k ≤ p x - p y := by
  refine ⟨farP T q y (max (-(q y)) (k - q x)), fun a b c hab => ?_, ?_⟩
  · have pa := h.pot _ _ _ hab
    have la := farP_le (T := T) (q := q) (y := y) (m := max (-(q y)) (k - q x)) a
    generalize hm : max (-(q y)) (k - q x) = m at la ⊢
    cases hb : upTo T y b with
    | none =>
      have e : farP T q y m b = q b + m := by unfold farP; rw [hb]
      omega
    | some e =>
      obtain ⟨e', he', l⟩ := h.up hab hb
      have e1 : farP T q y m b = min e (q b + m) := by unfold farP; rw [hb]
      have e2 : farP T q y m a = min e' (q a + m) := by unfold farP; rw [he']
      omega
  · have ey : farP T q y (max (-(q y)) (k - q x)) y = min 0 (q y + max (-(q y)) (k - q x)) := by
      have : upTo T y y = some 0 := if_pos rfl
      unfold farP
      rw [this]
    have ex : upTo T y x = T x y := if_neg n
    cases hx : T x y with
    | none =>
      have e2 : farP T q y (max (-(q y)) (k - q x)) x = q x + max (-(q y)) (k - q x) := by
        unfold farP
        rw [ex, hx]
      omega
    | some g =>
      have e2 : farP T q y (max (-(q y)) (k - q x)) x = min g (q x + max (-(q y)) (k - q x)) := by
        unfold farP
        rw [ex, hx]
      have := hk g hx
      omega
/-- each fact of the one follows from the other ones -/
def Under (F F' : Fa S) (A : S → Prop) : Prop := ∀ x y c, (x, y, c) ∈ F → ∃ c' n, Wk F' A x y c' n ∧ c' ≤ c
theorem Under.walk {F F' : Fa S} {A : S → Prop} (h : Under F F' A) {x y : S} {c : Int} {n : Nat} (w : Wk F A x y c n) : ∃ c' n', Wk F' A x y c' n' ∧ c' ≤ c := by
  induction w with
  | nil a => exact ⟨0, 0, .nil a, Int.le_refl _⟩
  | cons hf a w ih =>
    obtain ⟨c1, n1, w1, l1⟩ := h _ _ _ hf
    obtain ⟨c2, n2, w2, l2⟩ := ih
    exact ⟨c1 + c2, n1 + n2, w1.app w2, by omega⟩
theorem Under.keeps {F F' : Fa S} {A : S → Prop} (h : Under F F' A) {p : S → Int} (K : Keeps F' p) : Keeps F p := fun x y c hm => by
  obtain ⟨c', n, w, l⟩ := h x y c hm
  have := w.pot K
  omega
theorem Lst.same {F F' : Fa S} {A : S → Prop} (h1 : Under F F' A) (h2 : Under F' F A) {x y : S} {o o' : Option Int} (l : Lst F A x y o) (l' : Lst F' A x y o') : o = o' := by
  cases o with
  | none =>
    cases o' with
    | none => rfl
    | some g =>
      obtain ⟨n, w⟩ := l'.there g rfl
      obtain ⟨c', n', w', _⟩ := h2.walk w
      obtain ⟨g', e, _⟩ := l.least _ _ w'
      cases e
  | some g =>
    obtain ⟨n, w⟩ := l.there g rfl
    obtain ⟨c', n', w', lc⟩ := h1.walk w
    obtain ⟨g', e, lg⟩ := l'.least _ _ w'
    subst e
    obtain ⟨n2, w2⟩ := l'.there g' rfl
    obtain ⟨c2, n3, w3, lc2⟩ := h2.walk w2
    obtain ⟨g2, e2, lg2⟩ := l.least _ _ w3
    cases e2
    have : g = g' := by omega
    rw [this]
theorem Under.refl {F : Fa S} {A : S → Prop} (hF : ∀ x y c, (x, y, c) ∈ F → A x ∧ A y) : Under F F A := fun x y c hm => ⟨c + 0, 1, .cons hm (hF _ _ _ hm).1 (.nil (hF _ _ _ hm).2), by omega⟩
theorem Wk.sub {F F' : Fa S} {A : S → Prop} (h : ∀ f ∈ F, f ∈ F') {x y : S} {c : Int} {n : Nat} (w : Wk F A x y c n) : Wk F' A x y c n := by
  induction w with
  | nil a => exact .nil a
  | cons hf a w ih => exact .cons (h _ hf) a ih
theorem Under.app {F F' G G' : Fa S} {A : S → Prop} (h : Under F F' A) (k : Under G G' A) : Under (F ++ G) (F' ++ G') A := fun x y c hm => by
  rcases List.mem_append.mp hm with hm | hm
  · obtain ⟨c', n, w, l⟩ := h x y c hm
    exact ⟨c', n, w.sub fun f hf => List.mem_append_left _ hf, l⟩
  · obtain ⟨c', n, w, l⟩ := k x y c hm
    exact ⟨c', n, w.sub fun f hf => List.mem_append_right _ hf, l⟩
end Fv.M


set_option Elab.async false
set_option linter.all false
set_option maxRecDepth 100000
set_option maxHeartbeats 4000000
namespace Fv
open PySem PySem.Spec PyProof.Rows L2
/-! ### tables, lists of facts that tell the same -/
theorem in_srcs {ys : List Str} {L : List FaT} (hin : SrcAll ys L) : ∀ x y c, (x, y, c) ∈ L → x ∈ srcs ys ∧ y ∈ srcs ys := fun x y c m => ⟨src_mem.mpr (hin _ m).1, src_mem.mpr (hin _ m).2⟩
theorem lst_of {ys : List Str} {L : List FaT} {q : Str → Int} (hK : M.Keeps L q) (hin : SrcAll ys L) (u v : Str) : M.Lst L (fun s => s ∈ srcs ys) u v (lstT ys L u v) :=
  M.rounds_lst hK (fun x y c m => (in_srcs hin x y c m).1) (by show ys.length + 1 ≤ ys.length + 2; omega) u v
theorem Lk.ne {ys : List Str} {T : M.Tb Str} {L : List FaT} (lk : Lk ys T L) {x y : Str} {c : Int} (e : T x y = some c) : x ≠ y := fun z => by
  rw [z, lk.off] at e
  cases e
theorem Lk.walk {ys : List Str} {T : M.Tb Str} {L : List FaT} {q : Str → Int} (lk : Lk ys T L) (hK : M.Keeps L q) (hin : SrcAll ys L) {x y : Str} {c : Int} (e : T x y = some c) : ∃ n, M.Wk L (fun s => s ∈ srcs ys) x y c n := by
  rw [lk.one x y (lk.ne e)] at e
  exact (lst_of hK hin x y).there c e
theorem Lk.least {ys : List Str} {T : M.Tb Str} {L : List FaT} {q : Str → Int} (lk : Lk ys T L) (hK : M.Keeps L q) (hin : SrcAll ys L) {x y : Str} {c : Int} {n : Nat} (w : M.Wk L (fun s => s ∈ srcs ys) x y c n) (ne : x ≠ y) : ∃ g, T x y = some g ∧ g ≤ c := by
  rw [lk.one x y ne]
  exact (lst_of hK hin x y).least c n w
theorem Lk.shut {ys : List Str} {T : M.Tb Str} {L : List FaT} {q : Str → Int} (lk : Lk ys T L) (hK : M.Keeps L q) (hin : SrcAll ys L) : M.Shut T q where
  off := lk.off
  pot := fun x y c e => by
    obtain ⟨n, w⟩ := lk.walk hK hin e
    exact w.pot hK
  tri := fun x m y a b ea eb ne => by
    obtain ⟨n, w⟩ := lk.walk hK hin ea
    obtain ⟨n', w'⟩ := lk.walk hK hin eb
    exact lk.least hK hin (w.app w') ne
theorem Lk.fact {ys : List Str} {T : M.Tb Str} {L : List FaT} {q : Str → Int} (lk : Lk ys T L) (hK : M.Keeps L q) (hin : SrcAll ys L) {x y : Str} {c : Int} (hm : (x, y, c) ∈ L) (ne : x ≠ y) : ∃ g, T x y = some g ∧ g ≤ c := by
  have hs := in_srcs hin _ _ _ hm
  have w : M.Wk L (fun s => s ∈ srcs ys) x y (c + 0) 1 := .cons hm hs.1 (.nil hs.2)
  obtain ⟨g, e, l⟩ := lk.least hK hin w ne
  exact ⟨g, e, by omega⟩
theorem under_bds {ys : List Str} {T : M.Tb Str} {L Lb : List FaT} {q : Str → Int} (lk : Lk ys T L) (bd : Bds T Lb) (hK : M.Keeps L q) (hin : SrcAll ys L) : M.Under Lb L (fun s => s ∈ srcs ys) := fun x y c hm => by
  obtain ⟨n, w⟩ := lk.walk hK hin ((bd.mem x y c).mp hm)
  exact ⟨c, n, w, Int.le_refl _⟩
theorem under_bds' {ys : List Str} {T : M.Tb Str} {L Lb : List FaT} {q : Str → Int} (lk : Lk ys T L) (bd : Bds T Lb) (hK : M.Keeps L q) (hin : SrcAll ys L) : M.Under L Lb (fun s => s ∈ srcs ys) := fun x y c hm => by
  have hs := in_srcs hin _ _ _ hm
  by_cases e : x = y
  · have := hK _ _ _ hm
    subst e
    exact ⟨0, 0, .nil hs.1, by omega⟩
  · obtain ⟨g, eg, l⟩ := lk.fact hK hin hm e
    exact ⟨g + 0, 1, .cons ((bd.mem x y g).mpr eg) hs.1 (.nil hs.2), by omega⟩
theorem Bds.src {ys : List Str} {T : M.Tb Str} {Lb : List FaT} (bd : Bds T Lb) (ti : TIn ys T) : SrcAll ys Lb := fun f hf => ti.in_ _ _ _ ((bd.mem f.1 f.2.1 f.2.2).mp hf)
theorem Bds.few {ys : List Str} {T : M.Tb Str} {Lb : List FaT} (bd : Bds T Lb) (ti : TIn ys T) : Lb.length ≤ (ys.length + 1) * (ys.length + 1) := by
  have := nodup_pairs (("" : Str) :: ys) (Lb.map fun f => (f.1, f.2.1)) bd.nd fun e he => by
    obtain ⟨f, hf, rfl⟩ := List.mem_map.mp he
    obtain ⟨a, b⟩ := bd.src ti f hf
    exact ⟨List.mem_cons.mpr a, List.mem_cons.mpr b⟩
  rw [List.length_map] at this
  exact this
theorem lst_fun {ys : List Str} {F F' : List FaT} {q : Str → Int} (h1 : M.Under F F' (fun s => s ∈ srcs ys)) (h2 : M.Under F' F (fun s => s ∈ srcs ys)) (hK : M.Keeps F q) (hin : SrcAll ys F) (hin' : SrcAll ys F') : lstT ys F = lstT ys F' := by
  funext u v
  exact M.Lst.same h1 h2 (lst_of hK hin u v) (lst_of (h2.keeps hK) hin' u v)
theorem Lk.swap {ys : List Str} {T : M.Tb Str} {F F' : List FaT} (lk : Lk ys T F') (h : lstT ys F = lstT ys F') : Lk ys T F := ⟨fun u v n => by rw [h]; exact lk.one u v n, fun u => by rw [h]; exact lk.dia u, lk.off⟩
theorem SrcAll.app {ys : List Str} {L M : List FaT} (h : SrcAll ys L) (k : SrcAll ys M) : SrcAll ys (L ++ M) := fun f hf => (List.mem_append.mp hf).elim (h f) (k f)
theorem SrcAll.one {ys : List Str} {x y : Str} {c : Int} (hx : SrcIn ys x) (hy : SrcIn ys y) : SrcAll ys [(x, y, c)] := fun f hf => by
  rw [List.mem_singleton.mp hf]
  exact ⟨hx, hy⟩
/-- the least of 0 and what a table tells of a source -/
structure IsLow (T : M.Tb Str) (z : Str) (m : Int) : Prop where
  le0 : m ≤ 0
  le : ∀ y c, T z y = some c → m ≤ c
  at_ : m = 0 ∨ ∃ y, T z y = some m
theorem IsLow.uniq {T : M.Tb Str} {z : Str} {m m' : Int} (h : IsLow T z m) (k : IsLow T z m') : m = m' := by
  have h1 : m ≤ m' := by
    rcases k.at_ with e | ⟨y, e⟩
    · rw [e]; exact h.le0
    · exact h.le y _ e
  have h2 : m' ≤ m := by
    rcases h.at_ with e | ⟨y, e⟩
    · rw [e]; exact k.le0
    · exact k.le y _ e
  omega
theorem low_pot {T : M.Tb Str} {q : Str → Int} (h : M.Shut T q) {lo : Str → Int} (hl : ∀ z, IsLow T z (lo z)) {x y : Str} {c : Int} (e : T x y = some c) : lo x - lo y ≤ c := by
  rcases (hl y).at_ with e0 | ⟨z, ez⟩
  · have := (hl x).le y c e
    omega
  · by_cases n : x = z
    · have h1 := h.pot _ _ _ e
      have h2 := h.pot _ _ _ ez
      have := (hl x).le0
      rw [← n] at h2
      omega
    · obtain ⟨g, eg, l⟩ := h.tri _ _ _ _ _ e ez n
      have := (hl x).le z g eg
      omega
/-- the start that is told of facts Lb and x - y at least k -/
def StartF (ys : List Str) (Lb : List FaT) (x y : Str) (k : Int) (f : Str → Int) : Prop := ∃ (T : M.Tb Str) (lo : Str → Int), Lk ys T (Lb ++ [(y, x, -k)]) ∧ (∀ z, IsLow T z (lo z)) ∧ ∀ z, f z = lo z - lo ""
theorem StartF.uniq {ys : List Str} {Lb : List FaT} {x y : Str} {k : Int} {f g : Str → Int} (h : StartF ys Lb x y k f) (h' : StartF ys Lb x y k g) : f = g := by
  obtain ⟨T, lo, lk, hl, hf⟩ := h
  obtain ⟨T', lo', lk', hl', hf'⟩ := h'
  have e : T = T' := by
    funext u v
    by_cases n : u = v
    · rw [n, lk.off, lk'.off]
    · rw [lk.one u v n, lk'.one u v n]
  subst e
  funext z
  rw [hf, hf', (hl z).uniq (hl' z), (hl "").uniq (hl' "")]
theorem StartF.ok {ys : List Str} {Lb : List FaT} {x y : Str} {k : Int} {f q : Str → Int} (h : StartF ys Lb x y k f) (hK : M.Keeps (Lb ++ [(y, x, -k)]) q) (hin : SrcAll ys (Lb ++ [(y, x, -k)])) : M.Keeps Lb f ∧ k ≤ f x - f y ∧ f "" = 0 := by
  obtain ⟨T, lo, lk, hl, hf⟩ := h
  have sh := lk.shut hK hin
  have all : M.Keeps (Lb ++ [(y, x, -k)]) f := fun a b c hm => by
    rw [hf, hf]
    by_cases n : a = b
    · have := hK _ _ _ hm
      rw [n] at this ⊢
      omega
    · obtain ⟨g, eg, l⟩ := lk.fact hK hin hm n
      have := low_pot sh hl eg
      omega
  refine ⟨fun a b c hm => all a b c (List.mem_append_left _ hm), ?_, by rw [hf]; omega⟩
  have := all y x (-k) (List.mem_append_right _ List.mem_cons_self)
  omega
end Fv


set_option Elab.async false
set_option linter.all false
set_option maxRecDepth 100000
set_option maxHeartbeats 4000000
namespace Fv
open PySem PySem.Spec PyProof.Rows L2
/-! ### keeps -/
abbrev sKeeps : Stmt := inClass (top 18) 4
/-- what may stand in a dict that is handed to keeps -/
inductive ValOk (H : Hp) : V → Prop
  | int (i : Int) : ValOk H (.int i)
  | bl (b : Bool) : ValOk H (.bl b)
  | str (z : Str) : z.length ≤ 8 → (∀ c ∈ z.cps.toList, c < 128) → ValOk H (.str z)
  | non : ValOk H .non
  | tup {t : Addr} : H t = some (.tup [.int 1]) → ValOk H (.ref t)
def isInt : V → Bool
  | .int _ => true
  | _ => false
theorem ValOk.same {H H' : Hp} {v : V} (h : ValOk H v) (s : ∀ t us, H t = some (.tup us) → H' t = some (.tup us)) : ValOk H' v := by
  cases h with
  | int i => exact .int i
  | bl b => exact .bl b
  | str z a b => exact .str z a b
  | non => exact .non
  | tup e => exact .tup (s _ _ e)
theorem ValOk.dx {C : Addr} {H : Hp} {v : V} (h : ValOk H v) {b : Addr} (hb : ∀ us, H b ≠ some (.tup us)) : ∃ d, Dx C H b v d ∧ okD d ∧ intD d = isInt v := by
  cases h with
  | int i => exact ⟨_, .int i, True.intro, rfl⟩
  | bl c => exact ⟨_, .bl c, True.intro, rfl⟩
  | str z a c => exact ⟨_, .str z, ⟨by omega, c⟩, rfl⟩
  | non => exact ⟨_, .non, True.intro, rfl⟩
  | @tup t e =>
    refine ⟨_, .tup e (fun z => hb _ (by rw [← z]; exact e)) (.cons (.int 1) .nil), ⟨by show 1 ≤ 60; decide, ?_⟩, rfl⟩
    exact ⟨True.intro, True.intro⟩
/-- what is handed to keeps -/
inductive ThgOk (P : Program) (w : World) (K : PySem.W.Frag) (H : Hp) : V → Prop
  | dic {v : V} {n : Nat} {f : Str → Option V} : DicAt P w H v n f → n ≤ 60 → (∀ z u, f z = some u → ValOk H u) → ThgOk P w K H v
  | oth {v : V} {t : Value} : TyX K H v t → PySem.W.kitOne K t (.type "dict") = some false → ThgOk P w K H v
/-- the numbers that a dict tells -/
def asg (f : Str → Option V) (z : Str) : Int := if z = "" then 0 else match f z with
  | some (.int i) => i
  | _ => 0
/-- it is a start of the names that keeps the bounds -/
def KeepsT (f : Str → Option V) (n : Nat) (zs : List Str) (T : M.Tb Str) : Prop := n = zs.length ∧ (∀ z ∈ zs, ∃ i, f z = some (.int i)) ∧ ∀ x y c, T x y = some c → asg f x - asg f y ≤ c
def spKeeps (P : Program) (w : World) (K : PySem.W.Frag) (C : Addr) : Sp := fun vs H Q _ => ∃ (x : Addr) (v : V) (zs : List Str) (T : M.Tb Str), vs = [.ref x, v] ∧ FacG C H x zs T ∧
  ((∃ t, TyX K H v t ∧ PySem.W.kitOne K t (.type "dict") = some false ∧ Q (.bl false) H) ∨
   ∃ n f, DicAt P w H v n f ∧ n ≤ 60 ∧ (∀ z u, f z = some u → ValOk H u) ∧ ∀ b H', Same H H' → (b = true ↔ KeepsT f n zs T) → Q (.bl b) H')
theorem DicAt.same {P : Program} {w : World} {H H' : Hp} {v : V} {n : Nat} {f : Str → Option V} (h : DicAt P w H v n f) (s : ∀ a o, (∀ l, o ≠ .lst l) → H a = some o → H' a = some o) : DicAt P w H' v n f := by
  cases h with
  | k e => exact .k (s _ _ (fun l z => nomatch z) e)
  | l e => exact .l (s _ _ (fun l z => nomatch z) e)
theorem asg_int {f : Str → Option V} {z : Str} {i : Int} (h : f z = some (.int i)) (n : z ≠ "") : asg f z = i := by
  unfold asg
  rw [if_neg n, h]
theorem asg_empty {f : Str → Option V} : asg f "" = 0 := if_pos rfl
section
variable {P : Program} {w : World} {K : PySem.W.Frag} {mg : Str → Option Value} {base : Heap} {C : Addr}
abbrev nKp : List Str := ["self", "thing", "numbers", "name", "x", "y", "c"]
theorem scKp : FnScope nKp ["self", "thing"] (defScope sKeeps) := ⟨rfl, rfl, rfl, by decide +kernel, rfl, by decide +kernel, by decide +kernel⟩
theorem ok_keeps {f fI : Addr} {fd fdI : FuncData} (T : FacC K C) (F : Fun K "keeps" "Facts.keeps" sKeeps f fd)
    (GI : FnOk P w K mg base CX0 1 fI fdI ["thing"] (spX C intD)) (bI : Binds K fdI ["thing"] []) (mI : mg "is_integer" = some (.ref fI)) (kI : PySem.W.keepIn K (.ref fI) = true)
    (mq : mg "isinstance" = none) (md : mg "dict" = none) (ml : mg "len" = none) (ma : mg "all" = none) : FnOk P w K mg base CX0 2 f fd ["self", "thing"] (spKeeps P w K C) := by
  refine F.ok scKp (fun vs H Q E h => ?_) (fun cdv A outer s H vs Q E hr h => ?_)
  · obtain ⟨_, _, _, _, rfl, _⟩ := h
    rfl
  · obtain ⟨x, v, zs, T0, rfl, ⟨FX, ti, nm⟩, h⟩ := h
    have hu := hu_of hr
    have hr1 : Room 1 _ := hr.mono (by decide)
    refine ⟨_, pss_cons (ps_if (PW.pt (pw_or (pt_not (pt_val (pe_callB (r := rIsDic P w K) call_isDic (by rfl) mq (by decide +kernel) (pa_cons (pv 1) (pa_cons (pe_bltn (v := .ty "dict") (by rfl) md boot_dict rfl) pa_nil)))))
          (pw_or1 (pt_cmpR op_ne (pe_callB (r := rLenDic P w) call_lenDic (by rfl) ml PySem.boot_len (pa_cons (pv 1) pa_nil)) (pe_callB call_len_seq (by rfl) ml PySem.boot_len (pa_cons (pe_fld (pv 0) rfl) pa_nil)) (nomark _)))))
        (pss_one (ps_ret pe_bl)) pss_nil)
      (pss_cons (ps_if (pt_not (pt_val (pe_callB (cr_all rfl) (by rfl) ma (by decide +kernel) (pa_cons
          (pe_lc (own := [("name", 3)]) (g := gName 3) (tt := tYes) rfl scKp.nd (pi_list (pe_fld (pv 0) rfl)) (blkOk_by (N := nKp) (sc := defScope sKeeps) (by decide +kernel))
            (fun _ _ _ _ _ => pg_name (i := 3) scKp.nd rfl (.inl rfl)) (fun _ _ _ _ _ => pts_nil)
            (fun _ _ _ _ _ => pe_and (pe_cmpR (r := rInDic P w fun b => b) op_inDic (pv 3) (pv 1) (by rfl)) (pe_one (pe_call GI (by exact hr1) (by rfl) mI kI bI .nil pass0 (pa_cons (show PE _ _ (tDicGet P w (tVar 1) (tVar 3)) from pe_dicget (pv 1) (pv 3) (fun _ _ => rfl)) pa_nil))))) pa_nil))))
        (pss_one (ps_ret pe_bl)) pss_nil)
      (pss_cons (ps_set (i := 2) scKp.nd rfl (.inr rfl) (pe_dc (own := [("name", 3)]) (g := gName 3) (tt := tYes) rfl scKp.nd (pi_list (pe_fld (pv 0) rfl)) (blkOk_by (N := nKp) (sc := defScope sKeeps) (by decide +kernel))
          (fun _ _ _ _ _ => pg_name (i := 3) scKp.nd rfl (.inl rfl)) (fun _ _ _ _ _ => pts_nil) (fun _ _ _ _ _ => pv 3) (fun _ _ _ _ _ => (show PE _ _ (tDicGet P w (tVar 1) (tVar 3)) from pe_dicget (pv 1) (pv 3) (fun _ _ => rfl)))))
      (pss_cons (ps_dput hu (pv 2) pe_str pe_int rfl)
      (pss_one (ps_ret (pe_callB (cr_all rfl) (by rfl) ma (by decide +kernel) (pa_cons
          (pe_lock (pe_lc (own := [("x", 4), ("y", 5), ("c", 6)]) (g := gTup K 2 (gCons (gTup K 2 (gCons (gName 4) (gCons (gName 5) gNil))) (gCons (gName 6) gNil))) (tt := tYes) rfl scKp.nd (pi_itemsT (pe_fld (pv 0) rfl)) (blkOk_by (N := nKp) (sc := defScope sKeeps) (by decide +kernel))
            (fun _ _ _ _ _ => pg_tup (by rfl) (pgs_cons (pg_tup (by rfl) (pgs_cons (pg_name (i := 4) scKp.nd rfl (.inl rfl)) (pgs_cons (pg_name (i := 5) scKp.nd rfl (.inl rfl)) pgs_nil))) (pgs_cons (pg_name (i := 6) scKp.nd rfl (.inl rfl)) pgs_nil)))
            (fun _ _ _ _ _ => pts_nil) (fun _ _ _ _ _ => pe_cmpR op_le (pe_op op_sub (pe_dget (by exact hu) (pv 2) (pv 4) (fun _ _ => rfl)) (pe_dget (by exact hu) (pv 2) (pv 5) (fun _ _ => rfl))) (pv 6) (nomark _)))) pa_nil))))))), ?_⟩
    rw [show L2.start nKp [V.ref x, v] = [some (.ref x), some v, none, none, none, none, none] from rfl]
    obtain ⟨n, dx, q0, kvs, h1, h4, h5, h6, h7⟩ := id FX
    refine ⟨_, rfl, ?_⟩
    rcases h with ⟨t, ty, kt, q⟩ | ⟨m, f, hd, hm, hv, q⟩
    · exact .inr ⟨_, _, t, .type "dict", false, rfl, .ty _, ty, kt, _, rfl, iteT q⟩
    · refine .inl ⟨_, m, f, rfl, hd, _, rfl, iteF ?_⟩
      refine ⟨_, rfl, _, m, f, rfl, hd, _, rfl, x, C, dx, _, _, rfl, h1, T.cl, T.n1, rfl, n, _, rfl, .inl (SqL.of h4), rfl, _, rfl, ite2 (fun e => ?_) (fun e => ?_)⟩
      · refine q false H (fun _ _ e => e) ⟨fun z => (by cases z), fun k => ?_⟩
        rw [decide_eq_true (show V.int (m : Int) = V.int (((zs.map V.str).length : Nat) : Int) by rw [k.1, List.length_map])] at e
        cases e
      · have em : m = zs.length := by
          by_cases z : V.int (m : Int) = V.int (((zs.map V.str).length : Nat) : Int)
          · have := V.int.inj z
            rw [List.length_map] at this
            omega
          · rw [decide_eq_false z] at e
            exact absurd rfl e
        have hx : ∀ {H' : Hp}, Same H H' → ∀ us, H' x ≠ some (.tup us) := fun s' us z => by
          rw [s' _ _ h1] at z
          cases z
        have ds : ∀ {H' : Hp}, Same H H' → DicAt P w H' v m f := fun s' => hd.same fun a o _ e => s' a o e
        obtain ⟨g, eg⟩ : ∃ g : Str → Bool, g = fun z => match f z with | some u => isInt u | none => false := ⟨_, rfl⟩
        refine ⟨_, rfl, x, C, dx, _, _, rfl, h1, T.cl, T.n1, rfl, n, rfl, ⟨_, SqL.of h4⟩, fun D nD => ?_⟩
        refine lc_it (walk_list (K := K) (a := n) (xs := zs.map V.str)) (fun i H' => Same H H' ∧ H' D = some (.lst (((zs.take i).map g).map V.bl))) ⟨same_upd nD, upd_same⟩ (fun i H' _ h => SqL.of (h.1 _ _ h4)) ?_ ?_
        · rintro i y H' H2 hi ⟨s', eD⟩ ⟨rfl, hyi⟩
          obtain ⟨z, hzi, rfl⟩ : ∃ z, zs[i]? = some z ∧ y = .str z := by
            rw [List.getElem?_map] at hyi
            cases e : zs[i]? with
            | none => rw [e] at hyi; cases hyi
            | some z => rw [e] at hyi; cases hyi; exact ⟨z, rfl, rfl⟩
          have et : zs.take (i + 1) = zs.take i ++ [z] := by rw [List.take_succ, hzi]; rfl
          have fin : ∀ (H3 : Hp) (c : Bool), Same H2 H3 → g z = c → ∃ acc, H3 D = some (.lst acc) ∧ acc.length < sizeLine ∧ Same H (upd H3 D (.lst (acc ++ [.bl c]))) ∧ (upd H3 D (.lst (acc ++ [.bl c]))) D = some (.lst (((zs.take (i + 1)).map g).map V.bl)) := fun H3 c s3 hc => by
            refine ⟨_, s3 _ _ eD, small60 (by rw [List.length_map, List.length_map, List.length_take]; omega), fun a o e => ?_, ?_⟩
            · rw [upd_ne (ne_of_none e nD)]
              exact s3 _ _ (s' a o e)
            · rw [upd_same, et, List.map_append, List.map_append, ← hc]
              rfl
          refine ⟨rfl, _, rfl, _, rfl, z, m, f, rfl, ds s', ?_⟩
          cases ef : f z with
          | none => exact ⟨_, rfl, iteF (fin H2 false (fun _ _ e => e) (by rw [eg]; dsimp only; rw [ef]))⟩
          | some u =>
            obtain ⟨d, hdx, hok, hi2⟩ := ((hv z u ef).same fun t us e => s' _ _ e).dx (C := C) (hx s')
            refine ⟨_, rfl, iteT ⟨_, rfl, _, rfl, z, m, f, u, rfl, ds s', ef, x, u, d, rfl, hdx, hok, ⟨_, s' _ _ h1⟩, fun H3 s3 => ?_⟩⟩
            rw [hi2]
            exact fin H3 _ s3 (by rw [eg]; dsimp only; rw [ef])
        rintro H1 ⟨s1, eD⟩
        rw [List.length_map, List.take_length] at eD
        refine ⟨D, zs.map g, rfl, SqL.of eD, ⟨_, rfl, ?_⟩⟩
        cases hall : (zs.map g).all id with
        | false =>
          refine iteT (q false H1 s1 ⟨fun z => (by cases z), fun k => ?_⟩)
          rw [← hall, List.all_map, List.all_eq_true]
          intro z hz
          obtain ⟨i, hi⟩ := k.2.1 z hz
          show g z = true
          rw [eg]
          dsimp only
          rw [hi]
          rfl
        | true =>
          have allI : ∀ z ∈ zs, ∃ i, f z = some (.int i) := fun z hz => by
            rw [List.all_map, List.all_eq_true] at hall
            have h := hall z hz
            change g z = true at h
            rw [eg] at h
            dsimp only at h
            cases ef : f z with
            | none => rw [ef] at h; cases h
            | some u =>
              rw [ef] at h
              cases u with
              | int i => exact ⟨i, rfl⟩
              | _ => cases h
          refine iteF ⟨_, rfl, x, C, dx, _, _, rfl, s1 _ _ h1, T.cl, T.n1, rfl, n, rfl, ⟨_, SqL.of (s1 _ _ h4)⟩, fun D2 nD2 => ?_⟩
          refine dc_it (walk_list (K := K) (a := n) (xs := zs.map V.str)) (fun i H' => Same H1 H' ∧ ∃ kv2 : List (Key × V), H' D2 = some (.dK kv2) ∧ kv2.length ≤ i ∧ ∀ z ∈ zs.take i, valV kv2 (Sum.inr z) = f z)
            ⟨same_upd nD2, [], upd_same, Nat.le_refl _, fun z hz => by simp at hz⟩ (fun i H' _ h => SqL.of (h.1 _ _ (s1 _ _ h4))) ?_ ?_
          · rintro i y H' H2 hi ⟨s', kv2, e2, l2, hk2⟩ ⟨rfl, hyi⟩
            obtain ⟨z, hzi, rfl⟩ : ∃ z, zs[i]? = some z ∧ y = .str z := by
              rw [List.getElem?_map] at hyi
              cases e : zs[i]? with
              | none => rw [e] at hyi; cases hyi
              | some z => rw [e] at hyi; cases hyi; exact ⟨z, rfl, rfl⟩
            have et : zs.take (i + 1) = zs.take i ++ [z] := by rw [List.take_succ, hzi]; rfl
            obtain ⟨j, hj⟩ := allI z (List.mem_of_getElem? hzi)
            refine ⟨rfl, _, rfl, _, rfl, _, rfl, z, m, f, _, rfl, ds (s1.trans s'), hj, kv2, Sum.inr z, rfl, e2, small60 (by have := (List.getElem?_eq_some_iff.mp hzi).1; omega), fun a o e => ?_, _, upd_same, Nat.le_trans (putKK_le _ _ _) (by omega), fun u hu2 => ?_⟩
            · rw [upd_ne (ne_of_none e nD2)]
              exact s' a o e
            · rw [valV_put]
              by_cases e : u = z
              · rw [if_pos (by rw [e]), e, hj]
              · rw [if_neg (fun q => e (Sum.inr.inj q))]
                rw [et] at hu2
                rcases List.mem_append.mp hu2 with h | h
                · exact hk2 u h
                · exact absurd (List.mem_singleton.mp h) e
          rintro H2 ⟨s2, kv2, e2, l2, hk2⟩
          rw [List.length_map] at l2 hk2
          rw [List.take_length] at hk2
          simp only [gName, List.set_cons_zero, List.set_cons_succ]
          refine ⟨_, rfl, D2, _, rfl, DPut.k (k := Sum.inr "") e2 (small60 (by omega)), ?_⟩
          have nD2' : H1 D2 = none := nD2
          have s3 : Same H1 (upd H2 D2 (.dK (putK kv2 (Sum.inr "") (.int 0)))) := fun a o e => by
            rw [upd_ne (ne_of_none e nD2)]
            exact s2 a o e
          have e3 : (upd H2 D2 (.dK (putK kv2 (Sum.inr "") (.int 0)))) D2 = some (.dK (putK kv2 (Sum.inr "") (.int 0))) := upd_same
          have look : ∀ u, SrcIn zs u → valV (putK kv2 (Sum.inr "") (.int 0)) (Sum.inr u) = some (.int (asg f u)) := fun u hu2 => by
            rw [valV_put]
            by_cases e : u = ""
            · rw [if_pos (by rw [e]), e, asg_empty]
            · rw [if_neg (fun q => e (Sum.inr.inj q))]
              have hm := hu2.resolve_left e
              obtain ⟨j, hj⟩ := allI u hm
              rw [hk2 u hm, hj, asg_int hj e]
          generalize upd H2 D2 (.dK (putK kv2 (Sum.inr "") (.int 0))) = H3 at s3 e3 ⊢
          have s03 := s1.trans s3
          have h63 := s03 _ _ h6
          -- the bounds
          refine ⟨q0, .dT kvs, h63, True.intro, fun od => ?_⟩
          have xq : x ≠ q0 := ne_of h1 h6 (by intro z; cases z)
          have dq : D2 ≠ q0 := ne_of e3 h63 (by intro z; cases z)
          obtain ⟨lb, elb⟩ : ∃ lb : FaT → Bool, lb = fun t => decide (asg f t.1 - asg f t.2.1 ≤ t.2.2) := ⟨_, rfl⟩
          refine ⟨_, rfl, x, C, dx, _, _, rfl, by rw [upd_ne xq]; exact s03 _ _ h1, T.cl, T.n2, rfl, q0, od, kvs, rfl, upd_same, fun B nB => ?_⟩
          obtain ⟨Bq, B1⟩ := locked_new nB
          have kk := ti.len h7
          refine lc_it walk_itemsT (fun j H' => Same (upd H3 q0 (.frz od (.dT kvs))) H' ∧ H' B = some (.lst ((((ents kvs).take j).map lb).map V.bl)))
            ⟨same_upd nB, upd_same⟩ (fun j H' _ h => h.1 _ _ upd_same) ?_ ?_
          · rintro j y H4 H6 hj ⟨s5, eB⟩ ⟨N1, kq, kk2, val, hkv, rfl, nN, hkq, rfl⟩
            obtain ⟨fx, fy, fc, rfl, rfl, hT2, hf⟩ := h7.item hkv
            have sN := same_upd (o := .tup [.ref kq, .int fc]) nN
            refine ⟨N1, _, rfl, SqT.of upd_same, rfl, _, _, rfl, ⟨kq, _, rfl, SqT.of (sN _ _ hkq), rfl, _, _, rfl, _, _, rfl, rfl, _, _, rfl, rfl, rfl, ?_⟩⟩
            obtain ⟨sx, sy⟩ := ti.in_ _ _ _ hT2
            have eD2 := sN _ _ (s5 _ _ (by rw [upd_ne dq]; exact e3))
            refine ⟨_, rfl, _, rfl, D2, .int (asg f fx), rfl, by have h := DGet.k (k := Sum.inr fx) eD2; rw [look fx sx] at h; exact h, ?_⟩
            refine ⟨_, rfl, _, rfl, D2, .int (asg f fy), rfl, by have h := DGet.k (k := Sum.inr fy) eD2; rw [look fy sy] at h; exact h, ?_⟩
            have e1 : (ents kvs).take (j + 1) = (ents kvs).take j ++ [(fx, fy, fc)] := by rw [List.take_succ, hf]; rfl
            refine ⟨_, _, rfl, rfl, _, rfl, _, _, rfl, rfl, _, sN _ _ eB, small60 (by rw [List.length_map, List.length_map, List.length_take, ents_len]; omega), fun a o e => ?_, ?_⟩
            · rw [upd_ne (ne_of_none e nB)]
              exact sN _ _ (s5 a o e)
            · rw [upd_same, e1, List.map_append, List.map_append, elb]
              rfl
          rintro H6 ⟨s6', eB6⟩
          refine ⟨s6' _ _ upd_same, ?_⟩
          have s6 := unlock h63 s6'
          rw [← ents_len, List.take_length] at eB6
          have eB7 : (upd H6 q0 (.dT kvs)) B = some (.lst (((ents kvs).map lb).map V.bl)) := by rw [upd_ne Bq]; exact eB6
          generalize upd H6 q0 (.dT kvs) = H7 at s6 eB7 ⊢
          refine ⟨B, (ents kvs).map lb, rfl, SqL.of eB7, ?_⟩
          refine q _ H7 (s03.trans s6) ?_
          rw [List.all_map, List.all_eq_true]
          constructor
          · intro h
            refine ⟨em, allI, fun a b c e => ?_⟩
            have := h (a, b, c) (h7.mem.mpr e)
            change lb (a, b, c) = true at this
            rw [elb] at this
            exact of_decide_eq_true this
          · rintro ⟨_, _, h⟩ ⟨a, b, c⟩ hm
            show lb (a, b, c) = true
            rw [elb]
            exact decide_eq_true (h a b c (h7.mem.mp hm))
end
end Fv


set_option Elab.async false
set_option linter.all false
set_option maxRecDepth 100000
set_option maxHeartbeats 4000000
namespace Fv
open PySem PySem.Spec PyProof.Rows L2
/-! ### the lowest number of a source; a start with a difference -/
abbrev sLowest : Stmt := top 24
abbrev nLo : List Str := ["table", "source", "x", "_", "c"]
def spLowest : Sp := fun vs H Q _ => ∃ (q : Addr) (z : Str) (kvs : List (List Key × V)) (T : M.Tb Str), vs = [.ref q, .str z] ∧ H q = some (.dT kvs) ∧ TbL kvs T ∧ kvs.length ≤ 60 ∧ ∀ (m : Int) H', IsLow T z m → Same H H' → Q (.int m) H'
section
variable {P : Program} {w : World} {K : PySem.W.Frag} {mg : Str → Option Value} {base : Heap} {C : Addr}
theorem scLo : FnScope nLo ["table", "source"] (defScope sLowest) := ⟨rfl, rfl, rfl, by decide +kernel, rfl, by decide +kernel, by decide +kernel⟩
theorem ok_lowest {f : Addr} {fd : FuncData} (F : Fun K "_lowest" "_lowest" sLowest f fd) (mm : mg "min" = none) : FnOk P w K mg base CX0 1 f fd ["table", "source"] spLowest := by
  refine F.ok scLo (fun vs H Q E h => ?_) (fun cdv A outer s H vs Q E hr h => ?_)
  · obtain ⟨q, z, kvs, T, rfl, _⟩ := h
    rfl
  · obtain ⟨q0, z, kvs, T, rfl, hq, hT, kk, q⟩ := h
    refine ⟨_, pss_one (ps_ret (pe_callB (cr_min rfl) (by rfl) mm (by decide +kernel) (pa_cons (pe_op op_cat (pe_lst (pa_cons pe_int pa_nil))
      (pe_lock (pe_lc (own := [("x", 2), ("_", 3), ("c", 4)]) (g := gTup K 2 (gCons (gTup K 2 (gCons (gName 2) (gCons (gName 3) gNil))) (gCons (gName 4) gNil))) rfl scLo.nd (pi_itemsT (pv 0)) (blkOk_by (N := nLo) (sc := defScope sLowest) (by decide +kernel))
        (fun _ _ _ _ _ => pg_tup (by rfl) (pgs_cons (pg_tup (by rfl) (pgs_cons (pg_name (i := 2) scLo.nd rfl (.inl rfl)) (pgs_cons (pg_name (i := 3) scLo.nd rfl (.inl rfl)) pgs_nil))) (pgs_cons (pg_name (i := 4) scLo.nd rfl (.inl rfl)) pgs_nil)))
        (fun _ _ _ _ _ => pts_one (pt_cmpR op_eq (pv 2) (pv 1) (nomark _))) (fun _ _ _ _ _ => pv 4)))) pa_nil))), ?_⟩
    have h100 : 100 < sizeLine := by decide
    refine ⟨by show 1 ≤ sizeLine; omega, fun l nl => ?_⟩
    have w1 := same_upd (o := .lst [.int 0]) nl
    have el : (upd H l (.lst [.int 0])) l = some (.lst [.int 0]) := upd_same
    have hq1 := w1 _ _ hq
    generalize upd H l (.lst [.int 0]) = H1 at w1 el hq1 ⊢
    refine ⟨q0, .dT kvs, hq1, True.intro, fun od => ?_⟩
    refine ⟨_, rfl, q0, od, kvs, rfl, upd_same, fun D nD => ?_⟩
    obtain ⟨Dq, D1⟩ := locked_new nD
    refine lc_it walk_itemsT (fun j H2 => Same (upd H1 q0 (.frz od (.dT kvs))) H2 ∧ ∃ ns : List Int, H2 D = some (.lst (ns.map V.int)) ∧ ns.length ≤ j ∧ ∀ n, n ∈ ns ↔ ∃ y, (z, y, n) ∈ (ents kvs).take j)
      ⟨same_upd nD, [], upd_same, Nat.le_refl _, fun n => ⟨fun h => (by cases h), fun ⟨y, h⟩ => (by simp at h)⟩⟩ (fun j H2 _ h => h.1 _ _ upd_same) ?_ ?_
    · rintro j x H2 H6 hj ⟨s5, ns, e2, ln, mem⟩ ⟨N1, kq, kk2, val, hkv, rfl, nN, hkq, rfl⟩
      obtain ⟨fx, fy, fc, rfl, rfl, hT2, hf⟩ := hT.item hkv
      have sN := same_upd (o := .tup [.ref kq, .int fc]) nN
      have e1 : (ents kvs).take (j + 1) = (ents kvs).take j ++ [(fx, fy, fc)] := by rw [List.take_succ, hf]; rfl
      refine ⟨N1, _, rfl, SqT.of upd_same, rfl, _, _, rfl, ⟨kq, _, rfl, SqT.of (sN _ _ hkq), rfl, _, _, rfl, _, _, rfl, rfl, _, _, rfl, rfl, rfl, ?_⟩⟩
      refine ⟨_, rfl, _, rfl, rfl, _, rfl, ite2 (fun e => ?_) (fun e => ?_)⟩
      · have ez : fx = z := V.str.inj (of_decide_eq_true e)
        refine ⟨_, rfl, _, sN _ _ e2, ?_, fun c o e => ?_, ns ++ [fc], ?_, ?_, fun n => ?_⟩
        · rw [List.length_map]
          omega
        · rw [upd_ne (ne_of_none e nD)]
          exact sN _ _ (s5 c o e)
        · rw [upd_same, List.map_append]
          rfl
        · rw [List.length_append]
          show _ + 1 ≤ _
          omega
        · rw [e1, List.mem_append, List.mem_singleton, mem]
          constructor
          · rintro (⟨y, h⟩ | rfl)
            · exact ⟨y, List.mem_append_left _ h⟩
            · exact ⟨fy, List.mem_append_right _ (by rw [ez]; exact List.mem_cons_self)⟩
          · rintro ⟨y, h⟩
            rcases List.mem_append.mp h with h | h
            · exact .inl ⟨y, h⟩
            · have := List.mem_singleton.mp h
              simp only [Prod.mk.injEq] at this
              exact .inr this.2.2
      · have nz : fx ≠ z := fun q => e (decide_eq_true (by rw [q]; rfl))
        refine ⟨fun c o e => sN _ _ (s5 c o e), ns, sN _ _ e2, by omega, fun n => ?_⟩
        rw [mem, e1]
        constructor
        · rintro ⟨y, h⟩
          exact ⟨y, List.mem_append_left _ h⟩
        · rintro ⟨y, h⟩
          rcases List.mem_append.mp h with h | h
          · exact ⟨y, h⟩
          · have := List.mem_singleton.mp h
            simp only [Prod.mk.injEq] at this
            exact absurd this.1.symm nz
    rintro H6 ⟨s6', ns, eD, ln, mem⟩
    rw [← ents_len, List.take_length] at mem
    refine ⟨s6' _ _ upd_same, ?_⟩
    have s6 := unlock hq1 s6'
    have eD7 : (upd H6 q0 (.dT kvs)) D = some (.lst (ns.map V.int)) := by rw [upd_ne Dq]; exact eD
    generalize upd H6 q0 (.dT kvs) = H7 at s6 eD7 ⊢
    refine ⟨l, D, _, _, rfl, rfl, s6 _ _ el, eD7, by rw [List.length_map]; show 1 + _ ≤ _; omega, fun p np => ?_⟩
    have ep : (upd H7 p (.lst ([.int 0] ++ ns.map V.int))) p = some (.lst ((0 :: ns).map V.int)) := upd_same
    have s8 := (w1.trans s6).trans (same_upd (o := .lst ([.int 0] ++ ns.map V.int)) np)
    refine ⟨p, 0 :: ns, rfl, SqL.of ep, Nat.zero_lt_succ _, fun m hm hle => q m _ ⟨hle 0 List.mem_cons_self, fun y c e => ?_, ?_⟩ s8⟩
    · exact hle c (List.mem_cons_of_mem _ ((mem c).mpr ⟨y, hT.mem.mpr e⟩))
    · rcases List.mem_cons.mp hm with h | h
      · exact .inl h
      · obtain ⟨y, hy⟩ := (mem m).mp h
        exact .inr ⟨y, hT.mem.mp hy⟩
end
theorem low_ex {kvs : List (List Key × V)} {T : M.Tb Str} (hT : TbL kvs T) (z : Str) : ∃ m, IsLow T z m := by
  have hm : ∀ c, c ∈ ((ents kvs).filter fun f => decide (f.1 = z)).map (fun f => f.2.2) ↔ ∃ y, T z y = some c := fun c => by
    rw [List.mem_map]
    constructor
    · rintro ⟨⟨a, y, d⟩, h, rfl⟩
      obtain ⟨h1, h2⟩ := List.mem_filter.mp h
      have : a = z := of_decide_eq_true h2
      subst this
      exact ⟨y, hT.mem.mp h1⟩
    · rintro ⟨y, h⟩
      exact ⟨(z, y, c), List.mem_filter.mpr ⟨hT.mem.mpr h, decide_eq_true rfl⟩, rfl⟩
  refine ⟨M.low0 (((ents kvs).filter fun f => decide (f.1 = z)).map fun f => f.2.2), M.low0_le0 _, fun y c e => M.low0_le ((hm c).mpr ⟨y, e⟩), ?_⟩
  rcases M.low0_at (((ents kvs).filter fun f => decide (f.1 = z)).map fun f => f.2.2) with h | h
  · exact .inl h
  · exact .inr ((hm _).mp h)
theorem gr_noneS {ys : List Str} {T : M.Tb Str} {L : List FaT} (lk : Lk ys T L) {u v : Str} (hu : u ∈ srcs ys) (e : lstT ys L u v = none) : grV T u v = optV none := by
  unfold grV
  by_cases z : u = v
  · rw [← z, lk.dia, if_pos hu] at e
    cases e
  · rw [if_neg z, lk.one u v z, e]
theorem gr_someS {ys : List Str} {T : M.Tb Str} {L : List FaT} (lk : Lk ys T L) {u v : Str} {g : Int} (e : lstT ys L u v = some g) : grV T u v = optV (some g) := by
  unfold grV
  by_cases z : u = v
  · rw [← z, lk.dia] at e
    rw [if_pos z]
    split at e
    · cases e
      rfl
    · cases e
  · rw [if_neg z, lk.one u v z, e]
abbrev sStartW : Stmt := inClass (top 18) 5
abbrev nSw : List Str := ["self", "x", "y", "number", "most", "table", "zero", "name"]
/-- the dict of a start -/
def startKvs (zs : List Str) (f : Str → Int) : List (Key × V) := zs.map fun z => (Sum.inr z, V.int (f z))
def spStartW (C : Addr) : Sp := fun vs H Q _ => ∃ (x : Addr) (zs : List Str) (T : M.Tb Str) (L : List FaT) (q : Str → Int) (u v : Str) (k : Int), vs = [.ref x, .str u, .str v, .int k] ∧ FacG C H x zs T ∧ zs.Nodup ∧ Lk zs T L ∧ SrcAll zs L ∧ M.Keeps L q ∧ zs.length ≤ 5 ∧ SrcIn zs u ∧ SrcIn zs v ∧
  ((∃ g, lstT zs L u v = some g ∧ g < k) → ∀ H', Same H H' → Q .non H') ∧
  ((∀ g, lstT zs L u v = some g → k ≤ g) → ∀ H' W f, Same H H' → H W = none → H' W = some (.dK (startKvs zs f)) → StartF zs L u v k f → M.Keeps L f → k ≤ f u - f v → f "" = 0 → Q (.ref W) H')
section
variable {P : Program} {w : World} {K : PySem.W.Frag} {mg : Str → Option Value} {base : Heap} {C : Addr}
theorem scSw : FnScope nSw ["self", "x", "y", "number"] (defScope sStartW) := ⟨rfl, rfl, rfl, by decide +kernel, rfl, by decide +kernel, by decide +kernel⟩
theorem small7s {n : Nat} (h : n ≤ 7) : n < sizeLine := by rw [sizeLine_eq]; omega
theorem putK_fresh {kvs : List (Key × V)} {k : Key} {v : V} (h : k ∉ kvs.map (·.1)) : putK kvs k v = kvs ++ [(k, v)] := by
  unfold putK
  rw [if_neg]
  rw [List.any_eq_true]
  rintro ⟨x, hx, e⟩
  exact h (by rw [← of_decide_eq_true e]; exact List.mem_map_of_mem hx)
theorem ok_startw {fg fb fC fO : Addr} {f : Addr} {fd fdg fdb fdC fdO : FuncData} (T : FacC K C) (F : Fun K "start_with" "Facts.start_with" sStartW f fd)
    (Mg : Meth K C "greatest" fg) (Gg : FnOk P w K mg base CX0 3 fg fdg ["self", "x", "y"] (spGr C)) (bg : Binds K fdg ["self", "x", "y"] [])
    (Mb : Meth K C "bounds" fb) (Gb : FnOk P w K mg base CX0 1 fb fdb ["self"] (spBounds C)) (bb : Binds K fdb ["self"] [])
    (GC : FnOk P w K mg base CX0 2 fC fdC ["facts"] spClosed) (bC : Binds K fdC ["facts"] []) (mC : mg "_closed" = some (.ref fC)) (kC : PySem.W.keepIn K (.ref fC) = true)
    (GO : FnOk P w K mg base CX0 1 fO fdO ["table", "source"] spLowest) (bO : Binds K fdO ["table", "source"] []) (mO : mg "_lowest" = some (.ref fO)) (kO : PySem.W.keepIn K (.ref fO) = true) :
    FnOk P w K mg base CX0 4 f fd ["self", "x", "y", "number"] (spStartW C) := by
  refine F.ok scSw (fun vs H Q E h => ?_) (fun cdv A outer s H vs Q E hr h => ?_)
  · obtain ⟨_, _, _, _, _, _, _, _, rfl, _⟩ := h
    rfl
  · obtain ⟨x, zs, T0, L, q, u, v, k, rfl, ⟨FA, ti, nm⟩, nd, lk, hin, hK, zl, su, sv, qN, qS⟩ := h
    have hu := hu_of hr
    have hr1 : Room 1 _ := hr.mono (by decide)
    have hr2 : Room 2 _ := hr.mono (by decide)
    refine ⟨_, pss_cons (ps_set (i := 4) scSw.nd rfl (.inl rfl) (pe_meth (pv 0) T.cl Mg Gg hr bg .nil pass0 (pa_cons (pv 1) (pa_cons (pv 2) pa_nil))))
      (pss_cons (ps_if (PW.pt (pw_and (pt_cmpR op_ne (pv 4) pe_str (nomark _)) (pw_and1 (pt_cmpR op_lt (pv 4) (pv 3) (nomark _))))) (pss_one (ps_ret pe_non)) pss_nil)
      (pss_cons (ps_set (i := 5) scSw.nd rfl (.inr rfl) (pe_call GC hr2 (by rfl) mC kC bC .nil pass0 (pa_cons (pe_op op_cat (pe_meth0 (pv 0) T.cl Mb Gb hr1 bb .nil pass0) (pe_lst (pa_cons (pe_tup (pa_cons (pv 2) (pa_cons (pv 1) (pa_cons (pe_un un_neg (pv 3)) pa_nil)))) pa_nil))) pa_nil)))
      (pss_cons (ps_set (i := 6) scSw.nd rfl (.inr rfl) (pe_call GO hr1 (by rfl) mO kO bO .nil pass0 (pa_cons (pv 5) (pa_cons pe_str pa_nil))))
      (pss_one (ps_ret (pe_dc (own := [("name", 7)]) (g := gName 7) (tt := tYes) rfl scSw.nd (pi_list (pe_fld (pv 0) rfl)) (blkOk_by (N := nSw) (sc := defScope sStartW) (by decide +kernel))
        (fun _ _ _ _ _ => pg_name (i := 7) scSw.nd rfl (.inl rfl)) (fun _ _ _ _ _ => pts_nil) (fun _ _ _ _ _ => pv 7)
        (fun _ _ _ _ _ => pe_op op_sub (pe_call GO (by exact hr1) (by rfl) mO kO bO .nil pass0 (pa_cons (pv 5) (pa_cons (pv 7) pa_nil))) (pv 6)))))))), ?_⟩
    rw [show L2.start nSw [V.ref x, V.str u, V.str v, V.int k] = [some (.ref x), some (.str u), some (.str v), some (.int k), none, none, none, none] from rfl]
    obtain ⟨n, dx, q0, kvs0, h1, h4, h5, h6, h7⟩ := id FA
    refine ⟨_, rfl, x, dx, _, rfl, h1, rfl, _, rfl, _, rfl, x, zs, T0, u, v, rfl, FA, su, sv, fun H1 s1 => ?_⟩
    simp only [gName, List.set_cons_zero, List.set_cons_succ]
    have grv : grV T0 u v = optV (lstT zs L u v) := by
      cases e : lstT zs L u v with
      | none => exact gr_noneS lk (src_mem.mpr su) e
      | some g => exact gr_someS lk e
    refine cutK (fun σ' H' => σ' = [some (.ref x), some (.str u), some (.str v), some (.int k), some (grV T0 u v), none, none, none] ∧ H' = H1 ∧ ∀ g, lstT zs L u v = some g → k ≤ g) ?_ (fun kk => ?_)
    · rintro σ' H' ⟨rfl, rfl, hk⟩
      refine ⟨_, rfl, x, dx, _, rfl, s1 _ _ h1, rfl, x, zs, T0, rfl, FA.same s1, ti, fun bl xs Lb H2 nbl mbl s2 ebl hIb bd => ?_⟩
      have s12 := s1.trans s2
      refine ⟨_, rfl, _, rfl, _, rfl, _, rfl, by show 3 ≤ sizeLine; decide, fun t nt => ?_⟩
      have w3 := same_upd (o := .tup [.str v, .str u, .int (-k)]) nt
      have et : (upd H2 t (.tup [.str v, .str u, .int (-k)])) t = some (.tup [.str v, .str u, .int (-k)]) := upd_same
      have ebl3 := w3 _ _ ebl
      have hI3 := hIb.same w3
      have s13 := s12.trans w3
      generalize upd H2 t (.tup [.str v, .str u, .int (-k)]) = H3 at w3 et ebl3 hI3 s13 ⊢
      refine ⟨by show 1 ≤ sizeLine; decide, fun l nl => ?_⟩
      have w4 := same_upd (o := .lst [.ref t]) nl
      have el : (upd H3 l (.lst [.ref t])) l = some (.lst [.ref t]) := upd_same
      have ebl4 := w4 _ _ ebl3
      have et4 := w4 _ _ et
      have hI4 := hI3.same w4
      have s14 := s13.trans w4
      generalize upd H3 l (.lst [.ref t]) = H4 at w4 el ebl4 et4 hI4 s14 ⊢
      have lb := bd.len
      have xl := hI4.len
      have h100 : 100 < sizeLine := by decide
      refine ⟨bl, l, _, _, rfl, rfl, ebl4, el, (by show _ + 1 ≤ _; omega), fun a na => ?_⟩
      have w5 := same_upd (o := .lst (xs ++ [.ref t])) na
      have ea : (upd H4 a (.lst (xs ++ [.ref t]))) a = some (.lst (xs ++ [.ref t])) := upd_same
      have hI5 := (hI4.snoc et4).same w5
      have s15 := s14.trans w5
      generalize upd H4 a (.lst (xs ++ [.ref t])) = H5 at w5 ea hI5 s15 ⊢
      have hinb := bd.src ti
      have hinF : SrcAll zs (Lb ++ [(v, u, -k)]) := hinb.app (.one sv su)
      have sh := lk.shut hK hin
      obtain ⟨p, hp⟩ : ∃ p, M.Keeps (Lb ++ [(v, u, -k)]) p := by
        by_cases euv : u = v
        · refine ⟨q, fun a b c hm => ?_⟩
          rcases List.mem_append.mp hm with hm | hm
          · exact (under_bds lk bd hK hin).keeps hK a b c hm
          · have := List.mem_singleton.mp hm
            simp only [Prod.mk.injEq] at this
            obtain ⟨rfl, rfl, rfl⟩ := this
            have h0 := lk.dia a
            rw [if_pos (src_mem.mpr sv)] at h0
            have := hk 0 (by rw [euv]; exact h0)
            rw [euv]
            omega
        · obtain ⟨p, h1, h2⟩ := sh.far (k := k) euv (fun g e => hk g (by rw [← lk.one u v euv]; exact e))
          refine ⟨p, fun a b c hm => ?_⟩
          rcases List.mem_append.mp hm with hm | hm
          · exact h1 a b c ((bd.mem a b c).mp hm)
          · have := List.mem_singleton.mp hm
            simp only [Prod.mk.injEq] at this
            obtain ⟨rfl, rfl, rfl⟩ := this
            omega
      refine ⟨a, _, Lb ++ [(v, u, -k)], p, "" :: zs, rfl, ea, hI5, by rw [List.length_append]; show _ + 1 ≤ _; omega, hp, fun f hf => ⟨List.mem_cons.mpr (hinF f hf).1, List.mem_cons.mpr (hinF f hf).2⟩, by rw [List.length_cons]; omega, fun qa kvs T1 Z H6 nqa s6 eqa hT cl hM => ?_⟩
      simp only [gName, List.set_cons_zero, List.set_cons_succ]
      have s16 := s15.trans s6
      have lk1 : Lk zs T1 (Lb ++ [(v, u, -k)]) := Lk.of hp hinF cl hM
      have ti1 : TIn zs T1 := TIn.of (by omega) cl hinF
      have kl : kvs.length ≤ 60 := by have := ti1.len hT; omega
      refine ⟨_, rfl, qa, "", kvs, T1, rfl, eqa, hT, kl, fun zero H7 lz s7 => ?_⟩
      simp only [gName, List.set_cons_zero, List.set_cons_succ]
      have s17 := s16.trans s7
      have eqa7 := s7 _ _ eqa
      obtain ⟨lo, hlo⟩ : ∃ lo : Str → Int, ∀ z, IsLow T1 z (lo z) := ⟨fun z => Classical.choose (low_ex hT z), fun z => Classical.choose_spec (low_ex hT z)⟩
      have e0 : zero = lo "" := lz.uniq (hlo "")
      refine ⟨_, rfl, x, C, dx, _, _, rfl, s17 _ _ h1, T.cl, T.n1, rfl, n, rfl, ⟨_, SqL.of (s17 _ _ h4)⟩, fun W nW => ?_⟩
      have nW1 : H W = none := by
        cases e : H W with
        | none => rfl
        | some o => rw [s17 _ _ e] at nW; cases nW
      refine dc_it (walk_list (K := K) (a := n) (xs := zs.map V.str)) (fun i H' => Same H7 H' ∧ H' W = some (.dK (startKvs (zs.take i) fun z => lo z - lo ""))) ⟨same_upd nW, upd_same⟩ (fun i H' _ h => SqL.of (h.1 _ _ (s17 _ _ h4))) ?_ ?_
      · rintro i y H' H8 hi ⟨s8, eW⟩ ⟨rfl, hyi⟩
        obtain ⟨z, hzi, rfl⟩ : ∃ z, zs[i]? = some z ∧ y = .str z := by
          rw [List.getElem?_map] at hyi
          cases e : zs[i]? with
          | none => rw [e] at hyi; cases hyi
          | some z => rw [e] at hyi; cases hyi; exact ⟨z, rfl, rfl⟩
        have et : zs.take (i + 1) = zs.take i ++ [z] := by rw [List.take_succ, hzi]; rfl
        have il : i < zs.length := (List.getElem?_eq_some_iff.mp hzi).1
        have fresh : (Sum.inr z : Key) ∉ (startKvs (zs.take i) fun z => lo z - lo "").map (·.1) := by
          unfold startKvs
          rw [List.map_map]
          intro h
          obtain ⟨y, hy, e⟩ := List.mem_map.mp h
          have e : y = z := Sum.inr.inj e
          subst e
          have nd2 : (zs.take i ++ [y]).Nodup := by
            rw [← et]
            exact (List.take_sublist _ _).nodup nd
          exact (List.nodup_append.mp nd2).2.2 y hy y List.mem_cons_self rfl
        refine ⟨rfl, _, rfl, _, rfl, _, rfl, qa, z, kvs, T1, rfl, s8 _ _ eqa7, hT, kl, fun m H9 lm s9 => ?_⟩
        refine ⟨_, rfl, _, _, rfl, rfl, _, Sum.inr z, rfl, s9 _ _ eW, small7s (by unfold startKvs; rw [List.length_map, List.length_take]; omega), fun c o e => ?_, ?_⟩
        · rw [upd_ne (ne_of_none e nW)]
          exact s9 _ _ (s8 c o e)
        · rw [upd_same, putK_fresh fresh, et]
          unfold startKvs
          rw [List.map_append, lm.uniq (hlo z), e0]
          rfl
      rintro H8 ⟨s8, eW⟩
      rw [List.length_map, List.take_length] at eW
      have sf : StartF zs Lb u v k (fun z => lo z - lo "") := ⟨T1, lo, lk1, hlo, fun z => rfl⟩
      obtain ⟨f1, f2, f3⟩ := sf.ok hp hinF
      have one := M.Under.refl (F := [(v, u, -k)]) (A := fun s => s ∈ srcs zs) (in_srcs (.one sv su))
      have u1 := (under_bds lk bd hK hin).app one
      have u2 := (under_bds' lk bd hK hin).app one
      have hpL := u2.keeps hp
      exact qS hk H8 W _ (s17.trans s8) nW1 eW ⟨T1, lo, lk1.swap (lst_fun u2 u1 hpL (hin.app (.one sv su)) hinF), hlo, fun z => rfl⟩ ((under_bds' lk bd hK hin).keeps f1) f2 f3
    · cases e : lstT zs L u v with
      | none =>
        rw [grv, e]
        refine ⟨_, rfl, rfl, _, rfl, iteF (kk _ _ ⟨by rw [grv, e], rfl, fun g h => by rw [e] at h; cases h⟩)⟩
      | some g =>
        rw [grv, e]
        refine ⟨_, rfl, rfl, _, rfl, iteT ⟨_, rfl, _, rfl, _, _, rfl, rfl, _, rfl, ite2 (fun h => ?_) (fun h => ?_)⟩⟩
        · exact qN ⟨g, e, of_decide_eq_true h⟩ H1 s1
        · exact kk _ _ ⟨by rw [grv, e], rfl, fun g' h' => by
            rw [e] at h'
            cases h'
            have := of_decide_eq_false (Bool.eq_false_iff.mpr h)
            omega⟩
end
end Fv


set_option Elab.async false
set_option linter.all false
set_option maxRecDepth 100000
set_option maxHeartbeats 4000000
namespace Fv
open PySem PySem.Spec PyProof.Rows L2
theorem strs_dp {K : PySem.W.Frag} {H : Hp} : ∀ {zs : List Str}, DpAll K H (zs.map V.str) (zs.map PyData.str)
  | [] => .nil
  | z :: zs => .cons (.str z) strs_dp
theorem strs_shaped {zs : List Str} (h : ∀ z ∈ zs, NmOk z) : SeqAt.shaped (.list (zs.map PyData.str)) = true := by
  unfold SeqAt.shaped
  rw [Bool.and_eq_true]
  constructor
  · show PyData.canLayAll0 (zs.map PyData.str) = true
    induction zs with
    | nil => rfl
    | cons z zs ih =>
      rw [List.map_cons]
      unfold PyData.canLayAll0
      rw [ih fun y hy => h y (List.mem_cons_of_mem _ hy), Bool.and_true]
      show PyData.strOk z = true
      unfold PyData.strOk
      rw [← Array.all_toList, List.all_eq_true]
      exact fun c hc => decide_eq_true (Nat.lt_trans (abc_small c ((h z List.mem_cons_self).2.2 c hc)) (by decide))
  · have hd : ∀ ys : List Str, PyData.depthAll (ys.map PyData.str) = 0 := by
      intro ys
      induction ys with
      | nil => rfl
      | cons y ys ih =>
        rw [List.map_cons]
        unfold PyData.depthAll
        rw [ih]
        rfl
    have e : (PyData.list (zs.map PyData.str)).depth = 1 := by
      show PyData.depthAll (zs.map PyData.str) + 1 = 1
      rw [hd]
    rw [e]
    decide
theorem strs_eqv : ∀ (zs ws : List Str), PyData.eqv (.list (zs.map PyData.str)) (.list (ws.map PyData.str)) = decide (zs = ws) := by
  intro zs
  show ∀ ws : List Str, PyData.eqvAll (zs.map PyData.str) (ws.map PyData.str) = decide (zs = ws)
  induction zs with
  | nil =>
    intro ws
    cases ws with
    | nil => rfl
    | cons w ws => rfl
  | cons z zs ih =>
    intro ws
    cases ws with
    | nil => rfl
    | cons w ws =>
      rw [List.map_cons, List.map_cons]
      unfold PyData.eqvAll
      rw [ih]
      show (decide (z = w) && decide (zs = ws)) = _
      rw [Bool.eq_iff_iff]
      simp
/-! ### a & b of an own class -/
def tBinE (C : Addr) (sp : Sp) (E : L2.St → XK) (ta tb : TE) : TE := fun σ H Q => ta σ H fun x H1 => tb σ H1 fun y H2 => ∃ (a dx : Addr) (fs : List (Str × V)) (b dy : Addr) (gs : List (Str × V)), x = .ref a ∧ y = .ref b ∧ H2 a = some (.ins C dx fs) ∧ H2 b = some (.ins C dy gs) ∧ sp [x, y] H2 (fun v H3 => (∃ p, v = .ref p) ∧ Q v H3) (E σ)
theorem pe_binE {X : Cx} {CX : CXT} {k : Nat} {C f : Addr} {fd : FuncData} {ps : List Str} {sp : Sp} {E : L2.St → XK} {op : Operator} {a b : Expr} {ta tb : TE} {pos : Pos} (F : FnOk X.prog X.w X.K X.mg X.base CX k f fd ps sp) (hc : PySem.W.selfFirst X.K C = true) (hs : PySem.W.findIn X.K (.ref C) (PySem.dunder op.info.2) = some (some (.ref f))) (hf : PySem.W.isFn X.K (.ref f) = true)
    (hr : Room k X.A) (hb : Binds X.K fd ps []) (hx : ∀ σ, PassesAt CX X σ (E σ)) (ha : PE X a ta) (hb2 : PE X b tb) : PE X (.BinOp a op b pos) (tBinE C sp E ta tb) := by
  refine ⟨fun pins s σ H Q I h => wpAny_BinOp (binT ha hb2 I h fun v u s2 x y H2 I2 rx ry q => ?_)⟩
  obtain ⟨p, dx, fs, p2, dy, gs, rfl, rfl, hp, hq, z⟩ := q
  cases rx
  cases ry
  obtain ⟨mA, J, _⟩ := ins_get I2.hok hp
  obtain ⟨od, J, _⟩ := J.look
  obtain ⟨mB, J2, _⟩ := ins_get I2.hok hq
  obtain ⟨od2, J2, _⟩ := J2.look
  obtain ⟨m, hF⟩ := I2.fr
  refine PySem.W.binop_K hF I2.ok.mod.kin J J2.type hc hs hf (wpAny_mono (run_fnS (us := [.ref p, .ref p2]) (vs := [.ref p, .ref p2]) F hr hb (hx σ) I2 (.cons rfl (.cons rfl .nil)) z) (fun w s' hq => ?_) fun _ _ z => z)
  obtain ⟨v', H', I', rz, ⟨r, rfl⟩, qq⟩ := hq
  cases rz
  exact ⟨.ref r, H', I', rfl, qq⟩
/-! ### Facts that stand, by the facts that they were made of -/
structure FM (C : Addr) (H : Hp) (x : Addr) (zs : List Str) (L : List FaT) : Prop where
  ex : ∃ T, FacG C H x zs T ∧ Lk zs T L
  nd : zs.Nodup
  so : sortedS zs = true
  src : SrcAll zs L
  kp : ∃ q, M.Keeps L q
  few : zs.length ≤ 5
theorem FM.same {C : Addr} {H H' : Hp} {x : Addr} {zs : List Str} {L : List FaT} (h : FM C H x zs L) (s : Same H H') : FM C H' x zs L := by
  obtain ⟨⟨T, g, lk⟩, r1, r2, r3, r4, r5⟩ := h
  exact ⟨⟨T, g.same s, lk⟩, r1, r2, r3, r4, r5⟩
theorem FM.kst {C : Addr} {H H' : Hp} {x : Addr} {zs : List Str} {L : List FaT} (h : FM C H x zs L) (ne : zs ≠ []) (k : Kst H H') : FM C H' x zs L := by
  obtain ⟨⟨T, g, lk⟩, r1, r2, r3, r4, r5⟩ := h
  exact ⟨⟨T, g.kst ne k, lk⟩, r1, r2, r3, r4, r5⟩
theorem FM.ins {C : Addr} {H : Hp} {x : Addr} {zs : List Str} {L : List FaT} (h : FM C H x zs L) : ∃ dx fs, H x = some (.ins C dx fs) := by
  obtain ⟨⟨T, ⟨⟨n, dx, q, kvs, h1, _⟩, _, _⟩, _⟩, _⟩ := h
  exact ⟨_, _, h1⟩
theorem fb_not {zs : List Str} {L : List FaT} {u : Str} (h : FirstBad zs L u) : ¬ ∀ f ∈ L, SrcIn zs f.1 ∧ SrcIn zs f.2.1 := fun k => by
  obtain ⟨i, f, hf, _, hu⟩ := h
  have := k f (List.mem_of_getElem? hf)
  rcases hu with hu | hu
  · exact hu.2 this.1
  · exact hu.2.2 this.2
theorem made_of {C CW CN CS : Addr} {H : Hp} {x dx n a : Addr} {zs : List Str} {xs : List V} {F : List FaT} {Q : VK} {E : XK} (hx : H x = some (.ins C dx [])) (hn : H n = some (.lst (zs.map V.str))) (nx : n ≠ x) (ha : H a = some (.lst xs)) (ax : a ≠ x) (hI : Its H xs F) (hz : ∀ z ∈ zs, NmOk z) (nd : zs.Nodup) (so : sortedS zs = true) (zl : zs.length ≤ 6) (ll : F.length ≤ 60) (hin : SrcAll zs F)
    (qS : (¬ ∃ p, M.Keeps F p) → ∀ H1, SameX x H H1 → E (.ref CS) none H1) (qO : ∀ p, M.Keeps F p → ∀ H' T, SameX x H H' → FacG C H' x zs T → Lk zs T F → Q .non H') : spMade C CW CN CS [.ref x, .ref n, .ref a] H Q E := by
  have hb : ∀ ys, H x ≠ some (.tup ys) := fun ys e => by rw [hx] at e; cases e
  refine ⟨x, dx, .ref n, .ref a, _, _, rfl, hx, .inl ⟨.list (zs.map PyData.str), .lst hn nx names_dx, ⟨by rw [List.length_map]; omega, names_ok hz⟩, rfl⟩, .inl ⟨.list (F.map faD), .lst ha ax (Its.dx hb hI), ⟨by rw [List.length_map]; exact ll, facts_ok hz hin⟩, rfl⟩, fun m hm => ?_, fun _ => ?_⟩
  · rw [names_true hz nd, facts_true hz hin] at hm
    match m, hm with
    | 0, hm => cases hm.1
    | 1, hm => cases hm.1
    | m + 2, hm =>
      have := hm.1
      simp at this
  · refine ⟨zs, F, ⟨⟨n, a, xs, rfl, rfl, nx, ax, .inl hn, .inl ha, hI⟩, hz, nd, zl, ll⟩, fun u hu => absurd hin (fb_not hu), fun _ np H1 s => qS np H1 s, fun _ hp H' ys T Z m nm perm srt fa cl hM sX => ?_⟩
    obtain ⟨p, hp⟩ := hp
    obtain rfl : ys = zs := sorted_same srt so perm (.refl _) (.refl _)
    exact qO p hp H' T sX ⟨⟨m, fa⟩, TIn.of zl (cl p hp) hin, hz⟩ (Lk.of hp hin (cl p hp) hM)
/-! ### with_fact, & -/
abbrev sWithF : Stmt := inClass (top 18) 6
abbrev sAndM : Stmt := inClass (top 18) 8
abbrev nWf : List Str := ["self", "x", "y", "c"]
abbrev nAn : List Str := ["self", "other"]
def spWithF (C CN CS : Addr) : Sp := fun vs H Q E => ∃ (x : Addr) (zs : List Str) (L : List FaT) (u v : Str) (c : Int), vs = [.ref x, .str u, .str v, .int c] ∧ FM C H x zs L ∧
  ((∃ z, Bad2 zs u v z ∧ ∀ (H1 : Hp) (dx : Addr), Same H H1 → H1 dx = none → E (.ref CN) (some dx) (upd H1 dx (.xd [("name", .str z)]))) ∨
   (SrcIn zs u ∧ SrcIn zs v ∧ ((¬ ∃ p, M.Keeps (L ++ [(u, v, c)]) p) → ∀ H1, Same H H1 → E (.ref CS) none H1) ∧ ((∃ p, M.Keeps (L ++ [(u, v, c)]) p) → ∀ H' x', Same H H' → FM C H' x' zs (L ++ [(u, v, c)]) → Q (.ref x') H')))
def spWithA (C CN : Addr) : Sp := fun vs H Q E => ∃ (x : Addr) (zs : List Str) (T : M.Tb Str) (u v z : Str) (c : Int), vs = [.ref x, .str u, .str v, .int c] ∧ FacAt C H x zs T ∧ Bad2 zs u v z ∧ ∀ (H1 : Hp) (dx : Addr), Same H H1 → H1 dx = none → E (.ref CN) (some dx) (upd H1 dx (.xd [("name", .str z)]))
def spWithB (C CS : Addr) : Sp := fun vs H Q E => ∃ (x : Addr) (zs : List Str) (L : List FaT) (u v : Str) (c : Int), vs = [.ref x, .str u, .str v, .int c] ∧ FM C H x zs L ∧ SrcIn zs u ∧ SrcIn zs v ∧
      ((¬ ∃ p, M.Keeps (L ++ [(u, v, c)]) p) → ∀ H1, Same H H1 → E (.ref CS) none H1) ∧ ((∃ p, M.Keeps (L ++ [(u, v, c)]) p) → ∀ H' x', Same H H' → FM C H' x' zs (L ++ [(u, v, c)]) → Q (.ref x') H')
/-- a Facts by its names alone -/
def NmA (C : Addr) (H : Hp) (y : Addr) (ws : List Str) : Prop := (∃ dx n q, H y = some (.ins C dx [(("_names" : Str), .ref n), (("_table" : Str), .ref q)]) ∧ H n = some (.lst (ws.map V.str))) ∧ ∀ z ∈ ws, NmOk z
theorem NmA.same {C : Addr} {H H' : Hp} {y : Addr} {ws : List Str} (h : NmA C H y ws) (s : Same H H') : NmA C H' y ws := by
  obtain ⟨⟨dx, n, q, h1, h2⟩, h3⟩ := h
  exact ⟨⟨dx, n, q, s _ _ h1, s _ _ h2⟩, h3⟩
theorem FM.nma {C : Addr} {H : Hp} {x : Addr} {zs : List Str} {L : List FaT} (h : FM C H x zs L) : NmA C H x zs := by
  obtain ⟨⟨T, ⟨⟨n, dx, q, kvs, h1, h2, _⟩, _, nm⟩, _⟩, _⟩ := h
  exact ⟨⟨_, _, _, h1, h2⟩, nm⟩
def spAndM (C CU CS : Addr) : Sp := fun vs H Q E => ∃ (x y : Addr) (zs ws : List Str) (L : List FaT), vs = [.ref x, .ref y] ∧ FM C H x zs L ∧ NmA C H y ws ∧
  ((zs ≠ ws ∧ ∀ H1, Same H H1 → E (.ref CU) none H1) ∨
   (zs = ws ∧ ∃ M', FM C H y ws M' ∧ zs.length ≤ 4 ∧ ((¬ ∃ p, M.Keeps (L ++ M') p) → ∀ H1, Same H H1 → E (.ref CS) none H1) ∧ ((∃ p, M.Keeps (L ++ M') p) → ∀ H' x', Same H H' → FM C H' x' zs (L ++ M') → Q (.ref x') H')))
section
variable {P : Program} {w : World} {K : PySem.W.Frag} {mg : Str → Option Value} {base : Heap} {C CN CS CU CW : Addr}
theorem scWf : FnScope nWf ["self", "x", "y", "c"] (defScope sWithF) := ⟨rfl, rfl, rfl, by decide +kernel, rfl, by decide +kernel, by decide +kernel⟩
theorem scAd : FnScope nAn ["self", "other"] (defScope sAndM) := ⟨rfl, rfl, rfl, by decide +kernel, rfl, by decide +kernel, by decide +kernel⟩
theorem FnOk.or {CX : CXT} {k : Nat} {f : Addr} {fd : FuncData} {ps : List Str} {sp1 sp2 : Sp} (F1 : FnOk P w K mg base CX k f fd ps sp1) (F2 : FnOk P w K mg base CX k f fd ps sp2) : FnOk P w K mg base CX k f fd ps (fun vs H Q E => sp1 vs H Q E ∨ sp2 vs H Q E) :=
  ⟨fun vs H Q E h => h.elim (F1.len vs H Q E) (F2.len vs H Q E), fun A outer s H args us vs Q E hr he hb hv h => h.elim (F1.run A outer s H args us vs Q E hr he hb hv) (F2.run A outer s H args us vs Q E hr he hb hv)⟩
theorem ok_withA {fc : Addr} {f : Addr} {fd fdc : FuncData} (T : FacC K C) (F : Fun K "with_fact" "Facts.with_fact" sWithF f fd)
    (Mc : Meth K C "_check" fc) (Gc : FnOk P w K mg base (L2.CX P w) 4 fc fdc ["self", "x", "y"] (spCheckA C CN)) (bc : Binds K fdc ["self", "x", "y"] []) :
    FnOk P w K mg base (L2.CX P w) 7 f fd ["self", "x", "y", "c"] (spWithA C CN) := by
  refine F.okX scWf (fun vs H Q E h => ?_) (fun cdv A outer s H vs Q E hr h => ?_)
  · obtain ⟨_, _, _, _, _, _, _, rfl, _⟩ := h
    rfl
  · obtain ⟨x, zs, T0, u, v, z, c, rfl, FA, bad, qE⟩ := h
    have hr4 : Room 4 _ := hr.mono (by decide)
    refine ⟨_, pss_cons (ps_expr (pe_meth (E := E) (pv 0) T.cl Mc Gc hr4 bc .nil (passes_call (W := fun cls d _ H => E cls d H) (takes_of rfl rfl rfl rfl) (fun _ _ _ _ h => h)) (pa_cons (pv 1) (pa_cons (pv 2) pa_nil)))) pss_dead, ?_⟩
    obtain ⟨n, dx, q0, kvs, h1, h4, h5, h6, h7⟩ := id FA
    exact ⟨_, rfl, x, dx, _, rfl, h1, rfl, _, rfl, _, rfl, x, zs, T0, u, v, z, rfl, FA, bad, qE⟩
theorem ok_withB {fc fb iF : Addr} {f : Addr} {fd fdc fdb fdI : FuncData} (T : FacC K C) (F : Fun K "with_fact" "Facts.with_fact" sWithF f fd)
    (Mc : Meth K C "_check" fc) (Gc : FnOk P w K mg base CX0 2 fc fdc ["self", "x", "y"] (spCheckM C)) (bc : Binds K fdc ["self", "x", "y"] [])
    (Mb : Meth K C "bounds" fb) (Gb : FnOk P w K mg base CX0 1 fb fdb ["self"] (spBounds C)) (bb : Binds K fdb ["self"] [])
    (MK : Mk K C iF) (GI : FnOk P w K mg base (L2.CX P w) 5 iF fdI ["self", "names", "facts"] (spMade C CW CN CS)) (bI : Binds K fdI ["self", "names", "facts"] []) (gC : mg "Facts" = some (.ref C)) :
    FnOk P w K mg base (L2.CX P w) 7 f fd ["self", "x", "y", "c"] (spWithB C CS) := by
  refine F.okX scWf (fun vs H Q E h => ?_) (fun cdv A outer s H vs Q E hr h => ?_)
  · obtain ⟨_, _, _, _, _, _, rfl, _⟩ := h
    rfl
  · obtain ⟨x, zs, L, u, v, c, rfl, FX, su, sv, qS, qO⟩ := h
    obtain ⟨⟨T0, ⟨FA, ti, nm⟩, lk⟩, nd, so, hin, ⟨q, hK⟩, few⟩ := FX
    have hr1 : Room 1 _ := hr.mono (by decide)
    have hr2 : Room 2 _ := hr.mono (by decide)
    refine ⟨_, pss_cons (ps_expr (pe_meth (pv 0) T.cl Mc Gc hr2 bc .nil pass0 (pa_cons (pv 1) (pa_cons (pv 2) pa_nil))))
      (pss_one (ps_ret (pe_make (E := E) MK GI hr (by rfl) gC bI (dvs := []) .nil (passes_call (W := fun cls d _ H => E cls d H) (takes_of rfl rfl rfl rfl) (fun _ _ _ _ h => h)) (pa_cons (pe_fld (pv 0) rfl)
        (pa_cons (pe_op op_cat (pe_meth0 (pv 0) T.cl Mb Gb hr1 bb .nil pass0) (pe_lst (pa_cons (pe_tup (pa_cons (pv 1) (pa_cons (pv 2) (pa_cons (pv 3) pa_nil)))) pa_nil))) pa_nil))))), ?_⟩
    obtain ⟨n, dx, q0, kvs, h1, h4, h5, h6, h7⟩ := id FA
    refine ⟨_, rfl, x, dx, _, rfl, h1, rfl, _, rfl, _, rfl, x, zs, T0, u, v, rfl, FA, su, sv, fun H1 s1 => ?_⟩
    refine ⟨_, rfl, x, C, dx, _, _, rfl, s1 _ _ h1, T.cl, T.n1, rfl, ?_⟩
    refine ⟨_, rfl, x, dx, _, rfl, s1 _ _ h1, rfl, x, zs, T0, rfl, FA.same s1, ti, fun bl xs Lb H2 nbl mbl s2 ebl hIb bd => ?_⟩
    have s12 := s1.trans s2
    refine ⟨_, rfl, _, rfl, _, rfl, by show 3 ≤ sizeLine; decide, fun t nt => ?_⟩
    have w3 := same_upd (o := .tup [.str u, .str v, .int c]) nt
    have et : (upd H2 t (.tup [.str u, .str v, .int c])) t = some (.tup [.str u, .str v, .int c]) := upd_same
    have ebl3 := w3 _ _ ebl
    have hI3 := hIb.same w3
    have s13 := s12.trans w3
    generalize upd H2 t (.tup [.str u, .str v, .int c]) = H3 at w3 et ebl3 hI3 s13 ⊢
    refine ⟨by show 1 ≤ sizeLine; decide, fun l nl => ?_⟩
    have w4 := same_upd (o := .lst [.ref t]) nl
    have el : (upd H3 l (.lst [.ref t])) l = some (.lst [.ref t]) := upd_same
    have ebl4 := w4 _ _ ebl3
    have et4 := w4 _ _ et
    have hI4 := hI3.same w4
    have s14 := s13.trans w4
    generalize upd H3 l (.lst [.ref t]) = H4 at w4 el ebl4 et4 hI4 s14 ⊢
    have lb := bd.len
    have xl := hI4.len
    have h100 : 100 < sizeLine := by decide
    refine ⟨bl, l, _, _, rfl, rfl, ebl4, el, (by show _ + 1 ≤ _; omega), fun a na => ?_⟩
    have w5 := same_upd (o := .lst (xs ++ [.ref t])) na
    have ea : (upd H4 a (.lst (xs ++ [.ref t]))) a = some (.lst (xs ++ [.ref t])) := upd_same
    have hI5 := (hI4.snoc et4).same w5
    have s15 := s14.trans w5
    generalize upd H4 a (.lst (xs ++ [.ref t])) = H5 at w5 ea hI5 s15 ⊢
    have hinF : SrcAll zs (Lb ++ [(u, v, c)]) := (bd.src ti).app (.one su sv)
    have hinL : SrcAll zs (L ++ [(u, v, c)]) := hin.app (.one su sv)
    have one := M.Under.refl (F := [(u, v, c)]) (A := fun s => s ∈ srcs zs) (in_srcs (.one su sv))
    have u1 := (under_bds lk bd hK hin).app one
    have u2 := (under_bds' lk bd hK hin).app one
    intro x' dx' nx' ndx' nxd'
    have s5 : Same H5 (upd (upd H5 dx' (.own x')) x' (.ins C dx' [])) := (same_upd ndx').trans (same_upd (by rw [upd_ne nxd'.symm]; exact nx'))
    have ex' : (upd (upd H5 dx' (.own x')) x' (.ins C dx' [])) x' = some (.ins C dx' []) := upd_same
    generalize upd (upd H5 dx' (.own x')) x' (.ins C dx' []) = H6 at s5 ex' ⊢
    have sX : ∀ {G : Hp}, SameX x' H6 G → Same H G := fun {G} k a o e => k a o (ne_of_none (s15 _ _ e) nx') (s5 _ _ (s15 _ _ e))
    refine made_of ex' (s5 _ _ (s15 _ _ h4)) (ne_of_none (s15 _ _ h4) nx') (s5 _ _ ea) (ne_of_none ea nx') (hI5.same s5) nm nd so (by omega) (by rw [List.length_append]; show _ + 1 ≤ _; omega) hinF (fun np H7 k => qS (fun ⟨p, hp⟩ => np ⟨p, u1.keeps hp⟩) H7 (sX k)) fun p hp H7 T7 k g7 lk7 => ⟨rfl, ?_⟩
    have hpL := u2.keeps hp
    exact qO ⟨p, hpL⟩ H7 x' (sX k) ⟨⟨T7, g7, lk7.swap (lst_fun u2 u1 hpL hinL hinF)⟩, nd, so, hinL, ⟨p, hpL⟩, few⟩
theorem ok_withF {f : Addr} {fd : FuncData} (F1 : FnOk P w K mg base (L2.CX P w) 7 f fd ["self", "x", "y", "c"] (spWithA C CN))
    (F2 : FnOk P w K mg base (L2.CX P w) 7 f fd ["self", "x", "y", "c"] (spWithB C CS)) :
    FnOk P w K mg base (L2.CX P w) 7 f fd ["self", "x", "y", "c"] (spWithF C CN CS) := by
  have G := FnOk.or F1 F2
  have im : ∀ vs H Q E, spWithF C CN CS vs H Q E → spWithA C CN vs H Q E ∨ spWithB C CS vs H Q E := fun vs H Q E h => by
    obtain ⟨x, zs, L, u, v, c, rfl, FX, h⟩ := h
    rcases h with ⟨z, bad, qE⟩ | ⟨su, sv, qS, qO⟩
    · obtain ⟨⟨T0, g, lk⟩, _⟩ := id FX
      exact .inl ⟨x, zs, T0, u, v, z, c, rfl, g.at_, bad, qE⟩
    · exact .inr ⟨x, zs, L, u, v, c, rfl, FX, su, sv, qS, qO⟩
  exact ⟨fun vs H Q E h => G.len vs H Q E (im vs H Q E h), fun A outer s H args us vs Q E hr he hb hv h => G.run A outer s H args us vs Q E hr he hb hv (im vs H Q E h)⟩
theorem ok_andm {fn fb iF : Addr} {f : Addr} {fd fdn fdb fdI : FuncData} (T : FacC K C) (U : Err0 K mg "Unlike" CU) (F : Fun K "__and__" "Facts.__and__" sAndM f fd)
    (Mn : Meth K C "names" fn) (Gn : FnOk P w K mg base CX0 1 fn fdn ["self"] (spNm0 C)) (bn : Binds K fdn ["self"] [])
    (Mb : Meth K C "bounds" fb) (Gb : FnOk P w K mg base CX0 1 fb fdb ["self"] (spBounds C)) (bb : Binds K fdb ["self"] [])
    (MK : Mk K C iF) (GI : FnOk P w K mg base (L2.CX P w) 5 iF fdI ["self", "names", "facts"] (spMade C CW CN CS)) (bI : Binds K fdI ["self", "names", "facts"] []) (gC : mg "Facts" = some (.ref C)) :
    FnOk P w K mg base (L2.CX P w) 7 f fd ["self", "other"] (spAndM C CU CS) := by
  refine F.okX scAd (fun vs H Q E h => ?_) (fun cdv A outer s H vs Q E hr h => ?_)
  · obtain ⟨_, _, _, _, _, rfl, _⟩ := h
    rfl
  · obtain ⟨x, y, zs, ws, L, rfl, FX, ⟨⟨dx', n', q0', h1', h4'⟩, nm'⟩, h⟩ := h
    obtain ⟨⟨T0, ⟨FA, ti, nm⟩, lk⟩, nd, so, hin, ⟨q, hK⟩, few⟩ := FX
    have hu := hr.units
    have hr1 : Room 1 _ := hr.mono (by decide)
    refine ⟨_, pss_cons (ps_if (pt_cmpR (r := rNeD K) (op_neD (by exact hu)) (pe_fld (pv 0) rfl) (pe_meth0 (pv 1) T.cl Mn Gn hr1 bn .nil pass0) (nomark _))
        (pss_one (ps_raise (W := fun cls d _ H => E cls d H) rfl (takes_of rfl rfl rfl rfl) (pmk_own0 PySem.F.excBase_ValueError U.ex U.g U.k (raises_own U.b U.t) (by rfl)))) pss_nil)
      (pss_one (ps_ret (pe_make (E := E) MK GI hr (by rfl) gC bI (dvs := []) .nil (passes_call (W := fun cls d _ H => E cls d H) (takes_of rfl rfl rfl rfl) (fun _ _ _ _ h => h)) (pa_cons (pe_fld (pv 0) rfl)
        (pa_cons (pe_op op_cat (pe_meth0 (pv 0) T.cl Mb Gb hr1 bb .nil pass0) (pe_meth0 (pv 1) T.cl Mb Gb hr1 bb .nil pass0)) pa_nil))))), ?_⟩
    obtain ⟨n, dx, q0, kvs, h1, h4, h5, h6, h7⟩ := id FA
    refine ⟨_, rfl, x, C, dx, _, _, rfl, h1, T.cl, T.n1, rfl, _, rfl, y, dx', _, rfl, h1', rfl, y, dx', n', q0', ws, rfl, h1', h4', fun l nl _ => ?_⟩
    have s1 := same_upd (o := .lst (ws.map V.str)) nl
    refine ⟨_, _, .lst (SqL.of (s1 _ _ h4)) strs_dp, .lst (SqL.of upd_same) strs_dp, strs_shaped nm, strs_shaped nm', ?_⟩
    rw [strs_eqv]
    refine ⟨_, rfl, ite2 (fun e => ?_) (fun e => ?_)⟩
    · have ne : zs ≠ ws := fun z => by rw [decide_eq_true z] at e; cases e
      rcases h with ⟨_, qU⟩ | ⟨eq, _⟩
      · exact qU _ s1
      · exact absurd eq ne
    have eq : zs = ws := by
      by_cases z : zs = ws
      · exact z
      · rw [decide_eq_false z] at e
        exact absurd rfl e
    obtain ⟨_, M', FY, z4, qS, qO⟩ := h.resolve_left fun h => h.1 eq
    subst eq
    obtain ⟨⟨T1, ⟨FB, ti', _⟩, lk'⟩, nd', so', hin', ⟨q', hK'⟩, few'⟩ := FY
    generalize upd H l (.lst (zs.map V.str)) = H1 at s1 ⊢
    refine ⟨_, rfl, x, C, dx, _, _, rfl, s1 _ _ h1, T.cl, T.n1, rfl, ?_⟩
    refine ⟨_, rfl, x, dx, _, rfl, s1 _ _ h1, rfl, x, zs, T0, rfl, FA.same s1, ti, fun bl xs Lb H2 nbl mbl s2 ebl hIb bd => ?_⟩
    have s12 := s1.trans s2
    refine ⟨_, rfl, y, dx', _, rfl, s12 _ _ h1', rfl, y, zs, T1, rfl, FB.same s12, ti', fun bl2 xs2 Lb2 H3 nbl2 mbl2 s3 ebl2 hIb2 bd2 => ?_⟩
    have s13 := s12.trans s3
    have lb := bd.few ti
    have lb2 := bd2.few ti'
    have xl := hIb.len
    have xl2 := hIb2.len
    have lim : (zs.length + 1) * (zs.length + 1) ≤ 25 := Nat.mul_le_mul (show zs.length + 1 ≤ 5 by omega) (show zs.length + 1 ≤ 5 by omega)
    have h100 : 100 < sizeLine := by decide
    refine ⟨bl, bl2, _, _, rfl, rfl, s3 _ _ ebl, ebl2, by omega, fun a na => ?_⟩
    have w5 := same_upd (o := .lst (xs ++ xs2)) na
    have ea : (upd H3 a (.lst (xs ++ xs2))) a = some (.lst (xs ++ xs2)) := upd_same
    have hI5 := ((hIb.same s3).app hIb2).same w5
    have s15 := s13.trans w5
    generalize upd H3 a (.lst (xs ++ xs2)) = H5 at w5 ea hI5 s15 ⊢
    have hinF : SrcAll zs (Lb ++ Lb2) := (bd.src ti).app (bd2.src ti')
    have hinL : SrcAll zs (L ++ M') := hin.app hin'
    have u1 := (under_bds lk bd hK hin).app (under_bds lk' bd2 hK' hin')
    have u2 := (under_bds' lk bd hK hin).app (under_bds' lk' bd2 hK' hin')
    intro x' dxn nx' ndx' nxd'
    have s5 : Same H5 (upd (upd H5 dxn (.own x')) x' (.ins C dxn [])) := (same_upd ndx').trans (same_upd (by rw [upd_ne nxd'.symm]; exact nx'))
    have ex' : (upd (upd H5 dxn (.own x')) x' (.ins C dxn [])) x' = some (.ins C dxn []) := upd_same
    generalize upd (upd H5 dxn (.own x')) x' (.ins C dxn []) = H6 at s5 ex' ⊢
    have sX : ∀ {G : Hp}, SameX x' H6 G → Same H G := fun {G} k a o e => k a o (ne_of_none (s15 _ _ e) nx') (s5 _ _ (s15 _ _ e))
    refine made_of ex' (s5 _ _ (s15 _ _ h4)) (ne_of_none (s15 _ _ h4) nx') (s5 _ _ ea) (ne_of_none ea nx') (hI5.same s5) nm nd so (by omega) (by rw [List.length_append]; omega) hinF (fun np H7 k => qS (fun ⟨p, hp⟩ => np ⟨p, u1.keeps hp⟩) H7 (sX k)) fun p hp H7 T7 k g7 lk7 => ⟨rfl, ?_⟩
    have hpL := u2.keeps hp
    exact qO ⟨p, hpL⟩ H7 x' (sX k) ⟨⟨T7, g7, lk7.swap (lst_fun u2 u1 hpL hinL hinF)⟩, nd, so, hinL, ⟨p, hpL⟩, few⟩
end
end Fv


set_option Elab.async false
set_option linter.all false
set_option maxRecDepth 100000
set_option maxHeartbeats 2000000
namespace Fv
open PySem PySem.Spec PyProof.Rows L2
/-- a list against an empty one, whatever is in it -/
def rNil (g : Bool → Bool) (K : PySem.W.Frag) : R2 := fun x y H Q => ∃ (a b : Addr) (xs : List V), x = .ref a ∧ y = .ref b ∧ SqL K H a xs ∧ SqL K H b [] ∧ Q (.bl (g xs.isEmpty)) H
section
variable {X : Cx}
theorem op_neNil (hu : X.A.units + 64 < cLine) : OpR X (compareOp .NotEq) (rNil (fun b => !b) X.K) := by
  intro pins s σ H x y v u Q I rx ry h
  obtain ⟨a, b, xs, rfl, rfl, ha, hb, q⟩ := h
  cases rx
  cases ry
  obtain ⟨us, r1, p1, _⟩ := I.list ha
  obtain ⟨ws, r2, p2, _⟩ := I.list hb
  cases r2
  cases xs with
  | nil =>
    cases r1
    exact SeqAt.RcNeAt.lists (e := fun _ => true) p1.isList p2.isList rfl (by omega) (fun j h1 _ => absurd h1 (Nat.not_lt_zero j)) X.prog X.w _ _ ⟨.bl false, H, I, rfl, q⟩
  | cons x xs =>
    have n : (us.toArray.size != ([] : List Value).toArray.size) = true := by
      rw [List.size_toArray, ← r1.length]
      rfl
    exact SeqAt.RcNeAt.lists_lengths p1.isList p2.isList n (by omega) X.prog X.w _ _ ⟨.bl true, H, I, rfl, q⟩
theorem op_eqNil (hu : X.A.units + 64 < cLine) : OpR X (compareOp .Eq) (rNil (fun b => b) X.K) := by
  intro pins s σ H x y v u Q I rx ry h
  obtain ⟨a, b, xs, rfl, rfl, ha, hb, q⟩ := h
  cases rx
  cases ry
  obtain ⟨us, r1, p1, _⟩ := I.list ha
  obtain ⟨ws, r2, p2, _⟩ := I.list hb
  cases r2
  cases xs with
  | nil =>
    cases r1
    exact SeqAt.RcAt.lists (e := fun _ => true) p1.isList p2.isList rfl (by omega) (fun j h1 _ => absurd h1 (Nat.not_lt_zero j)) X.prog X.w _ _ ⟨.bl true, H, I, rfl, q⟩
  | cons x xs =>
    have n : (us.toArray.size != ([] : List Value).toArray.size) = true := by
      rw [List.size_toArray, ← r1.length]
      rfl
    exact SeqAt.RcAt.lists_lengths p1.isList p2.isList n (by omega) X.prog X.w _ _ ⟨.bl false, H, I, rfl, q⟩
end
end Fv


set_option Elab.async false
set_option linter.all false
set_option maxRecDepth 100000
set_option maxHeartbeats 4000000
namespace Fv
open PySem PySem.Spec PyProof.Rows L2
/-! ### the law's keeps, of a start that keeps them -/
abbrev sLKeeps : Stmt := top 34
theorem startV {ys : List Str} {f : Str → Int} {z : Str} (h : z ∈ ys) : valV (startKvs ys f) (Sum.inr z) = some (.int (f z)) := by
  unfold startKvs valV
  induction ys with
  | nil => cases h
  | cons y ys ih =>
    rw [List.map_cons]
    by_cases e : y = z
    · subst e
      simp
    · rw [List.find?_cons_of_neg (by simpa using e)]
      exact ih ((List.mem_cons.mp h).resolve_left fun q => e q.symm)
theorem startK {ys : List Str} {f : Str → Int} : (startKvs ys f).map (fun kv => kV kv.1) = ys.map V.str := by
  unfold startKvs
  rw [List.map_map]
  rfl
theorem inV_strsS (z : Str) (zs : List Str) : True := trivial
def spLKeeps : Sp := fun vs H Q _ => ∃ (n a W : Addr) (zs ys : List Str) (xs : List V) (L : List FaT) (f : Str → Int), vs = [.ref n, .ref a, .ref W] ∧ H n = some (.lst (zs.map V.str)) ∧ ys.Perm zs ∧ sortedS ys = true ∧ zs.length ≤ 6 ∧ (∀ z ∈ zs, NmOk z) ∧ H a = some (.lst xs) ∧ Its H xs L ∧ L.length ≤ 60 ∧ SrcAll zs L ∧
  H W = some (.dK (startKvs ys f)) ∧ f "" = 0 ∧ M.Keeps L f ∧ ∀ H', Same H H' → Q (.bl true) H'
section
variable {P : Program} {w : World} {K : PySem.W.Frag} {mg : Str → Option Value} {base : Heap} {C : Addr}
abbrev nLk : List Str := ["_law_names_here", "_law_facts_here", "_law_thing", "_law_worth", "_law_name", "_law_one"]
theorem scLk : FnScope nLk ["_law_names_here", "_law_facts_here", "_law_thing"] (defScope sLKeeps) := ⟨rfl, rfl, rfl, by decide +kernel, rfl, by decide +kernel, by decide +kernel⟩
theorem ok_lkeeps {f : Addr} {fd : FuncData} (F : Fun K "_law_keeps" "_law_keeps" sLKeeps f fd)
    (mq : mg "isinstance" = none) (md : mg "dict" = none) (mL : mg "list" = none) (mo : mg "sorted" = none) (mi : mg "int" = none) (mb : mg "bool" = none) : FnOk P w K mg base CX0 1 f fd ["_law_names_here", "_law_facts_here", "_law_thing"] spLKeeps := by
  refine F.ok scLk (fun vs H Q E h => ?_) (fun cdv A outer s H vs Q E hr h => ?_)
  · obtain ⟨_, _, _, _, _, _, _, _, rfl, _⟩ := h
    rfl
  · obtain ⟨n, a, W, zs, ys, xs, L, ff, rfl, hn, pm, so, zl, nm, ha, hI, ll, src, eW0, f0, hkp, q⟩ := h
    have hu := hu_of hr
    have hru := hr.units
    refine ⟨_, pss_cons (ps_if (PW.pt (pw_or (pt_not (pt_val (pe_callB call_isi (by rfl) mq (by decide +kernel) (pa_cons (pv 2) (pa_cons (pe_bltn (v := .ty "dict") (by rfl) md boot_dict rfl) pa_nil)))))
          (pw_or1 (pt_cmpR (op_neD hru) (pe_callTy (call_listD rfl) (by rfl) mL boot_list (pa_cons (pv 2) pa_nil)) (pe_callB (r := rSortB K) call_sortB (by rfl) mo (by decide +kernel) (pa_cons (pv 0) pa_nil)) (nomark _)))))
        pss_dead pss_nil)
      (pss_cons (ps_set (i := 3) scLk.nd rfl (.inr rfl) (pe_disp (pps_cons pe_str pe_int pps_nil) rfl rfl (by simp) (by decide)))
      (pss_cons (ps_for PassesOwn.never rfl (pi_list (pv 0)) (pg_name (i := 4) scLk.nd rfl (.inl rfl))
        (pss_cons (ps_if (PW.pt (pw_or (pt_not (pt_val (pe_callB call_isi (by rfl) mq (by decide +kernel) (pa_cons (pe_dget hu (pv 2) (pv 4) (fun _ _ => rfl)) (pa_cons (pe_bltn (v := .ty "int") (by rfl) mi (by decide +kernel) rfl) pa_nil)))))
            (pw_or1 (pt_val (pe_callB call_isi (by rfl) mq (by decide +kernel) (pa_cons (pe_dget hu (pv 2) (pv 4) (fun _ _ => rfl)) (pa_cons (pe_bltn (v := .ty "bool") (by rfl) mb (by decide +kernel) rfl) pa_nil)))))))
          pss_dead pss_nil)
        (pss_one (ps_dput hu (pv 3) (pv 4) (pe_dget hu (pv 2) (pv 4) (fun _ _ => rfl)) rfl))))
      (pss_one (ps_ret (pe_cmpR (op_eqNil (by exact hru)) (pe_lc (own := [("_law_one", 5)]) (g := gName 5) rfl scLk.nd (pi_list (pv 1)) (blkOk_by (N := nLk) (sc := defScope sLKeeps) (by decide +kernel))
          (fun _ _ _ _ _ => pg_name (i := 5) scLk.nd rfl (.inl rfl))
          (fun _ _ _ _ _ => pts_one (pt_cmpR op_gt (pe_op op_sub (pe_dget (by exact hu) (pv 3) (pe_ix (r := rIxT K) ix_tup (pv 5) pe_int (fun _ _ => rfl)) (fun _ _ => rfl)) (pe_dget (by exact hu) (pv 3) (pe_ix (r := rIxT K) ix_tup (pv 5) pe_int (fun _ _ => rfl)) (fun _ _ => rfl))) (pe_ix (r := rIxT K) ix_tup (pv 5) pe_int (fun _ _ => rfl)) (nomark _)))
          (fun _ _ _ _ _ => pv 5)) (pe_lst pa_nil) (nomark _)))))), ?_⟩
    rw [show L2.start nLk [V.ref n, V.ref a, V.ref W] = [some (.ref n), some (.ref a), some (.ref W), none, none, none] from rfl]
    have nm' : ∀ y ∈ ys, NmOk y := fun y hy => nm y (pm.mem_iff.mp hy)
    refine ⟨_, rfl, _, _, _, _, true, rfl, .ty "dict", .base (.dK eW0), kit_ty (show kitB "dict" "dict" = some true by decide +kernel), _, rfl, iteF ?_⟩
    refine ⟨_, rfl, W, _, rfl, .inl eW0, fun p np => ?_⟩
    have w0 := same_upd (o := .lst ((startKvs ys ff).map fun kv => kV kv.1)) np
    have ep : (upd H p (.lst ((startKvs ys ff).map fun kv => kV kv.1))) p = some (.lst (ys.map V.str)) := by rw [upd_same, startK]
    generalize upd H p (.lst ((startKvs ys ff).map fun kv => kV kv.1)) = H0 at w0 ep ⊢
    refine ⟨_, rfl, n, zs, rfl, .inl (SqL.of (w0 _ _ hn)), by omega, fun ys2 r perm2 srt2 nr _ => ?_⟩
    obtain rfl : ys2 = ys := sorted_same srt2 so perm2 pm (.refl _)
    have w1 := w0.trans (same_upd (o := .lst (ys2.map V.str)) nr)
    refine ⟨_, _, .lst (SqL.of ((same_upd nr) _ _ ep)) strs_dp, .lst (SqL.of upd_same) strs_dp, strs_shaped nm', strs_shaped nm', ?_⟩
    rw [strs_eqv, decide_eq_true rfl]
    refine ⟨_, rfl, iteF ?_⟩
    generalize upd H0 r (.lst (ys2.map V.str)) = H1 at w1 ⊢
    refine fun M0 nM => ⟨upd_same, [(Sum.inr "", .int 0)], rfl, by decide, ?_⟩
    have s1 : Same H (upd (upd H1 M0 (.dK [])) M0 (.dK (mergeK [] [(Sum.inr "", V.int 0)]))) := fun c o e => by
      rw [upd_ne (ne_of_none (w1 _ _ e) nM), upd_ne (ne_of_none (w1 _ _ e) nM)]
      exact w1 _ _ e
    have e1 : (upd (upd H1 M0 (.dK [])) M0 (.dK (mergeK [] [(Sum.inr "", V.int 0)]))) M0 = some (.dK [(Sum.inr "", V.int 0)]) := upd_same
    have nMH : H M0 = none := by
      cases e : H M0 with
      | none => rfl
      | some o => rw [w1 _ _ e] at nM; cases nM
    generalize upd (upd H1 M0 (.dK [])) M0 (.dK (mergeK [] [(Sum.inr "", V.int 0)])) = H2 at s1 e1 ⊢
    clear w1 w0
    simp only [gName, List.set_cons_zero, List.set_cons_succ]
    refine ⟨_, rfl, n, rfl, ⟨_, SqL.of (s1 _ _ hn)⟩, ?_⟩
    refine for_list (K := K) (a := n) (xs := zs.map V.str) (fun i σ H' => ∃ y4 : Option V, σ = [some (.ref n), some (.ref a), some (.ref W), some (.ref M0), y4, none] ∧ Same H H' ∧
        ∃ kvs : List (Key × V), H' M0 = some (.dK kvs) ∧ kvs.length ≤ i + 1 ∧ valV kvs (Sum.inr "") = some (.int 0) ∧ ∀ z ∈ zs.take i, valV kvs (Sum.inr z) = some (.int (ff z)))
      ⟨none, rfl, s1, _, e1, Nat.le_refl _, rfl, fun z hz => by simp at hz⟩ (fun i σ H' _ h => by
        obtain ⟨_, _, s', _⟩ := h
        exact SqL.of (s' _ _ hn)) ?_ ?_
    · rintro i y σ H' hyi ⟨y4, rfl, s', kvs, eM, lk, k0, hk⟩
      obtain ⟨z, hzi, rfl⟩ : ∃ z, zs[i]? = some z ∧ y = .str z := by
        rw [List.getElem?_map] at hyi
        cases e : zs[i]? with
        | none => rw [e] at hyi; cases hyi
        | some z => rw [e] at hyi; cases hyi; exact ⟨z, rfl, rfl⟩
      have hz := List.mem_of_getElem? hzi
      have et : zs.take (i + 1) = zs.take i ++ [z] := by rw [List.take_succ, hzi]; rfl
      simp only [gName, List.set_cons_zero, List.set_cons_succ]
      have gv : ∀ {G : Hp}, Same H G → DGet G W (.str z) (some (.int (ff z))) := fun {G} s => by
        have h := DGet.k (k := Sum.inr z) (s _ _ eW0)
        rw [startV (pm.mem_iff.mpr hz)] at h
        exact h
      refine ⟨_, rfl, _, rfl, W, .int (ff z), rfl, gv s', _, _, _, _, true, rfl, .ty "int", .base (.int _), kit_ty (show kitB "int" "int" = some true by decide +kernel), _, rfl, iteF ?_⟩
      refine ⟨_, rfl, _, rfl, W, .int (ff z), rfl, gv s', _, _, _, _, false, rfl, .ty "bool", .base (.int _), kit_ty (show kitB "int" "bool" = some false by decide +kernel), _, rfl, iteF ?_⟩
      have zne : z ≠ "" := fun q => by
        have := (nm z hz).1
        rw [q] at this
        exact absurd this (by decide +kernel)
      refine ⟨_, rfl, _, rfl, W, .int (ff z), rfl, gv s', _, rfl, _, rfl, M0, _, rfl, DPut.k (k := Sum.inr z) eM (small60 (by have := (List.getElem?_eq_some_iff.mp hzi).1; omega)), ?_⟩
      refine ⟨_, rfl, fun c o e => ?_, _, upd_same, Nat.le_trans (putKK_le _ _ _) (by omega), ?_, fun y hy => ?_⟩
      · rw [upd_ne (ne_of_none e nMH)]
        exact s' c o e
      · rw [valV_put, if_neg (fun q => zne (Sum.inr.inj q).symm), k0]
      · rw [valV_put]
        by_cases e : y = z
        · rw [if_pos (by rw [e]), e]
        · rw [if_neg (fun q => e (Sum.inr.inj q))]
          rw [et] at hy
          rcases List.mem_append.mp hy with h | h
          · exact hk y h
          · exact absurd (List.mem_singleton.mp h) e
    · rintro σ H' ⟨y4, rfl, s', kvs, eM, lk, k0, hk⟩
      rw [List.length_map] at lk hk
      rw [List.take_length] at hk
      have look : ∀ u, SrcIn zs u → valV kvs (Sum.inr u) = some (.int (ff u)) := fun u hu2 => by
        rcases hu2 with e | hm
        · rw [e, k0, f0]
        · exact hk u hm
      refine ⟨_, rfl, a, rfl, ⟨_, SqL.of (s' _ _ ha)⟩, fun D nD => ?_⟩
      refine lc_it (walk_list (K := K) (a := a) (xs := xs)) (fun i H2 => Same H' H2 ∧ H2 D = some (.lst []))
        ⟨same_upd nD, upd_same⟩ (fun i H2 _ h => SqL.of (h.1 _ _ (s' _ _ ha))) ?_ ?_
      · rintro i y H2 H3 hi ⟨s2, eD⟩ ⟨rfl, hyi⟩
        obtain ⟨⟨fx, fy, fc⟩, hf, t, rfl, ht⟩ := hI.at_ i y hyi
        obtain ⟨sx, sy⟩ := src _ (List.mem_of_getElem? hf)
        have ht3 := s2 _ _ (s' _ _ ht)
        have eM3 := s2 _ _ eM
        refine ⟨rfl, ?_⟩
        refine ⟨_, rfl, _, rfl, t, _, _, _, rfl, rfl, SqT.of ht3, atI_nat (j := 0) rfl, M0, .int (ff fx), rfl, by have h := DGet.k (k := Sum.inr fx) eM3; rw [look fx sx] at h; exact h, ?_⟩
        refine ⟨_, rfl, _, rfl, t, _, _, _, rfl, rfl, SqT.of ht3, atI_nat (j := 1) rfl, M0, .int (ff fy), rfl, by have h := DGet.k (k := Sum.inr fy) eM3; rw [look fy sy] at h; exact h, ?_⟩
        refine ⟨_, _, rfl, rfl, _, rfl, t, _, _, _, rfl, rfl, SqT.of ht3, atI_nat (j := 2) rfl, _, _, rfl, rfl, _, rfl, ite2 (fun e => ?_) (fun e => ⟨s2, eD⟩)⟩
        have := hkp fx fy fc (List.mem_of_getElem? hf)
        have lt : fc < ff fx - ff fy := of_decide_eq_true e
        exact absurd this (by omega)
      · rintro H2 ⟨s2, eD⟩
        refine ⟨Nat.zero_le _, fun l0 n0 => ?_⟩
        have s3 := same_upd (o := .lst []) n0
        exact ⟨D, l0, [], rfl, rfl, SqL.of (s3 _ _ eD), SqL.of upd_same, q _ ((s'.trans s2).trans s3)⟩
end
end Fv


set_option Elab.async false
set_option linter.all false
set_option maxRecDepth 100000
set_option maxHeartbeats 4000000
namespace Fv
open PySem PySem.Spec PyProof.Rows L2
/-! ### a start that is told is right -/
abbrev sStartR : Stmt := top 35
abbrev nSr : List Str := ["_law_facts_here", "_law_names_here", "_law_told", "_law_x", "_law_y", "_law_number_here", "_law_bound", "_law_found", "_law_one", "_law_two"]
/-- the names and the facts at hand -/
structure NF (H : Hp) (n a : Addr) (zs ys : List Str) (xs : List V) (L : List FaT) : Prop where
  hn : H n = some (.lst (zs.map V.str))
  pm : ys.Perm zs
  nm : ∀ z ∈ zs, NmOk z
  ha : H a = some (.lst xs)
  hI : Its H xs L
  ll : L.length ≤ 60
theorem NF.same {H H' : Hp} {n a : Addr} {zs ys : List Str} {xs : List V} {L : List FaT} (h : NF H n a zs ys xs L) (s : Same H H') : NF H' n a zs ys xs L := ⟨s _ _ h.hn, h.pm, h.nm, s _ _ h.ha, h.hI.same s, h.ll⟩
theorem SrcAll.perm {zs ys : List Str} {L : List FaT} (h : SrcAll ys L) (p : ys.Perm zs) : SrcAll zs L := fun f hf => ⟨(h f hf).1.imp id p.mem_iff.mp, (h f hf).2.imp id p.mem_iff.mp⟩
def spStartR (C : Addr) : Sp := fun vs H Q _ => ∃ (x n a : Addr) (zs ys : List Str) (xs : List V) (L : List FaT) (u v : Str) (k : Int), vs = [.ref x, .ref n, .ref a, .str u, .str v, .int k] ∧ FM C H x ys L ∧ NF H n a zs ys xs L ∧ SrcIn ys u ∧ SrcIn ys v ∧ ∀ H', Same H H' → Q (.bl true) H'
theorem FM.insN {C : Addr} {H : Hp} {x : Addr} {zs : List Str} {L : List FaT} (h : FM C H x zs L) : ∃ dx n q, H x = some (.ins C dx [(("_names" : Str), .ref n), (("_table" : Str), .ref q)]) := by
  obtain ⟨⟨T, ⟨⟨n, dx, q, kvs, h1, _⟩, _, _⟩, _⟩, _⟩ := h
  exact ⟨_, _, _, h1⟩
/-- the number of a source: 0 of "", else out of the dict -/
def tNumAt (i j : Nat) : TE := fun σ H Q => ∃ (z : Str) (W : Addr) (ys : List Str) (f : Str → Int), σ[i]? = some (some (.str z)) ∧ σ[j]? = some (some (.ref W)) ∧ H W = some (.dK (startKvs ys f)) ∧ SrcIn ys z ∧ f "" = 0 ∧ Q (.int (f z)) H
theorem num_ite {H : Hp} {W : Addr} {ys : List Str} {f : Str → Int} {z : Str} {Q : VK} {B : Prop} (e3 : H W = some (.dK (startKvs ys f))) (e4 : SrcIn ys z) (e5 : f "" = 0) (q : Q (.int (f z)) H) (k : ∀ v, DGet H W (.str z) (some v) → Q v H → B) : if decide (V.str z = V.str ("" : Str)) = true then Q (.int 0) H else B := by
  refine ite2 (fun e => ?_) (fun e => ?_)
  · have e := V.str.inj (of_decide_eq_true e)
    rw [e, e5] at q
    exact q
  · refine k _ ?_ q
    have h := DGet.k (k := Sum.inr z) e3
    rw [startV (e4.resolve_left fun q => e (decide_eq_true (by rw [q])))] at h
    exact h
section
variable {P : Program} {w : World} {K : PySem.W.Frag} {mg : Str → Option Value} {base : Heap} {C : Addr}
theorem scSr : FnScope nSr ["_law_facts_here", "_law_names_here", "_law_told", "_law_x", "_law_y", "_law_number_here"] (defScope sStartR) := ⟨rfl, rfl, rfl, by decide +kernel, rfl, by decide +kernel, by decide +kernel⟩
theorem ok_startr {f fC fs fk : Addr} {fd fdC fds fdk : FuncData} (T : FacC K C) (F : Fun K "_law_start_right" "_law_start_right" sStartR f fd)
    (GC : FnOk P w K mg base CX0 1 fC fdC ["_law_names_here", "_law_facts_here"] spLClosed) (bC : Binds K fdC ["_law_names_here", "_law_facts_here"] []) (mC : mg "_law_closed" = some (.ref fC)) (kC : PySem.W.keepIn K (.ref fC) = true)
    (Ms : Meth K C "start_with" fs) (Gs : FnOk P w K mg base CX0 4 fs fds ["self", "x", "y", "number"] (spStartW C)) (bs : Binds K fds ["self", "x", "y", "number"] [])
    (Gk : FnOk P w K mg base CX0 1 fk fdk ["_law_names_here", "_law_facts_here", "_law_thing"] spLKeeps) (bk : Binds K fdk ["_law_names_here", "_law_facts_here", "_law_thing"] []) (mk : mg "_law_keeps" = some (.ref fk)) (kk : PySem.W.keepIn K (.ref fk) = true)
    (mo : mg "sorted" = none) (md : mg "dict" = none) : FnOk P w K mg base CX0 5 f fd ["_law_facts_here", "_law_names_here", "_law_told", "_law_x", "_law_y", "_law_number_here"] (spStartR C) := by
  refine F.ok scSr (fun vs H Q E h => ?_) (fun cdv A outer s H vs Q E hr h => ?_)
  · obtain ⟨_, _, _, _, _, _, _, _, _, _, rfl, _⟩ := h
    rfl
  · obtain ⟨x, n, a, zs, ys, xs, L, u, v, k, rfl, FX, N, su, sv, q⟩ := h
    have hu := hu_of hr
    have hr1 : Room 1 _ := hr.mono (by decide)
    refine ⟨_, pss_cons (ps_set (i := 6) scSr.nd rfl (.inl rfl) (pe_call GC hr1 (by rfl) mC kC bC .nil pass0 (pa_cons (pe_callB (r := rSortB K) call_sortB (by rfl) mo (by decide +kernel) (pa_cons (pv 1) pa_nil)) (pa_cons (pv 2) pa_nil))))
      (pss_cons (ps_set (i := 7) scSr.nd rfl (.inl rfl) (pe_meth (pv 0) T.cl Ms Gs hr bs .nil pass0 (pa_cons (pv 3) (pa_cons (pv 4) (pa_cons (pv 5) pa_nil)))))
      (pss_cons (ps_if (PW.pt (pw_and (pt_cmp (pc_din hu (pe_tup (pa_cons (pv 3) (pa_cons (pv 4) pa_nil))) (pv 6))) (pw_and1 (pt_cmpR op_lt (pe_dget hu (pv 6) (pe_tup (pa_cons (pv 3) (pa_cons (pv 4) pa_nil))) (fun _ _ => rfl)) (pv 5) (nomark _)))))
        (pss_one (ps_ret (pe_cmpR op_isN (pv 7) pe_non (nomark _)))) pss_nil)
      (pss_cons (ps_if (PW.pt (pw_or (pt_cmpR op_isN (pv 7) pe_non (nomark _)) (pw_or1 (pt_not (pt_val (pe_call Gk hr1 (by rfl) mk kk bk .nil pass0 (pa_cons (pv 1) (pa_cons (pv 2) (pa_cons (pv 7) pa_nil))))))))) pss_dead pss_nil)
      (pss_cons (ps_par (i := 8) (j := 9) (by rfl) scSr.nd rfl rfl (by decide) rfl rfl (pa_cons (pe_imp (t' := tNumAt 3 7) (pe_ifExp (pt_cmpR op_eq (pv 3) pe_str (nomark _)) pe_int (pe_dget hu (pv 7) (pv 3) (fun _ _ => rfl))) (fun σ H Q ⟨z, W, ys, f, e1, e2, e3, e4, e5, q⟩ => ⟨_, e1, rfl, _, rfl, num_ite e3 e4 e5 q fun v hv q => ⟨_, e2, _, e1, W, v, rfl, hv, q⟩⟩)) (pa_cons (pe_imp (t' := tNumAt 4 7) (pe_ifExp (pt_cmpR op_eq (pv 4) pe_str (nomark _)) pe_int (pe_dget hu (pv 7) (pv 4) (fun _ _ => rfl))) (fun σ H Q ⟨z, W, ys, f, e1, e2, e3, e4, e5, q⟩ => ⟨_, e1, rfl, _, rfl, num_ite e3 e4 e5 q fun v hv q => ⟨_, e2, _, e1, W, v, rfl, hv, q⟩⟩)) pa_nil)) (by rfl))
      (pss_cons (ps_if (pt_cmpR (op_ne_dictA hr.units0) (pe_meth (pv 0) T.cl Ms Gs hr bs .nil pass0 (pa_cons (pv 3) (pa_cons (pv 4) (pa_cons (pv 5) pa_nil)))) (pe_callTy call_dictD (by rfl) md boot_dict (pa_cons (pv 7) pa_nil)) (nomark _)) pss_dead pss_nil)
      (pss_cons (ps_dput hu (pv 7) pe_str pe_int rfl)
      (pss_one (ps_ret (pe_cmpR op_ge (pe_op op_sub (pv 8) (pv 9)) (pv 5) (nomark _)))))))))), ?_⟩
    rw [show L2.start nSr [V.ref x, V.ref n, V.ref a, V.str u, V.str v, V.int k] = [some (.ref x), some (.ref n), some (.ref a), some (.str u), some (.str v), some (.int k), none, none, none, none] from rfl]
    have few := FX.few
    have zl : zs.length ≤ 5 := by rw [← N.pm.length_eq]; exact few
    refine ⟨_, rfl, n, zs, rfl, .inl (SqL.of N.hn), by omega, fun ys2 r perm2 srt2 nr _ => ?_⟩
    obtain rfl : ys2 = ys := sorted_same srt2 FX.so perm2 N.pm (.refl _)
    have w1 := same_upd (o := .lst (ys2.map V.str)) nr
    have er : (upd H r (.lst (ys2.map V.str))) r = some (.lst (ys2.map V.str)) := upd_same
    generalize upd H r (.lst (ys2.map V.str)) = H1 at w1 er ⊢
    refine ⟨_, rfl, r, a, ys2, xs, L, rfl, er, w1 _ _ N.ha, N.hI.same w1, by omega, FX.src, fun qa kvs H2 nqa s2 eqa hT => ?_⟩
    have w2 := w1.trans s2
    simp only [gName, List.set_cons_zero, List.set_cons_succ]
    have FX2 := FX.same w2
    obtain ⟨dx, m0, m1, ex2⟩ := FX2.insN
    obtain ⟨⟨T0, g0, lk0⟩, nd0, so0, src0, ⟨p0, hK0⟩, few0⟩ := id FX2
    refine ⟨_, rfl, x, dx, _, rfl, ex2, rfl, _, rfl, _, rfl, _, rfl, x, ys2, T0, L, p0, u, v, k, rfl, g0, nd0, lk0, src0, hK0, few0, su, sv, (fun ⟨g, eg, lt⟩ H3 s3 => ?_), (fun hk H3 W ff s3 nW eW sf hkp hge f0 => ?_)⟩
    · simp only [gName, List.set_cons_zero, List.set_cons_succ]
      refine ⟨_, rfl, _, rfl, by show 2 ≤ sizeLine; decide, fun t nt => ?_⟩
      have w4 := same_upd (o := .tup [.str u, .str v]) nt
      refine ⟨_, rfl, qa, _, rfl, DGet.t (k := kP u v) (w4 _ _ (s3 _ _ eqa)) upd_same, ?_⟩
      have vg : valV kvs (kP u v) = some (.int g) := (hT.val u v).trans (congrArg (Option.map V.int) eg)
      rw [vg]
      refine ⟨_, rfl, iteT ?_⟩
      refine ⟨_, rfl, _, rfl, _, rfl, by show 2 ≤ sizeLine; decide, fun t2 nt2 => ?_⟩
      have w5 := w4.trans (same_upd (o := .tup [.str u, .str v]) nt2)
      refine ⟨qa, .int g, rfl, by have h := DGet.t (k := kP u v) (w5 _ _ (s3 _ _ eqa)) upd_same; rw [vg] at h; exact h, ?_⟩
      refine ⟨_, rfl, _, _, rfl, rfl, _, rfl, ?_⟩
      rw [decide_eq_true lt]
      exact iteT ⟨_, rfl, rfl, q _ ((w2.trans s3).trans w5)⟩
    · simp only [gName, List.set_cons_zero, List.set_cons_succ]
      have w3 := w2.trans s3
      refine cutK (fun σ' H' => σ' = [some (.ref x), some (.ref n), some (.ref a), some (.str u), some (.str v), some (.int k), some (.ref qa), some (.ref W), none, none] ∧ Same H3 H') ?_ (fun k2 => ?_)
      · rintro σ' H4 ⟨rfl, s4⟩
        have eW4 := s4 _ _ eW
        have w4 := w3.trans s4
        refine ⟨_, rfl, rfl, _, rfl, iteF ?_⟩
        have N4 := N.same w4
        refine ⟨_, rfl, _, rfl, _, rfl, n, a, W, zs, ys2, xs, L, ff, rfl, N4.hn, N4.pm, FX.so, by omega, N4.nm, N4.ha, N4.hI, N4.ll, FX.src.perm N4.pm, eW4, f0, hkp, fun H5 s5 => ⟨_, rfl, iteF ?_⟩⟩
        have w5 := w4.trans s5
        have eW5 := s5 _ _ eW4
        refine ⟨u, W, ys2, ff, rfl, rfl, eW5, su, f0, v, W, ys2, ff, rfl, rfl, eW5, sv, f0, _, _, rfl, ?_⟩
        simp only [gName, List.set_cons_zero, List.set_cons_succ]
        have FX5 := FX.same w5
        have ex5 := s5 _ _ (s4 _ _ (s3 _ _ ex2))
        refine ⟨_, rfl, x, dx, _, rfl, ex5, rfl, _, rfl, _, rfl, _, rfl, x, ys2, T0, L, p0, u, v, k, rfl, g0.same (s3.trans (s4.trans s5)), nd0, lk0, src0, hK0, few0, su, sv, (fun ⟨g, eg, lt⟩ _ _ => absurd (hk g eg) (by omega)), (fun _ H6 W2 f2 s6 nW2 eW2 sf2 _ _ _ => ?_)⟩
        obtain rfl := sf2.uniq sf
        have eW6 := s6 _ _ eW5
        refine ⟨_, rfl, W, _, rfl, .inl eW6, fun p np => ?_⟩
        have w7 := same_upd (o := .dK (startKvs ys2 f2)) np
        refine ⟨W2, p, _, _, rfl, rfl, w7 _ _ eW2, upd_same, rfl, fun pr hp => ?_, _, rfl, iteF ?_⟩
        · unfold startKvs at hp
          obtain ⟨z, hz, rfl⟩ := List.mem_map.mp hp
          exact ⟨startV hz, rfl⟩
        have w06 := (w5.trans s6).trans w7
        have eW7 := w7 _ _ eW6
        generalize upd H6 p (.dK (startKvs ys2 f2)) = H7 at w06 eW7 ⊢
        refine ⟨_, rfl, W, _, rfl, DPut.k (k := Sum.inr "zzzzzzzz") eW7 (by unfold startKvs; rw [List.length_map]; exact small60 (by omega)), ?_⟩
        refine ⟨_, rfl, _, rfl, _, _, rfl, rfl, _, rfl, _, _, rfl, rfl, ?_⟩
        have e1 : decide (f2 u - f2 v ≥ k) = true := decide_eq_true hge
        have e2 : Same H (upd H7 W (.dK (putK (startKvs ys2 f2) (Sum.inr "zzzzzzzz") (V.int 5)))) := fun c o e => by
          have nWH : H W = none := by
            cases e : H W with
            | none => rfl
            | some o => rw [w2 _ _ e] at nW; cases nW
          rw [upd_ne (ne_of_none e nWH)]
          exact w06 _ _ e
        have := q _ e2
        rw [← e1] at this
        exact this
      · refine ⟨_, rfl, _, rfl, by show 2 ≤ sizeLine; decide, fun t nt => ?_⟩
        have w4 := same_upd (o := .tup [.str u, .str v]) nt
        refine ⟨_, rfl, qa, _, rfl, DGet.t (k := kP u v) (w4 _ _ (s3 _ _ eqa)) upd_same, ?_⟩
        rw [hT.val]
        cases eg : M.rounds (srcs ys2) L (ys2.length + 2) (M.diag (srcs ys2)) u v with
        | none => exact ⟨_, rfl, iteF (k2 _ _ ⟨rfl, w4⟩)⟩
        | some g =>
          refine ⟨_, rfl, iteT ?_⟩
          have vg : valV kvs (kP u v) = some (.int g) := by rw [hT.val, eg]; rfl
          refine ⟨_, rfl, _, rfl, _, rfl, by show 2 ≤ sizeLine; decide, fun t2 nt2 => ?_⟩
          have w5 := w4.trans (same_upd (o := .tup [.str u, .str v]) nt2)
          refine ⟨qa, .int g, rfl, by have h := DGet.t (k := kP u v) (w5 _ _ (s3 _ _ eqa)) upd_same; rw [vg] at h; exact h, ?_⟩
          refine ⟨_, rfl, _, _, rfl, rfl, _, rfl, ?_⟩
          rw [decide_eq_false (show ¬ g < k from by have := hk g eg; omega)]
          exact iteF (k2 _ _ ⟨rfl, w5⟩)
end
end Fv


/-! own sums: a start, or what goes round below 0 (pure) -/
namespace Fv.M
set_option linter.unusedSectionVars false
variable {S : Type} [DecidableEq S]
/-- a start, or what goes round below 0 -/
theorem start_or_neg {F : Fa S} {V : List S} (hF : ∀ x y c, (x, y, c) ∈ F → x ∈ V ∧ y ∈ V) : (∃ p, Keeps F p) ∨ Neg F V V.length := by
  by_cases h : Neg F V V.length
  · exact .inr h
  refine .inl ⟨fun x => low0 (V.filterMap (rounds V F V.length (diag V) x)), fun x y c hm => ?_⟩
  have least : ∀ {x y c n}, Wk F (fun s => s ∈ V) x y c n → ∃ g, rounds V F V.length (diag V) x y = some g ∧ g ≤ c := fun w => by
    rcases alt V.length V (Nat.le_refl _) w with ⟨c', n', ws, hc, hn⟩ | hneg
    · obtain ⟨g, hg, hl⟩ := rounds_least ws
      obtain ⟨j, hj⟩ : ∃ j, V.length = n' + j := ⟨V.length - n', by omega⟩
      obtain ⟨g2, hg2, hl2⟩ := rounds_up (V := V) (F := F) (diag V) n' j _ _ _ hg
      exact ⟨g2, by rw [hj]; exact hg2, by omega⟩
    · exact absurd hneg h
  obtain ⟨hx, hy⟩ := hF _ _ _ hm
  show low0 (V.filterMap (rounds V F V.length (diag V) x)) - low0 (V.filterMap (rounds V F V.length (diag V) y)) ≤ c
  rcases low0_at (V.filterMap (rounds V F V.length (diag V) y)) with e | e
  · obtain ⟨g, hg, hl⟩ := least (Wk.cons hm hx (.nil hy))
    have := low0_le (l := V.filterMap (rounds V F V.length (diag V) x)) (List.mem_filterMap.2 ⟨y, hy, hg⟩)
    omega
  · obtain ⟨z, hz, ez⟩ := List.mem_filterMap.1 e
    obtain ⟨n, w⟩ := rounds_there (fun x y c m => (hF x y c m).1) _ _ _ _ ez
    obtain ⟨g, hg, hl⟩ := least (Wk.cons hm hx w)
    have := low0_le (l := V.filterMap (rounds V F V.length (diag V) x)) (List.mem_filterMap.2 ⟨z, hz, hg⟩)
    omega
/-- a point's own sum -/
theorem own_sum {F : Fa S} {V : List S} {k : Nat} {z : S} (hz : z ∈ V) : ∃ g, rounds V F k (diag V) z z = some g ∧ g ≤ 0 := by
  obtain ⟨g, hg, hl⟩ := rounds_up (V := V) (F := F) (diag V) 0 k z z 0 (by show diag V z z = some 0; unfold diag; rw [if_pos ⟨rfl, hz⟩])
  exact ⟨g, by rw [Nat.zero_add] at hg; exact hg, hl⟩
/-- no own sum is below 0 just where a start is -/
theorem own_iff {F : Fa S} {V : List S} {k : Nat} (hk : V.length ≤ k) (hF : ∀ x y c, (x, y, c) ∈ F → x ∈ V ∧ y ∈ V) : (∃ p, Keeps F p) ↔ ∀ z ∈ V, ∀ g, rounds V F k (diag V) z z = some g → ¬ g < 0 := by
  constructor
  · rintro ⟨p, K⟩ z hz g e
    have := same0 K hF hk hz
    rw [this] at e
    cases e
    omega
  · intro h
    rcases start_or_neg hF with p | ⟨x, c, n, w, hc, _⟩
    · exact p
    · obtain ⟨z, hz, g, hg, hl⟩ := rounds_neg hk w hc
      exact absurd hl (h z hz g hg)
end Fv.M


set_option Elab.async false
set_option linter.all false
set_option maxRecDepth 100000
set_option maxHeartbeats 4000000
namespace Fv
open PySem PySem.Spec PyProof.Rows L2
/-! ### the law's row of bounds -/
/-- in front of: by the first, then by the second source -/
def Bef (f g : FaT) : Prop := (leS f.1 g.1 ∧ f.1 ≠ g.1) ∨ (f.1 = g.1 ∧ leS f.2.1 g.2.1 ∧ f.2.1 ≠ g.2.1)
theorem eqv_str (x y : Str) : PyData.eqv (.str x) (.str y) = decide (x = y) := rfl
theorem Bef.le {f g : FaT} (h : Bef f g) : leD (faD f) (faD g) = true := by
  unfold leD faD
  rw [PySem.W.dataLt_tuple]
  rcases h with ⟨h1, h2⟩ | ⟨h1, h2, h3⟩
  · rw [PySem.W.dataLt_all_no rfl (by rw [eqv_str, decide_eq_false fun e => h2 e.symm]), PySem.W.dataLt_str, decide_eq_false h1]
    rfl
  · rw [PySem.W.dataLt_all_yes rfl (by rw [eqv_str, decide_eq_true h1.symm]), PySem.W.dataLt_all_no rfl (by rw [eqv_str, decide_eq_false fun e => h3 e.symm]), PySem.W.dataLt_str, decide_eq_false h2]
    rfl
theorem Bef.ne {f g : FaT} (h : Bef f g) : (f.1, f.2.1) ≠ (g.1, g.2.1) := fun e => by
  simp only [Prod.mk.injEq] at e
  rcases h with ⟨_, h⟩ | ⟨_, _, h⟩
  · exact h e.1
  · exact h e.2
theorem empty_le (z : Str) : leS "" z := by
  unfold leS
  rw [List.not_lt]
  exact List.nil_le _
theorem srcs_pw {ys : List Str} (so : sortedS ys = true) (nd : ys.Nodup) (nm : ∀ z ∈ ys, NmOk z) : (srcs ys).Pairwise fun a b => leS a b ∧ a ≠ b := by
  refine List.pairwise_cons.mpr ⟨fun z hz => ⟨empty_le z, fun e => ?_⟩, (sorted_pw so).and nd⟩
  have := (nm z hz).1
  rw [← e] at this
  exact absurd this (by decide +kernel)
/-- what the law's row has of one source -/
def rowOf (T : M.Tb Str) (V : List Str) (x : Str) : List FaT := V.filterMap fun y => if x = y then none else (T x y).map fun c => (x, y, c)
def allOf (T : M.Tb Str) (V W : List Str) : List FaT := W.flatMap (rowOf T V)
theorem rowOf_mem {T : M.Tb Str} {V : List Str} {x a b : Str} {c : Int} : (a, b, c) ∈ rowOf T V x ↔ a = x ∧ b ∈ V ∧ x ≠ b ∧ T x b = some c := by
  unfold rowOf
  rw [List.mem_filterMap]
  constructor
  · rintro ⟨y, hy, e⟩
    by_cases h : x = y
    · rw [if_pos h] at e
      cases e
    · rw [if_neg h, Option.map_eq_some_iff] at e
      obtain ⟨d, hd, e⟩ := e
      simp only [Prod.mk.injEq] at e
      obtain ⟨rfl, rfl, rfl⟩ := e
      exact ⟨rfl, hy, h, hd⟩
  · rintro ⟨rfl, hb, h, e⟩
    exact ⟨b, hb, by rw [if_neg h, e]; rfl⟩
theorem rowOf_pw {T : M.Tb Str} {x : Str} : ∀ {V : List Str}, (V.Pairwise fun a b => leS a b ∧ a ≠ b) → (rowOf T V x).Pairwise Bef
  | [], _ => .nil
  | y :: V, h => by
    obtain ⟨h1, h2⟩ := List.pairwise_cons.mp h
    unfold rowOf
    rw [List.filterMap_cons]
    by_cases e : x = y
    · rw [if_pos e]
      exact rowOf_pw h2
    · rw [if_neg e]
      cases T x y with
      | none => exact rowOf_pw h2
      | some c =>
        refine List.pairwise_cons.mpr ⟨fun g hg => ?_, rowOf_pw h2⟩
        obtain ⟨a, b, d⟩ := g
        obtain ⟨rfl, hb, _, _⟩ := rowOf_mem.mp hg
        exact .inr ⟨rfl, h1 b hb⟩
theorem allOf_pw {T : M.Tb Str} {V : List Str} (hV : V.Pairwise fun a b => leS a b ∧ a ≠ b) : ∀ {W : List Str}, (W.Pairwise fun a b => leS a b ∧ a ≠ b) → (allOf T V W).Pairwise Bef
  | [], _ => .nil
  | x :: W, h => by
    obtain ⟨h1, h2⟩ := List.pairwise_cons.mp h
    unfold allOf
    rw [List.flatMap_cons]
    refine List.pairwise_append.mpr ⟨rowOf_pw hV, allOf_pw hV h2, fun f hf g hg => ?_⟩
    obtain ⟨a, b, c⟩ := f
    obtain ⟨rfl, _, _, _⟩ := rowOf_mem.mp hf
    obtain ⟨z, hz, hg⟩ := List.mem_flatMap.mp hg
    obtain ⟨a', b', c'⟩ := g
    obtain ⟨rfl, _, _, _⟩ := rowOf_mem.mp hg
    exact .inl (h1 _ hz)
theorem allOf_few {T : M.Tb Str} {V W : List Str} : (allOf T V W).length ≤ W.length * V.length := by
  induction W with
  | nil => exact Nat.zero_le _
  | cons x W ih =>
    unfold allOf at ih ⊢
    rw [List.flatMap_cons, List.length_append, List.length_cons, Nat.add_mul]
    have : (rowOf T V x).length ≤ V.length := List.length_filterMap_le ..
    omega
theorem allOf_bds {ys : List Str} {T : M.Tb Str} {L : List FaT} {q : Str → Int} (lk : Lk ys T L) (hK : M.Keeps L q) (hin : SrcAll ys L) (so : sortedS ys = true) (nd : ys.Nodup) (nm : ∀ z ∈ ys, NmOk z) (few : ys.length ≤ 5) : Bds T (allOf (lstT ys L) (srcs ys) (srcs ys)) := by
  have pw := srcs_pw so nd nm
  have pb := allOf_pw (T := lstT ys L) pw pw
  refine ⟨fun x y c => ?_, ?_, ?_, ?_⟩
  · constructor
    · intro h
      obtain ⟨z, hz, hg⟩ := List.mem_flatMap.mp h
      obtain ⟨rfl, hb, ne, e⟩ := rowOf_mem.mp hg
      rw [lk.one _ _ ne]
      exact e
    · intro e
      have ne := lk.ne e
      obtain ⟨n, w⟩ := lk.walk hK hin e
      refine List.mem_flatMap.mpr ⟨x, w.at0, rowOf_mem.mpr ⟨rfl, w.at1, ne, ?_⟩⟩
      rw [← lk.one _ _ ne]
      exact e
  · exact List.pairwise_map.mpr (pb.imp fun h => h.ne)
  · exact List.pairwise_map.mpr (pb.imp fun h => h.le)
  · have := allOf_few (T := lstT ys L) (V := srcs ys) (W := srcs ys)
    have e : (srcs ys).length ≤ 6 := Nat.succ_le_succ few
    have := Nat.mul_le_mul e e
    omega
theorem Bds.uniq {T : M.Tb Str} {L M' : List FaT} (h : Bds T L) (k : Bds T M') : L = M' := by
  have nd1 : L.Nodup := List.Pairwise.of_map _ (fun a b n z => n (by rw [z])) h.nd
  have nd2 : M'.Nodup := List.Pairwise.of_map _ (fun a b n z => n (by rw [z])) k.nd
  have p : L.Perm M' := (List.perm_ext_iff_of_nodup nd1 nd2).mpr fun f => by
    obtain ⟨x, y, c⟩ := f
    rw [h.mem, k.mem]
  refine pw_uniq (R := fun f g => leD (faD f) (faD g) = true) (List.pairwise_map.mp h.so) (List.pairwise_map.mp k.so) p fun f _ g _ h1 h2 => ?_
  have e := leD_anti h1 h2
  obtain ⟨a, b, c⟩ := f
  obtain ⟨a', b', c'⟩ := g
  have e : PySem.W.keyToks (.tuple [.str a, .str b, .int c]) = PySem.W.keyToks (.tuple [.str a', .str b', .int c']) := e
  simp only [PySem.W.keyToks, PySem.W.keyToksAll, List.cons_append, List.nil_append, List.cons.injEq, Sum.inr.injEq, Sum.inl.injEq, true_and, and_true] at e
  rw [PySem.W.str_of_cps e.1, PySem.W.str_of_cps e.2.1, e.2.2]
end Fv


set_option Elab.async false
set_option linter.all false
set_option maxRecDepth 100000
set_option maxHeartbeats 4000000
namespace Fv
open PySem PySem.Spec PyProof.Rows L2
abbrev sLBounds : Stmt := top 36
abbrev nLb : List Str := ["_law_names_here", "_law_told", "_law_bound", "_law_found", "_law_x", "_law_y"]
/-- [""] + sorted(names) -/
def tSrcs (i : Nat) : TE := fun σ H Q => ∃ (n : Addr) (zs ys : List Str), σ[i]? = some (some (.ref n)) ∧ H n = some (.lst (zs.map V.str)) ∧ ys.Perm zs ∧ sortedS ys = true ∧ ys.length ≤ 6 ∧ ∀ l3 H2, Same H H2 → H2 l3 = some (.lst ((srcs ys).map V.str)) → Q (.ref l3) H2
theorem srcs_imp {K : PySem.W.Frag} {σ : L2.St} {H : Hp} {Q : VK} {i : Nat} (h : tSrcs i σ H Q) : tOp rCat (tLst (tCons (tC (.str "")) tNil)) (tCB (rSortB K) (tCons (tVar i) tNil)) σ H Q := by
  obtain ⟨n, zs, ys, e0, hn, pm, so, few, q⟩ := h
  have zl : zs.length ≤ 6 := by rw [← pm.length_eq]; exact few
  refine ⟨by show 1 ≤ sizeLine; decide, fun l1 nl1 => ?_⟩
  have u1 := same_upd (o := .lst [.str ("" : Str)]) nl1
  refine ⟨_, e0, n, zs, rfl, .inl (SqL.of (u1 _ _ hn)), by omega, fun ys2 l2 perm2 srt2 nl2 wl2 => ?_⟩
  obtain rfl : ys2 = ys := sorted_same srt2 so perm2 pm (.refl _)
  have u2 := u1.trans (same_upd (o := .lst (ys2.map V.str)) nl2)
  have el1 : (upd (upd H l1 (.lst [.str ("" : Str)])) l2 (.lst (ys2.map V.str))) l1 = some (.lst [.str ("" : Str)]) := by rw [upd_ne (ne_of_none upd_same nl2)]; exact upd_same
  refine ⟨l1, l2, _, _, rfl, rfl, el1, upd_same, ?_, fun l3 nl3 => ?_⟩
  · rw [List.length_map]
    exact small_line (by rw [show ([V.str ("" : Str)]).length = 1 from rfl]; omega)
  · exact q l3 _ (u2.trans (same_upd (o := .lst ([.str ("" : Str)] ++ ys2.map V.str)) nl3)) upd_same
def spLBounds : Sp := fun vs H Q _ => ∃ (n a : Addr) (zs ys : List Str) (xs : List V) (L : List FaT), vs = [.ref n, .ref a] ∧ NF H n a zs ys xs L ∧ sortedS ys = true ∧ ys.length ≤ 5 ∧ SrcAll ys L ∧
  ((¬ ∃ p, M.Keeps L p) → ∀ H', Same H H' → Q .non H') ∧
  ((∃ p, M.Keeps L p) → ∀ H' p us, Same H H' → H p = none → p ≠ sysModules → H' p = some (.lst us) → Its H' us (allOf (lstT ys L) (srcs ys) (srcs ys)) → Q (.ref p) H')
section
variable {P : Program} {w : World} {K : PySem.W.Frag} {mg : Str → Option Value} {base : Heap} {C : Addr}
theorem scLb : FnScope nLb ["_law_names_here", "_law_told"] (defScope sLBounds) := ⟨rfl, rfl, rfl, by decide +kernel, rfl, by decide +kernel, by decide +kernel⟩
theorem ok_lbounds {f fC : Addr} {fd fdC : FuncData} (F : Fun K "_law_bounds" "_law_bounds" sLBounds f fd)
    (GC : FnOk P w K mg base CX0 1 fC fdC ["_law_names_here", "_law_facts_here"] spLClosed) (bC : Binds K fdC ["_law_names_here", "_law_facts_here"] []) (mC : mg "_law_closed" = some (.ref fC)) (kC : PySem.W.keepIn K (.ref fC) = true)
    (mo : mg "sorted" = none) : FnOk P w K mg base CX0 2 f fd ["_law_names_here", "_law_told"] spLBounds := by
  refine F.ok scLb (fun vs H Q E h => ?_) (fun cdv A outer s H vs Q E hr h => ?_)
  · obtain ⟨_, _, _, _, _, _, rfl, _⟩ := h
    rfl
  · obtain ⟨n, a, zs, ys, xs, L, rfl, N, so, few, hin, qN, qO⟩ := h
    have hu := hu_of hr
    refine ⟨_, pss_cons (ps_asg (pe_tup (pa_cons (pe_call GC hr (by rfl) mC kC bC .nil pass0 (pa_cons (pe_callB (r := rSortB K) call_sortB (by rfl) mo (by decide +kernel) (pa_cons (pv 0) pa_nil)) (pa_cons (pv 1) pa_nil))) (pa_cons (pe_lstB pa_nil) pa_nil)))
        (pg_tup (by rfl) (pgs_cons (pg_name (i := 2) scLb.nd rfl (.inr rfl)) (pgs_cons (pg_name (i := 3) scLb.nd rfl (.inl rfl)) pgs_nil))))
      (pss_cons (ps_for PassesOwn.never rfl (pi_list (pe_imp (t' := tSrcs 0) (pe_op op_cat (pe_lst (pa_cons pe_str pa_nil)) (pe_callB (r := rSortB K) call_sortB (by rfl) mo (by decide +kernel) (pa_cons (pv 0) pa_nil))) (fun σ H Q h => srcs_imp h))) (pg_name (i := 4) scLb.nd rfl (.inr rfl))
        (pss_cons (ps_if (pt_cmpR op_lt (pe_dget hu (pv 2) (pe_tup (pa_cons (pv 4) (pa_cons (pv 4) pa_nil))) (fun _ _ => rfl)) pe_int (nomark _)) (pss_one (ps_ret pe_non)) pss_nil)
        (pss_one (ps_aug (i := 3) scLb.nd rfl (.inl rfl) (pe_lc (own := [("_law_y", 5)]) (g := gName 5) rfl scLb.nd (pi_list (pe_imp (t' := tSrcs 0) (pe_op op_cat (pe_lst (pa_cons pe_str pa_nil)) (pe_callB (r := rSortB K) call_sortB (by rfl) mo (by decide +kernel) (pa_cons (pv 0) pa_nil))) (fun σ H Q h => srcs_imp h))) (blkOk_by (N := nLb) (sc := defScope sLBounds) (by decide +kernel))
          (fun _ _ _ _ _ => pg_name (i := 5) scLb.nd rfl (.inl rfl))
          (fun _ _ _ _ _ => pts_one (PW.pt (pw_and (pt_cmpR op_ne (pv 4) (pv 5) (nomark _)) (pw_and1 (pt_cmp (pc_din (by exact hu) (pe_tup (pa_cons (pv 4) (pa_cons (pv 5) pa_nil))) (pv 2)))))))
          (fun _ _ _ _ _ => pe_tup (pa_cons (pv 4) (pa_cons (pv 5) (pa_cons (pe_dget (by exact hu) (pv 2) (pe_tup (pa_cons (pv 4) (pa_cons (pv 5) pa_nil))) (fun _ _ => rfl)) pa_nil))))) iop_ext))))
      (pss_one (ps_ret (pv 3)))), ?_⟩
    rw [show L2.start nLb [V.ref n, V.ref a] = [some (.ref n), some (.ref a), none, none, none, none] from rfl]
    have zl : zs.length ≤ 5 := by rw [← N.pm.length_eq]; exact few
    have h100 : 100 < sizeLine := by decide
    refine ⟨_, rfl, n, zs, rfl, .inl (SqL.of N.hn), by omega, fun ys2 r perm2 srt2 nr _ => ?_⟩
    obtain rfl : ys2 = ys := sorted_same srt2 so perm2 N.pm (.refl _)
    have w1 := same_upd (o := .lst (ys2.map V.str)) nr
    have er : (upd H r (.lst (ys2.map V.str))) r = some (.lst (ys2.map V.str)) := upd_same
    generalize upd H r (.lst (ys2.map V.str)) = H1 at w1 er ⊢
    refine ⟨_, rfl, r, a, ys2, xs, L, rfl, er, w1 _ _ N.ha, N.hI.same w1, by omega, hin, fun qa kvs H2 nqa s2 eqa hT => ?_⟩
    have w2 := w1.trans s2
    refine ⟨Nat.zero_le _, fun p np mp => ?_⟩
    have w3 := w2.trans (same_upd (o := .lst []) np)
    have ep : (upd H2 p (.lst [])) p = some (.lst []) := upd_same
    have qap : qa ≠ p := ne_of_none eqa np
    have nap : n ≠ p := ne_of_none (w2 _ _ N.hn) np
    have pH : H p = none := by
      cases e : H p with
      | none => rfl
      | some o => rw [w2 _ _ e] at np; cases np
    have eqa3 := (same_upd (o := .lst []) np) _ _ eqa
    generalize upd H2 p (.lst []) = H3 at w3 ep eqa3 ⊢
    refine ⟨by show 2 ≤ sizeLine; omega, fun t nt => ?_⟩
    have w4' := same_upd (o := .tup [.ref qa, .ref p]) nt
    have et : (upd H3 t (.tup [.ref qa, .ref p])) t = some (.tup [.ref qa, .ref p]) := upd_same
    have w4 := w3.trans w4'
    have ep4 := w4' _ _ ep
    have eqa4 := w4' _ _ eqa3
    generalize upd H3 t (.tup [.ref qa, .ref p]) = H4 at w4 et ep4 eqa4 ⊢
    refine ⟨t, _, rfl, SqT.of et, rfl, _, _, rfl, _, _, rfl, rfl, ?_⟩
    simp only [gName, List.set_cons_zero, List.set_cons_succ]
    refine ⟨n, zs, ys2, rfl, w4 _ _ N.hn, N.pm, so, by omega, fun l3 H5 s5 el3 => ?_⟩
    have w5 := w4.trans s5
    have ep5 := s5 _ _ ep4
    have eqa5 := s5 _ _ eqa4
    have l3p : l3 ≠ p := fun z => by
      rw [z, ep5] at el3
      cases el3
    have sl : (srcs ys2).length = ys2.length + 1 := rfl
    have iff_ := M.own_iff (F := L) (k := ys2.length + 2) (show (srcs ys2).length ≤ _ by omega) (in_srcs hin)
    have own := fun z (hz : z ∈ srcs ys2) => M.own_sum (F := L) (k := ys2.length + 2) hz
    have hT : TbL kvs (lstT ys2 L) := hT
    have iff_ : (∃ p, M.Keeps L p) ↔ ∀ z ∈ srcs ys2, ∀ g, lstT ys2 L z z = some g → ¬ g < 0 := iff_
    have own : ∀ z ∈ srcs ys2, ∃ g, lstT ys2 L z z = some g ∧ g ≤ 0 := own
    generalize hTT : lstT ys2 L = TT at hT iff_ own
    rw [hTT] at qO
    have sX : ∀ {G : Hp}, SameX p H5 G → Same H G := fun {G} k c o e => k c o (ne_of_none e pH) (w5 _ _ e)
    refine ⟨l3, rfl, ⟨_, SqL.of el3⟩, ?_⟩
    refine for_list (K := K) (a := l3) (xs := (srcs ys2).map V.str) (fun i σ H' => ∃ y4 : Option V, σ = [some (.ref n), some (.ref a), some (.ref qa), some (.ref p), y4, none] ∧ SameX p H5 H' ∧ (∃ us, H' p = some (.lst us) ∧ Its H' us (allOf TT (srcs ys2) ((srcs ys2).take i))) ∧ ∀ z ∈ (srcs ys2).take i, ∀ g, TT z z = some g → ¬ g < 0)
      ⟨none, rfl, fun _ _ _ e => e, ⟨[], ep5, Its.nil⟩, fun z hz => by simp at hz⟩ (fun i σ H' _ h => by
        obtain ⟨_, _, s', _⟩ := h
        exact SqL.of (s' _ _ l3p el3)) ?_ ?_
    · rintro i y σ H' hyi ⟨y4, rfl, s', ⟨us, eus, hus⟩, hdia⟩
      obtain ⟨z, hzi, rfl⟩ : ∃ z, (srcs ys2)[i]? = some z ∧ y = .str z := by
        rw [List.getElem?_map] at hyi
        cases e : (srcs ys2)[i]? with
        | none => rw [e] at hyi; cases hyi
        | some z => rw [e] at hyi; cases hyi; exact ⟨z, rfl, rfl⟩
      have hz := List.mem_of_getElem? hzi
      have et : (srcs ys2).take (i + 1) = (srcs ys2).take i ++ [z] := by rw [List.take_succ, hzi]; rfl
      have il : i < (srcs ys2).length := (List.getElem?_eq_some_iff.mp hzi).1
      simp only [gName, List.set_cons_zero, List.set_cons_succ]
      obtain ⟨g, eg, _⟩ := own z hz
      have eq' := s' _ _ qap eqa5
      refine ⟨_, rfl, _, rfl, _, rfl, by show 2 ≤ sizeLine; omega, fun t1 nt1 => ?_⟩
      have w6 := same_upd (o := .tup [.str z, .str z]) nt1
      have vg : valV kvs (kP z z) = some (.int g) := (hT.val z z).trans (congrArg (Option.map V.int) eg)
      refine ⟨qa, .int g, rfl, by have h := DGet.t (k := kP z z) (w6 _ _ eq') upd_same; rw [vg] at h; exact h, ?_⟩
      have s6 : SameX p H5 (upd H' t1 (.tup [.str z, .str z])) := fun c o n e => w6 _ _ (s' c o n e)
      have eus6 := w6 _ _ eus
      have hus6 := hus.same w6
      have eq6 := w6 _ _ eq'
      generalize upd H' t1 (.tup [.str z, .str z]) = H6 at s6 eus6 hus6 eq6 ⊢
      refine ⟨_, _, rfl, rfl, _, rfl, ite2 (fun e => ?_) (fun e => ?_)⟩
      · have lt : g < 0 := of_decide_eq_true e
        exact qN (fun hp => (iff_.mp hp) z hz g eg lt) _ (sX s6)
      · have nl : ¬ g < 0 := fun q => e (decide_eq_true q)
        refine ⟨_, rfl, n, zs, ys2, rfl, s6 _ _ nap (w5 _ _ N.hn), N.pm, so, by omega, fun l4 H7 s7 el4 => ⟨l4, rfl, ⟨_, SqL.of el4⟩, fun D nD => ?_⟩⟩
        have eq7 := s7 _ _ eq6
        refine lc_it (walk_list (K := K) (a := l4) (xs := (srcs ys2).map V.str)) (fun j G => Same H7 G ∧ ∃ vs, G D = some (.lst vs) ∧ Its G vs (rowOf TT ((srcs ys2).take j) z)) ⟨same_upd nD, [], upd_same, Its.nil⟩ (fun j G _ h => SqL.of (h.1 _ _ el4)) ?_ ?_
        · rintro j x G G2 hj ⟨s8, vs, evs, hvs⟩ ⟨rfl, hxj⟩
          obtain ⟨u, huj, rfl⟩ : ∃ u, (srcs ys2)[j]? = some u ∧ x = .str u := by
            rw [List.getElem?_map] at hxj
            cases e : (srcs ys2)[j]? with
            | none => rw [e] at hxj; cases hxj
            | some z => rw [e] at hxj; cases hxj; exact ⟨z, rfl, rfl⟩
          have jl : j < (srcs ys2).length := (List.getElem?_eq_some_iff.mp huj).1
          have ej : rowOf TT ((srcs ys2).take (j + 1)) z = rowOf TT ((srcs ys2).take j) z ++ rowOf TT [u] z := by
            unfold rowOf
            rw [← List.filterMap_append, List.take_succ, huj]
            rfl
          have vl : vs.length ≤ j := by
            rw [hvs.len]
            refine Nat.le_trans (List.length_filterMap_le ..) ?_
            rw [List.length_take]
            omega
          refine ⟨rfl, _, rfl, _, rfl, rfl, _, rfl, ite2 (fun e => ?_) (fun e => ?_)⟩
          · have ne : z ≠ u := fun q => by simp [q] at e
            refine ⟨_, rfl, _, rfl, by show 2 ≤ sizeLine; omega, fun t2 nt2 => ?_⟩
            have w9 := same_upd (o := .tup [.str z, .str u]) nt2
            refine ⟨_, rfl, qa, _, rfl, DGet.t (k := kP z u) (w9 _ _ (s8 _ _ eq7)) upd_same, ?_⟩
            rw [hT.val]
            cases eT : TT z u with
            | none =>
              have er : rowOf TT [u] z = [] := by unfold rowOf; rw [List.filterMap_cons_none (by rw [if_neg ne, eT]; rfl), List.filterMap_nil]
              exact ⟨_, rfl, iteF ⟨s8.trans w9, vs, w9 _ _ evs, by rw [ej, er, List.append_nil]; exact hvs.same w9⟩⟩
            | some c =>
              have er : rowOf TT [u] z = [(z, u, c)] := by unfold rowOf; rw [List.filterMap_cons_some (b := (z, u, c)) (by rw [if_neg ne, eT]; rfl), List.filterMap_nil]
              have vc : valV kvs (kP z u) = some (.int c) := (hT.val z u).trans (congrArg (Option.map V.int) eT)
              refine ⟨_, rfl, iteT ⟨_, rfl, _, rfl, _, rfl, _, rfl, _, rfl, by show 2 ≤ sizeLine; omega, fun t3 nt3 => ?_⟩⟩
              have w10 := w9.trans (same_upd (o := .tup [.str z, .str u]) nt3)
              refine ⟨qa, .int c, rfl, by have h := DGet.t (k := kP z u) (w10 _ _ (s8 _ _ eq7)) upd_same; rw [vc] at h; exact h, ?_⟩
              refine ⟨by show 3 ≤ sizeLine; omega, fun t4 nt4 => ?_⟩
              have w11 := w10.trans (same_upd (o := .tup [.str z, .str u, .int c]) nt4)
              refine ⟨vs, w11 _ _ evs, by omega, fun c o e => ?_, vs ++ [.ref t4], upd_same, ?_⟩
              · rw [upd_ne (ne_of_none e nD)]
                exact w11 _ _ (s8 c o e)
              · rw [ej, er]
                have tD : t4 ≠ D := fun q => by
                  have := w10 _ _ evs
                  rw [← q, nt4] at this
                  cases this
                refine ((hvs.same w11).samT fun t ys e => ?_).snoc (by rw [upd_ne tD]; exact upd_same)
                rw [upd_ne fun q => by rw [q, w11 _ _ evs] at e; cases e]
                exact e
          · have eu : z = u := by
              by_cases q : z = u
              · exact q
              · exact absurd (by simp [q]) e
            have er : rowOf TT [u] z = [] := by unfold rowOf; rw [List.filterMap_cons_none (by rw [if_pos eu]), List.filterMap_nil]
            exact ⟨s8, vs, evs, by rw [ej, er, List.append_nil]; exact hvs⟩
        · rintro G ⟨s8, vs, evs, hvs⟩
          rw [List.length_map, List.take_length] at hvs
          have s78 := s7.trans s8
          have eus8 := s78 _ _ eus6
          have ul := hus.len
          have vl := hvs.len
          have l1 : (allOf TT (srcs ys2) ((srcs ys2).take i)).length ≤ 36 := by
            refine Nat.le_trans allOf_few ?_
            rw [List.length_take]
            exact Nat.le_trans (Nat.mul_le_mul (show min i _ ≤ 6 by omega) (show (srcs ys2).length ≤ 6 by omega)) (by decide)
          have l2 : (rowOf TT (srcs ys2) z).length ≤ 6 := Nat.le_trans (List.length_filterMap_le ..) (by omega)
          refine ⟨p, D, us, vs, rfl, rfl, eus8, evs, by omega, ?_⟩
          simp only [gName, List.set_cons_zero, List.set_cons_succ]
          refine ⟨_, rfl, fun c o n e => ?_, ⟨us ++ vs, upd_same, ?_⟩, fun y hy g' e' => ?_⟩
          · rw [upd_ne n]
            exact s78 _ _ (s6 c o n e)
          · have ea : allOf TT (srcs ys2) ((srcs ys2).take (i + 1)) = allOf TT (srcs ys2) ((srcs ys2).take i) ++ rowOf TT (srcs ys2) z := by
              unfold allOf
              rw [et, List.flatMap_append, List.flatMap_singleton]
            rw [ea]
            refine ((hus6.same s78).app hvs).samT fun t ys e => ?_
            rw [upd_ne fun q => by rw [q, eus8] at e; cases e]
            exact e
          · rw [et] at hy
            rcases List.mem_append.mp hy with hy | hy
            · exact hdia y hy g' e'
            · rw [List.mem_singleton.mp hy, eg] at e'
              cases e'
              exact nl
    · rintro σ H' ⟨y4, rfl, s', ⟨us, eus, hus⟩, hdia⟩
      rw [List.length_map, List.take_length] at hus hdia
      exact ⟨_, rfl, qO (iff_.mpr hdia) H' p us (sX s') pH mp eus hus⟩
end
end Fv


set_option Elab.async false
set_option linter.all false
set_option maxRecDepth 100000
set_option maxHeartbeats 4000000
namespace Fv
open PySem PySem.Spec PyProof.Rows L2
/-! ### one fact more, or both, in a try -/
structure Errs4 (K : PySem.W.Frag) (mg : Str → Option Value) (CN CU CS AE : Addr) : Prop where
  gA : mg "ApartError" = some (.ref AE)
  gN : mg "NoName" = some (.ref CN)
  gU : mg "Unlike" = some (.ref CU)
  gS : mg "NoStart" = some (.ref CS)
  eN : ExcC K CN
  eU : ExcC K CU
  eS : ExcC K CS
  nN : PySem.W.findIn K (.ref CN) "name" = some none
  mN : PySem.W.exmOne K (.ref CN) (.ref AE) = some true
  mU : PySem.W.exmOne K (.ref CU) (.ref AE) = some true
  mS : PySem.W.exmOne K (.ref CS) (.ref AE) = some true
  nn : PySem.W.kitOne K (.ref CN) (.ref CN) = some true
  un : PySem.W.kitOne K (.ref CU) (.ref CN) = some false
  uu : PySem.W.kitOne K (.ref CU) (.ref CU) = some true
  sn : PySem.W.kitOne K (.ref CS) (.ref CN) = some false
  su : PySem.W.kitOne K (.ref CS) (.ref CU) = some false
  ss : PySem.W.kitOne K (.ref CS) (.ref CS) = some true
abbrev sMore : Stmt := top 37
abbrev nMo : List Str := ["_law_style", "_law_one", "_law_two", "_law_more_here", "e"]
def spMore (C : Addr) : Sp := fun vs H Q _ => ∃ (x m : Addr) (y : V) (zs : List Str) (L : List FaT) (u v : Str) (c : Int), H m = some (.tup [.str u, .str v, .int c]) ∧ FM C H x zs L ∧
  ((vs = [.int 0, .ref x, y, .ref m] ∧ ((∃ z, Bad2 zs u v z ∧ ∀ H' t, Same H H' → H' t = some (.tup [.str "name", .str z]) → Q (.ref t) H') ∨
     (SrcIn zs u ∧ SrcIn zs v ∧ ((¬ ∃ p, M.Keeps (L ++ [(u, v, c)]) p) → ∀ H', Same H H' → Q .non H') ∧ ((∃ p, M.Keeps (L ++ [(u, v, c)]) p) → ∀ H' x', Same H H' → FM C H' x' zs (L ++ [(u, v, c)]) → Q (.ref x') H')))) ∨
   (vs = [.int 1, .ref x, y, .ref m] ∧ ∃ (y' : Addr) (ws : List Str), y = .ref y' ∧ NmA C H y' ws ∧
     ((zs ≠ ws ∧ ∀ H', Same H H' → Q (.str "unlike") H') ∨
      (zs = ws ∧ ∃ M', FM C H y' ws M' ∧ zs.length ≤ 4 ∧ ((¬ ∃ p, M.Keeps (L ++ M') p) → ∀ H', Same H H' → Q .non H') ∧ ((∃ p, M.Keeps (L ++ M') p) → ∀ H' x', Same H H' → FM C H' x' zs (L ++ M') → Q (.ref x') H')))))
section
variable {P : Program} {w : World} {K : PySem.W.Frag} {mg : Str → Option Value} {base : Heap} {C CN CU CS AE : Addr}
theorem scMo : FnScope nMo ["_law_style", "_law_one", "_law_two", "_law_more_here"] (defScope sMore) := ⟨rfl, rfl, rfl, by decide +kernel, rfl, by decide +kernel, by decide +kernel⟩
theorem ok_more {f fw fa : Addr} {fd fdw fda : FuncData} (F : Fun K "_law_more" "_law_more" sMore f fd) (T : FacC K C) (E4 : Errs4 K mg CN CU CS AE)
    (Mw : Meth K C "with_fact" fw) (Gw : FnOk P w K mg base (L2.CX P w) 7 fw fdw ["self", "x", "y", "c"] (spWithF C CN CS)) (bw : Binds K fdw ["self", "x", "y", "c"] [])
    (hc : PySem.W.selfFirst K C = true) (ha : PySem.W.findIn K (.ref C) "__and__" = some (some (.ref fa))) (hfa : PySem.W.isFn K (.ref fa) = true) (Ga : FnOk P w K mg base (L2.CX P w) 7 fa fda ["self", "other"] (spAndM C CU CS)) (ba : Binds K fda ["self", "other"] [])
    (mq : mg "isinstance" = none) : FnOk P w K mg base CX0 8 f fd ["_law_style", "_law_one", "_law_two", "_law_more_here"] (spMore C) := by
  refine F.ok scMo (fun vs H Q E h => ?_) (fun cdv A outer s H vs Q E hr h => ?_)
  · obtain ⟨_, _, _, _, _, _, _, _, _, _, ⟨rfl, _⟩ | ⟨rfl, _⟩⟩ := h <;> rfl
  · obtain ⟨x, m, y, zs, L, u, v, c, em, FX, h⟩ := h
    refine ⟨_, pss_cons (ps_try_as (i := 4) (Wout := fun _ _ _ _ => False) rfl rfl scMo.nd rfl rfl ⟨rfl, by decide, Or.inl E4.gA⟩ takes0
        (fun W pn xe tk _ => pss_one (ps_ret (pe_ifExp (pt_cmpR op_eq (pv 0) pe_int (nomark _))
          (by exact (pe_methE (pv 1) T.cl Mw Gw hr bw (fun σ => passAt tk σ) (by exact (pa_cons (pe_ix (r := rIxT K) ix_tup (pv 3) pe_int (fun _ _ => rfl)) (pa_cons (pe_ix (r := rIxT K) ix_tup (pv 3) pe_int (fun _ _ => rfl)) (pa_cons (pe_ix (r := rIxT K) ix_tup (pv 3) pe_int (fun _ _ => rfl)) pa_nil))))))
          (by exact (pe_binE Ga hc ha hfa hr ba (fun σ => passAt tk σ) (by exact (pv 1)) (by exact (pv 2)))))))
        (fun a oe cls d pn hz hf => pss_cons (ps_if (pt_val (pe_callB (id := "isinstance") (r := rIsQ K a cls d) (by exact (call_isQ List.mem_cons_self hz hf)) (by rfl) mq (by decide +kernel) (pa_cons (pv 4) (pa_cons (pe_glob (v := .ref CN) (by rfl) E4.gN rfl) pa_nil)))) (pss_one (ps_ret (pe_tup (pa_cons pe_str (pa_cons (by exact (pe_xfQ (K := K) (i := 4) rfl List.mem_cons_self hz hf (by exact (pv 4)))) pa_nil))))) pss_nil)
          (pss_cons (ps_if (pt_val (pe_callB (id := "isinstance") (r := rIsQ K a cls d) (by exact (call_isQ List.mem_cons_self hz hf)) (by rfl) mq (by decide +kernel) (pa_cons (pv 4) (pa_cons (pe_glob (v := .ref CU) (by rfl) E4.gU rfl) pa_nil)))) (pss_one (ps_ret pe_str)) pss_nil)
          (pss_one (ps_ret (pe_ifExp (pt_val (pe_callB (id := "isinstance") (r := rIsQ K a cls d) (by exact (call_isQ List.mem_cons_self hz hf)) (by rfl) mq (by decide +kernel) (pa_cons (pv 4) (pa_cons (pe_glob (v := .ref CS) (by rfl) E4.gS rfl) pa_nil)))) pe_non pe_str))))))
      pss_dead, ?_⟩
    obtain ⟨dx, m0, m1, ex⟩ := FX.insN
    have noS : ∀ {H1 : Hp} {R : Prop}, R → R := fun h => h
    rcases h with ⟨rfl, h⟩ | ⟨rfl, y', ws, rfl, NA, h⟩
    · rw [show L2.start nMo [V.int 0, V.ref x, y, V.ref m] = [some (.int 0), some (.ref x), some y, some (.ref m), none] from rfl]
      refine ⟨_, rfl, rfl, _, rfl, iteT ?_⟩
      refine ⟨_, rfl, x, dx, _, rfl, ex, rfl, _, rfl, m, _, 0, _, rfl, rfl, SqT.of em, rfl, _, rfl, m, _, 1, _, rfl, rfl, SqT.of em, rfl, _, rfl, m, _, 2, _, rfl, rfl, SqT.of em, rfl, ?_⟩
      rcases h with ⟨z, bad, qB⟩ | ⟨su, sv, qS, qO⟩
      · refine ⟨x, zs, L, u, v, c, rfl, FX, .inl ⟨z, bad, fun H1 d s1 nd => ⟨true, E4.mN, fun _ a na => ?_, fun z => nomatch z⟩⟩⟩
        refine ⟨_, rfl, CN, _, _, _, rfl, rfl, .inl ⟨d, _, rfl, upd_same⟩, E4.eN, .own _, E4.nn, _, rfl, iteT ?_⟩
        refine ⟨_, rfl, rfl, CN, d, _, _, rfl, rfl, upd_same, xf_of E4.eN, E4.nN, rfl, by show 2 ≤ sizeLine; decide, fun t nt => ?_⟩
        exact qB _ t ((s1.trans (same_upd nd)).trans (same_upd nt)) upd_same
      · refine ⟨x, zs, L, u, v, c, rfl, FX, .inr ⟨su, sv, fun np H1 s1 => ⟨true, E4.mS, fun _ a na => ?_, fun z => nomatch z⟩, fun hp H' x' s1 F' => qO hp H' x' s1 F'⟩⟩
        refine ⟨_, rfl, CS, _, _, _, rfl, rfl, .inr rfl, E4.eS, .own _, E4.sn, _, rfl, iteF ?_⟩
        refine ⟨_, rfl, CS, _, _, _, rfl, rfl, .inr rfl, E4.eS, .own _, E4.su, _, rfl, iteF ?_⟩
        refine ⟨_, rfl, CS, _, _, _, rfl, rfl, .inr rfl, E4.eS, .own _, E4.ss, _, rfl, iteT ?_⟩
        exact qS np H1 s1
    · rw [show L2.start nMo [V.int 1, V.ref x, V.ref y', V.ref m] = [some (.int 1), some (.ref x), some (.ref y'), some (.ref m), none] from rfl]
      refine ⟨_, rfl, rfl, _, rfl, iteF ?_⟩
      obtain ⟨dy, k0, k1, ey, _⟩ := id NA.1
      refine ⟨_, rfl, _, rfl, x, dx, _, y', dy, _, rfl, rfl, ex, ey, x, y', zs, ws, L, rfl, FX, NA, ?_⟩
      rcases h with ⟨ne, qU⟩ | ⟨eq, M', FY, z4, qS, qO⟩
      · refine .inl ⟨ne, fun H1 s1 => ⟨true, E4.mU, fun _ a na => ?_, fun z => nomatch z⟩⟩
        refine ⟨_, rfl, CU, _, _, _, rfl, rfl, .inr rfl, E4.eU, .own _, E4.un, _, rfl, iteF ?_⟩
        refine ⟨_, rfl, CU, _, _, _, rfl, rfl, .inr rfl, E4.eU, .own _, E4.uu, _, rfl, iteT ?_⟩
        exact qU H1 s1
      · refine .inr ⟨eq, M', FY, z4, fun np H1 s1 => ⟨true, E4.mS, fun _ a na => ?_, fun z => nomatch z⟩, fun hp H' x' s1 F' => ⟨⟨_, rfl⟩, qO hp H' x' s1 F'⟩⟩
        refine ⟨_, rfl, CS, _, _, _, rfl, rfl, .inr rfl, E4.eS, .own _, E4.sn, _, rfl, iteF ?_⟩
        refine ⟨_, rfl, CS, _, _, _, rfl, rfl, .inr rfl, E4.eS, .own _, E4.su, _, rfl, iteF ?_⟩
        refine ⟨_, rfl, CS, _, _, _, rfl, rfl, .inr rfl, E4.eS, .own _, E4.ss, _, rfl, iteT ?_⟩
        exact qS np H1 s1
end
end Fv


set_option Elab.async false
set_option linter.all false
set_option maxRecDepth 100000
set_option maxHeartbeats 4000000
/-! how long a datum is at most when it is shown; whole numbers shown -/
namespace Fv
open PySem PySem.Spec PyProof.Rows L2
mutual
def sz : PyData → Nat
  | .list ds => szs ds + 3
  | .tuple ds => szs ds + 3
  | .dict ps => szk ps + 3
  | d => d.shown.length
def szs : List PyData → Nat
  | [] => 0
  | d :: ds => sz d + 2 + szs ds
def szk : List (PyData × PyData) → Nat
  | [] => 0
  | (a, c) :: ps => sz a + sz c + 4 + szk ps
end
mutual
theorem sz_le : ∀ d : PyData, d.shown.length ≤ sz d
  | .none => Nat.le_refl _
  | .bool _ => Nat.le_refl _
  | .int _ => Nat.le_refl _
  | .str _ => Nat.le_refl _
  | .list ds => by
    rw [PyData.shown, sz]
    have := listText_len_le (PyData.shownAll ds)
    have h2 := szs_le ds
    rw [PyData.shownAll_length] at this
    omega
  | .tuple ds => by
    rw [PyData.shown, sz]
    have := tupleText_len_le (PyData.shownAll ds)
    have h2 := szs_le ds
    rw [PyData.shownAll_length] at this
    omega
  | .dict ps => by
    rw [PyData.shown, sz]
    have := dictText_len_le (PyData.shownKv ps)
    have h2 := szk_le ps
    rw [PyData.shownKv_length] at this
    omega
theorem szs_le : ∀ ds : List PyData, ((PyData.shownAll ds).map (·.length)).sum + 2 * ds.length ≤ szs ds
  | [] => by simp [PyData.shownAll, szs]
  | d :: ds => by
    have h1 := sz_le d
    have h2 := szs_le ds
    simp only [PyData.shownAll, List.map_cons, List.sum_cons, List.length_cons, szs]
    omega
theorem szk_le : ∀ ps : List (PyData × PyData), ((PyData.shownKv ps).map (·.length)).sum + 2 * ps.length ≤ szk ps
  | [] => by simp [PyData.shownKv, szk]
  | (a, c) :: ps => by
    have l1 := sz_le a
    have l2 := sz_le c
    have l3 := szk_le ps
    have e2 : (a.shown ++ ": " ++ c.shown).length = a.shown.length + 2 + c.shown.length := by
      rw [strLen_append, strLen_append]; rfl
    simp only [PyData.shownKv, List.map_cons, List.sum_cons, List.length_cons, szk]
    omega
end
theorem nat_lenA {n k : Nat} (hk : 1 ≤ k) (h : n < 10 ^ k) : (toString n).length ≤ k := by
  rw [Nat.toString_eq_ofList_toDigits, String.length_ofList]
  exact toDigits_len_pow (by decide) hk h
theorem ilenA {i : Int} {k : Nat} (hk : 1 ≤ k) (h : i.natAbs < 10 ^ k) : (PyData.int i).shown.length ≤ k + 1 := by
  rw [PyData.shown_int, PySem.ofString_length]
  cases i with
  | ofNat n =>
    show (toString n).length ≤ _
    have := nat_lenA hk (show n < 10 ^ k from h)
    omega
  | negSucc n =>
    show ("-" ++ toString (n + 1)).length ≤ _
    rw [String.length_append]
    have := nat_lenA hk (show n + 1 < 10 ^ k from h)
    have e : ("-" : String).length = 1 := by decide +kernel
    omega
end Fv


set_option Elab.async false
set_option linter.all false
set_option maxRecDepth 100000
set_option maxHeartbeats 4000000
namespace Fv
open PySem PySem.Spec PyProof.Rows L2
/-! ### what is compared is short -/
def intB (z : Int) : Prop := -(10 ^ 62) ≤ z ∧ z ≤ 10 ^ 62
theorem intB.abs {z : Int} (h : intB z) : z.natAbs ≤ 10 ^ 62 := by
  have e : ((10 ^ 62 : Nat) : Int) = 10 ^ 62 := by decide
  have h1 := h.1
  have h2 := h.2
  omega
theorem intB.show_ {z : Int} (h : intB z) : (PyData.int z).showable = true := by
  have hp : z.natAbs < 2 ^ 210 := Nat.lt_of_le_of_lt h.abs (by decide)
  have hl : z.natAbs.log2 < 210 := by
    by_cases q : z.natAbs = 0
    · rw [q]; decide
    · exact (Nat.log2_lt q).mpr hp
  rw [PyData.showable]
  exact decide_eq_true (by omega)
theorem intB.len {z : Int} (h : intB z) : (PyData.int z).shown.length ≤ 64 := ilenA (i := z) (k := 63) (by decide) (Nat.lt_of_le_of_lt h.abs (by decide))
theorem flat_int {z : Int} (h : intB z) : Flat (.int z) := ⟨⟨h.show_, Nat.le_trans h.len (by decide), by simp [PyData.depth]⟩, by unfold SeqAt.shaped; simp [PyData.canLay0, PyData.depth]⟩
theorem flat_endless : Flat (.str "endless") := ⟨⟨rfl, by decide +kernel, by decide⟩, by decide +kernel⟩
theorem src_strOk {z : Str} (h : z = "" ∨ NmOk z) : PyData.strOk z = true := by
  rcases h with rfl | h
  · decide +kernel
  · unfold PyData.strOk
    rw [← Array.all_toList, List.all_eq_true]
    exact fun c hc => decide_eq_true (Nat.lt_trans (abc_small c (h.2.2 c hc)) (by decide))
theorem src_len {z : Str} (h : z = "" ∨ NmOk z) : (PyData.str z).shown.length ≤ 90 := by
  have e : (PyData.str z).shown = reprText z := by rw [PyData.shown]
  rw [e]
  rcases h with rfl | h
  · decide +kernel
  · have := StrLaws.reprText_len z fun c hc => Nat.lt_trans (abc_small c (h.2.2 c hc)) (by decide)
    have := h.2.1
    omega
theorem flat_rows {L : List FaT} (hs : ∀ f ∈ L, (f.1 = "" ∨ NmOk f.1) ∧ (f.2.1 = "" ∨ NmOk f.2.1)) (hb : ∀ f ∈ L, intB f.2.2) (hl : L.length ≤ 49) : Flat (.list (L.map faD)) := by
  have h1 : PyData.showableAll (L.map faD) = true := by
    clear hl
    induction L with
    | nil => rfl
    | cons f L ih =>
      rw [List.map_cons, PyData.showableAll, ih (fun g hg => hs g (List.mem_cons_of_mem _ hg)) (fun g hg => hb g (List.mem_cons_of_mem _ hg)), Bool.and_true]
      have := (hb f List.mem_cons_self).show_
      unfold faD
      simp only [PyData.showable, PyData.showableAll, Bool.and_true, Bool.true_and] at this ⊢
      exact this
  have h2 : szs (L.map faD) ≤ 300 * L.length := by
    clear hl h1
    induction L with
    | nil => exact Nat.le_refl _
    | cons f L ih =>
      have i1 := ih (fun g hg => hs g (List.mem_cons_of_mem _ hg)) (fun g hg => hb g (List.mem_cons_of_mem _ hg))
      obtain ⟨a, b⟩ := hs f List.mem_cons_self
      have l1 := src_len a
      have l2 := src_len b
      have l3 := (hb f List.mem_cons_self).len
      rw [List.map_cons, List.length_cons]
      unfold faD
      simp only [szs, sz]
      unfold faD at i1
      omega
  have h3 : PyData.depthAll (L.map faD) ≤ 1 := by
    clear hl h1 h2
    induction L with
    | nil => simp [PyData.depthAll]
    | cons f L ih =>
      rw [List.map_cons]
      have := ih (fun g hg => hs g (List.mem_cons_of_mem _ hg)) (fun g hg => hb g (List.mem_cons_of_mem _ hg))
      unfold faD at this ⊢
      simp only [PyData.depthAll, PyData.depth] at this ⊢
      omega
  have h4 : PyData.canLayAll0 (L.map faD) = true := by
    clear hl h1 h2 h3
    induction L with
    | nil => rfl
    | cons f L ih =>
      rw [List.map_cons, PyData.canLayAll0, ih (fun g hg => hs g (List.mem_cons_of_mem _ hg)) (fun g hg => hb g (List.mem_cons_of_mem _ hg)), Bool.and_true]
      obtain ⟨a, b⟩ := hs f List.mem_cons_self
      unfold faD
      simp only [PyData.canLay0, PyData.canLayAll0, src_strOk a, src_strOk b, Bool.and_true, Bool.and_self]
  refine ⟨⟨?_, ?_, ?_⟩, ?_⟩
  · rw [PyData.showable]
    exact h1
  · have := sz_le (.list (L.map faD))
    rw [sz] at this
    omega
  · rw [PyData.depth]
    omega
  · unfold SeqAt.shaped
    rw [Bool.and_eq_true]
    refine ⟨by rw [PyData.canLay0]; exact h4, decide_eq_true ?_⟩
    rw [PyData.depth]
    omega
theorem flat_names {zs : List Str} (h : ∀ z ∈ zs, NmOk z) (hl : zs.length ≤ 6) : Flat (.list (zs.map PyData.str)) := by
  have h1 : PyData.showableAll (zs.map PyData.str) = true := by
    clear hl
    induction zs with
    | nil => rfl
    | cons z zs ih =>
      rw [List.map_cons, PyData.showableAll, ih fun y hy => h y (List.mem_cons_of_mem _ hy)]
      simp [PyData.showable]
  have h2 : szs (zs.map PyData.str) ≤ 100 * zs.length := by
    clear hl h1
    induction zs with
    | nil => exact Nat.le_refl _
    | cons z zs ih =>
      have i1 := ih fun y hy => h y (List.mem_cons_of_mem _ hy)
      have l1 := src_len (.inr (h z List.mem_cons_self))
      rw [List.map_cons, List.length_cons]
      simp only [szs, sz]
      omega
  have h3 : PyData.depthAll (zs.map PyData.str) = 0 := by
    clear hl h1 h2
    induction zs with
    | nil => rfl
    | cons z zs ih =>
      rw [List.map_cons, PyData.depthAll, ih fun y hy => h y (List.mem_cons_of_mem _ hy)]
      rfl
  have h4 : PyData.canLayAll0 (zs.map PyData.str) = true := by
    clear hl h1 h2 h3
    induction zs with
    | nil => rfl
    | cons z zs ih =>
      rw [List.map_cons, PyData.canLayAll0, ih fun y hy => h y (List.mem_cons_of_mem _ hy), Bool.and_true]
      rw [PyData.canLay0]
      exact src_strOk (.inr (h z List.mem_cons_self))
  refine ⟨⟨?_, ?_, ?_⟩, ?_⟩
  · rw [PyData.showable]
    exact h1
  · have := sz_le (.list (zs.map PyData.str))
    rw [sz] at this
    omega
  · rw [PyData.depth, h3]
    decide
  · unfold SeqAt.shaped
    rw [Bool.and_eq_true]
    refine ⟨by rw [PyData.canLay0]; exact h4, decide_eq_true ?_⟩
    rw [PyData.depth, h3]
    decide
/-! ### the sums are not too great -/
theorem M.Wk.sum {F : M.Fa Str} {A : Str → Prop} {B : Int} (hB : 0 ≤ B) (h : ∀ x y c, (x, y, c) ∈ F → c ≤ B) : ∀ {x y c n}, M.Wk F A x y c n → c ≤ n * B := by
  intro x y c n w
  induction w with
  | nil _ => simp
  | @cons x y z c d n hf _ _ ih =>
    have := h _ _ _ hf
    have e : ((n + 1 : Nat) : Int) * B = n * B + B := by
      push_cast
      rw [Int.add_mul, Int.one_mul]
    rw [e]
    omega
theorem M.Wk.low {F : M.Fa Str} {A : Str → Prop} {B : Int} (hB : 0 ≤ B) (h : ∀ x y c, (x, y, c) ∈ F → -B ≤ c) : ∀ {x y c n}, M.Wk F A x y c n → -(n * B) ≤ c := by
  intro x y c n w
  induction w with
  | nil _ => simp
  | @cons x y z c d n hf _ _ ih =>
    have := h _ _ _ hf
    have e : ((n + 1 : Nat) : Int) * B = n * B + B := by
      push_cast
      rw [Int.add_mul, Int.one_mul]
    rw [e]
    omega
theorem rounds_small {L : List FaT} {W : List Str} {p : Str → Int} {n : Nat} (K0 : M.Keeps L p) (hF : ∀ x y c, (x, y, c) ∈ L → x ∈ W ∧ y ∈ W) (hn : W.length ≤ n) (hW : W.length ≤ 7) (hb : ∀ f ∈ L, FaB f) {x y : Str} {g : Int}
    (e : M.rounds W L n (M.diag W) x y = some g) : intB g := by
  have l := M.rounds_lst K0 (fun x y c m => (hF x y c m).1) hn x y
  obtain ⟨m, wk⟩ := l.there g e
  obtain ⟨c', n', w', hc, hl⟩ := wk.short K0 W.length W (Nat.le_refl _)
  obtain ⟨g', e', hg⟩ := l.least _ _ w'
  rw [e] at e'
  cases e'
  have h1 := M.Wk.sum (B := 3 * 10 ^ 59) (by decide) (fun x y c m => (hb _ m).2) w'
  have h2 := M.Wk.low (B := 3 * 10 ^ 59) (by decide) (fun x y c m => (hb _ m).1) w'
  have h3 : (n' : Int) ≤ 7 := by omega
  have h0 : (0 : Int) ≤ n' := by omega
  unfold intB
  omega
end Fv


set_option Elab.async false
set_option linter.all false
set_option maxRecDepth 100000
set_option maxHeartbeats 4000000
/-! the order of an own class's classes -/
namespace Fv
open PySem PySem.Spec PyProof.Rows L2
def Mro (K : PySem.W.Frag) (C : Addr) (m : List Value) : Prop := ∃ cd, PySem.W.clsIn K C = some cd ∧ cd.mro = m
theorem Mro.sub {K : PySem.W.Frag} {C : Addr} {a0 : Value} {l0 : List Value} (h : Mro K C (a0 :: l0)) (b : Value) : PySem.W.subIn K (.ref C) b = some ((a0 :: l0).contains b) := by
  obtain ⟨cd, e, em⟩ := h
  show (PySem.W.clsIn K C).bind _ = _
  rw [e, Option.bind_some, em]
  rfl
theorem Mro.kit {K : PySem.W.Frag} {C : Addr} {a0 : Value} {l0 : List Value} (h : Mro K C (a0 :: l0)) {T : String} (hm : PySem.W.kitMeta T = true) : PySem.W.kitOne K (.ref C) (.type T) = some ((a0 :: l0).contains (.type T)) := by
  unfold PySem.W.kitOne
  have n : ((Value.ref C : Value) == .type T) = false := by
    rw [beq_eq_false_iff_ne]
    exact nofun
  rw [n, if_neg (by decide)]
  unfold PySem.W.kitCls
  dsimp only
  rw [if_pos hm, h.sub]
theorem Mro.cls2 {K : PySem.W.Frag} {C D : Addr} {a0 : Value} {l0 m : List Value} (h : Mro K C (a0 :: l0)) (hD : Mro K D m) (ht : PySem.W.typeIn K (.ref D) = some (.type "type")) : PySem.W.kitCls K (.ref C) (.ref D) = some ((a0 :: l0).contains (.ref D)) := by
  unfold PySem.W.kitCls
  dsimp only
  have hi : (PySem.W.clsIn K D).isSome = true := by
    obtain ⟨cd, e, _⟩ := hD
    rw [e]
    rfl
  rw [if_pos (by rw [hi, ht] <;> rfl), h.sub]
theorem kit_self {K : PySem.W.Frag} {C : Addr} : PySem.W.kitOne K (.ref C) (.ref C) = some true := by
  unfold PySem.W.kitOne
  rw [beq_self_eq_true, if_pos rfl]
theorem Mro.exm {K : PySem.W.Frag} {C : Addr} {a0 : Value} {l0 : List Value} (h : Mro K C (a0 :: l0)) (hb : (a0 :: l0).contains (.type "BaseException") = true) (hs : (a0 :: l0).contains (.ref C) = true) (ht : PySem.W.typeIn K (.ref C) = some (.type "type")) : PySem.W.exmOne K (.ref C) (.ref C) = some true := by
  unfold PySem.W.exmOne
  rw [h.sub, hb, if_pos (by rfl)]
  unfold PySem.W.kitCls
  dsimp only
  have hi : (PySem.W.clsIn K C).isSome = true := by
    obtain ⟨cd, e, _⟩ := h
    rw [e]
    rfl
  rw [if_pos (by rw [hi, ht] <;> rfl), h.sub, hs]
end Fv


set_option Elab.async false
set_option linter.all false
set_option maxRecDepth 100000
set_option maxHeartbeats 4000000
namespace Fv
open PySem PySem.Spec PyProof.Rows L2
/-! ### what is compared is short -/
def FaB2 (f : FaT) : Prop := -(3 * 10 ^ 60) ≤ f.2.2 ∧ f.2.2 ≤ 3 * 10 ^ 60
theorem rounds_small2 {L : List FaT} {W : List Str} {p : Str → Int} {n : Nat} (K0 : M.Keeps L p) (hF : ∀ x y c, (x, y, c) ∈ L → x ∈ W ∧ y ∈ W) (hn : W.length ≤ n) (hW : W.length ≤ 7) (hb : ∀ f ∈ L, FaB2 f) {x y : Str} {g : Int}
    (e : M.rounds W L n (M.diag W) x y = some g) : intB g := by
  have l := M.rounds_lst K0 (fun x y c m => (hF x y c m).1) hn x y
  obtain ⟨m, wk⟩ := l.there g e
  obtain ⟨c', n', w', hc, hl⟩ := wk.short K0 W.length W (Nat.le_refl _)
  obtain ⟨g', e', hg⟩ := l.least _ _ w'
  rw [e] at e'
  cases e'
  have h1 := M.Wk.sum (B := 3 * 10 ^ 60) (by decide) (fun x y c m => (hb _ m).2) w'
  have h2 := M.Wk.low (B := 3 * 10 ^ 60) (by decide) (fun x y c m => (hb _ m).1) w'
  have h3 : (n' : Int) ≤ 7 := by omega
  have h0 : (0 : Int) ≤ n' := by omega
  unfold intB
  omega
theorem szs_rows {L : List FaT} (hs : ∀ f ∈ L, (f.1 = "" ∨ NmOk f.1) ∧ (f.2.1 = "" ∨ NmOk f.2.1)) (hb : ∀ f ∈ L, intB f.2.2) : szs (L.map faD) ≤ 300 * L.length := by
  induction L with
  | nil => exact Nat.le_refl _
  | cons f L ih =>
    have i1 := ih (fun g hg => hs g (List.mem_cons_of_mem _ hg)) (fun g hg => hb g (List.mem_cons_of_mem _ hg))
    obtain ⟨a, b⟩ := hs f List.mem_cons_self
    have l1 := src_len a
    have l2 := src_len b
    have l3 := (hb f List.mem_cons_self).len
    rw [List.map_cons, List.length_cons]
    unfold faD
    simp only [szs, sz]
    unfold faD at i1
    omega
theorem szs_names {zs : List Str} (h : ∀ z ∈ zs, NmOk z) : szs (zs.map PyData.str) ≤ 100 * zs.length := by
  induction zs with
  | nil => exact Nat.le_refl _
  | cons z zs ih =>
    have i1 := ih fun y hy => h y (List.mem_cons_of_mem _ hy)
    have l1 := src_len (.inr (h z List.mem_cons_self))
    rw [List.map_cons, List.length_cons]
    simp only [szs, sz]
    omega
theorem dep_rows : ∀ L : List FaT, PyData.depthAll (L.map faD) ≤ 1
  | [] => by simp [PyData.depthAll]
  | f :: L => by
    have := dep_rows L
    rw [List.map_cons]
    unfold faD at this ⊢
    simp only [PyData.depthAll, PyData.depth] at this ⊢
    omega
theorem dep_names : ∀ zs : List Str, PyData.depthAll (zs.map PyData.str) = 0
  | [] => by simp [PyData.depthAll]
  | z :: zs => by
    rw [List.map_cons, PyData.depthAll, dep_names zs]
    simp [PyData.depth]
theorem flat_pair {zs : List Str} {L : List FaT} (hz : ∀ z ∈ zs, NmOk z) (zl : zs.length ≤ 6) (hs : ∀ f ∈ L, (f.1 = "" ∨ NmOk f.1) ∧ (f.2.1 = "" ∨ NmOk f.2.1)) (hb : ∀ f ∈ L, intB f.2.2) (hl : L.length ≤ 49) : Flat (.list [.list (zs.map PyData.str), .list (L.map faD)]) := by
  have f1 := flat_names hz zl
  have f2 := flat_rows hs hb hl
  have d1 : (PyData.list (zs.map PyData.str)).depth = 1 := by rw [PyData.depth, dep_names]
  have d2 : (PyData.list (L.map faD)).depth ≤ 2 := by
    have := dep_rows L
    rw [PyData.depth]
    omega
  have dd : (PyData.list [.list (zs.map PyData.str), .list (L.map faD)]).depth ≤ 3 := by
    rw [PyData.depth, PyData.depthAll, PyData.depthAll, PyData.depthAll]
    omega
  have s1 := szs_names hz
  have s2 := szs_rows hs hb
  refine ⟨⟨?_, ?_, dd⟩, ?_⟩
  · rw [PyData.showable, PyData.showableAll, f1.show_, PyData.showableAll, f2.show_, PyData.showableAll]
    rfl
  · have := sz_le (.list [.list (zs.map PyData.str), .list (L.map faD)])
    simp only [szs, sz] at this
    omega
  · have c1 := SeqAt.canLay_of_shaped f1.shape
    have c2 := SeqAt.canLay_of_shaped f2.shape
    unfold SeqAt.shaped
    rw [Bool.and_eq_true]
    refine ⟨?_, decide_eq_true (by omega)⟩
    rw [PyData.canLay0, PyData.canLayAll0, c1, PyData.canLayAll0, c2, PyData.canLayAll0]
    rfl
theorem nf_keep {H H' : Hp} {b c0 n a : Addr} {zs ys : List Str} {xs : List V} {L : List FaT} (h : NF H n a zs ys xs L) (B : BagAt H b c0) (nb : n ≠ b) (ab : a ≠ b) (k : Keep b H H') : NF H' n a zs ys xs L := ⟨k _ _ nb h.hn, h.pm, h.nm, k _ _ ab h.ha, h.hI.kst (Kst.keep B k), h.ll⟩
/-- what a dict of a start tells -/
theorem asgS {ys : List Str} {f : Str → Int} {z : Str} (f0 : f "" = 0) (h : SrcIn ys z) : asg (fun z => valV (startKvs ys f) (.inr z)) z = f z := by
  by_cases e : z = ""
  · rw [e, asg_empty, f0]
  · exact asg_int (startV (h.resolve_left e)) e
end Fv


set_option Elab.async false
set_option linter.all false
set_option maxRecDepth 100000
set_option maxHeartbeats 4000000
namespace Fv
open PySem PySem.Spec PyProof.Rows L2
/-! ### what came of one fact more is right -/
abbrev sMoreR : Stmt := top 38
abbrev nMr : List Str := ["_law_bag_here", "_law_made", "_law_elder", "_law_names_here", "_law_told", "_law_more_here", "_law_due", "_law_sources", "_law_x", "_law_y", "_law_breaks", "_law_start"]
def spMoreR (C : Addr) : Sp := fun vs H Q _ => ∃ (b : Addr) (mv : V) (e n a m : Addr) (zs ys : List Str) (xs : List V) (L L0 : List FaT) (u v : Str) (c : Int), vs = [.ref b, mv, .ref e, .ref n, .ref a, .ref m] ∧ Bag H b ∧ NF H n a zs ys xs L ∧ n ≠ b ∧ a ≠ b ∧ ys ≠ [] ∧ sortedS ys = true ∧ ys.length ≤ 4 ∧ SrcAll ys L ∧ (∀ f ∈ L, FaB2 f) ∧ FM C H e ys L0 ∧
  ((mv = .non ∧ ¬ ∃ p, M.Keeps L p) ∨ ∃ x, mv = .ref x ∧ FM C H x ys L) ∧ H m = some (.tup [.str u, .str v, .int c]) ∧ (u, v, c) ∈ L ∧
  ∀ H', Bag H' b → Keep b H H' → (∀ d, BagAt H b d → BagAt H' b d) → Q (.bl true) H'
theorem Its.dqs {H : Hp} {b : Addr} (hb : ∀ us, H b ≠ some (.tup us)) : ∀ {xs : List V} {L : List FaT}, Its H xs L → DqAll H b xs (L.map faD)
  | [], [], _ => .nil
  | [], _ :: _, h => by cases h.len
  | _ :: _, [], h => by cases h.len
  | x :: xs, f :: L, h => by
    refine .cons ?_ (Its.dqs hb ⟨by have := h.len; rw [List.length_cons, List.length_cons] at this; omega, fun i y e => ?_⟩)
    · obtain ⟨g, hg, t, rfl, ht⟩ := h.at_ 0 x rfl
      cases hg
      exact .tup ht (fun z => hb _ (by rw [← z]; exact ht)) (.cons (.str _) (.cons (.str _) (.cons (.int _) .nil)))
    · exact h.at_ (i + 1) y e
theorem bag_ntS {H : Hp} {b c : Addr} (B : BagAt H b c) : ∀ us, H b ≠ some (.tup us) := fun us e => by
  obtain ⟨cs, p, s, i, BB⟩ := B
  have := BB.at_.symm.trans e
  cases this
theorem bag_ofb {H : Hp} {b c d : Addr} (B : BagAt H b c) (n : H d = none) : d ≠ b := by
  obtain ⟨cs, p, s, i, BB⟩ := B
  exact (ne_of_none BB.at_ n).symm
theorem startOk {H : Hp} {ys : List Str} {f : Str → Int} {z : Str} {w : V} (h : valV (startKvs ys f) (.inr z) = some w) : ValOk H w := by
  have hm : ∃ y ∈ startKvs ys f, y.2 = w := by
    unfold valV at h
    cases e : (startKvs ys f).find? (fun p => decide (p.1 = Sum.inr z)) with
    | none => rw [e] at h; cases h
    | some p =>
      rw [e] at h
      exact ⟨p, List.mem_of_find?_eq_some e, Option.some.inj h⟩
  obtain ⟨y, hy, rfl⟩ := hm
  unfold startKvs at hy
  obtain ⟨x, _, rfl⟩ := List.mem_map.mp hy
  exact .int _
theorem src_get {ys : List Str} {j : Nat} (h : j < (srcs ys).length) : ∃ u, ((srcs ys).map V.str)[j]? = some (.str u) ∧ SrcIn ys u := by
  refine ⟨(srcs ys)[j], by rw [List.getElem?_map, List.getElem?_eq_getElem h]; rfl, src_mem.mp (List.getElem_mem h)⟩
section
variable {P : Program} {w : World} {K : PySem.W.Frag} {mg : Str → Option Value} {base : Heap} {C : Addr}
theorem scMr : FnScope nMr ["_law_bag_here", "_law_made", "_law_elder", "_law_names_here", "_law_told", "_law_more_here"] (defScope sMoreR) := ⟨rfl, rfl, rfl, by decide +kernel, rfl, by decide +kernel, by decide +kernel⟩
theorem ok_morer {f fB fT fA fR fN fk fn fb fs fK : Addr} {fd fdB fdT fdA fdR fdN fdk fdn fdb fds fdK : FuncData} (F : Fun K "_law_more_right" "_law_more_right" sMoreR f fd) (T : FacC K C) (TF : KFn K C)
    (GB : FnOk P w K mg base CX0 2 fB fdB ["_law_names_here", "_law_told"] spLBounds) (bB : Binds K fdB ["_law_names_here", "_law_told"] []) (mB : mg "_law_bounds" = some (.ref fB)) (kB : PySem.W.keepIn K (.ref fB) = true)
    (GT : FnOk P w K mg base CX0 1 fT fdT ["_law_bag_here", "_law_many"] spTake) (bT : Binds K fdT ["_law_bag_here", "_law_many"] []) (mT : mg "_law_take" = some (.ref fT)) (kT : PySem.W.keepIn K (.ref fT) = true)
    (GA : FnG P w K mg base 1 fA fdA ["_law_found", "_law_due"] spAlike) (bA : BindG fdA ["_law_found", "_law_due"]) (mA : mg "_law_alike" = some (.ref fA)) (kA : PySem.W.keepIn K (.ref fA) = true)
    (GR : FnOk P w K mg base CX0 5 fR fdR ["_law_facts_here", "_law_names_here", "_law_told", "_law_x", "_law_y", "_law_number_here"] (spStartR C)) (bR : Binds K fdR ["_law_facts_here", "_law_names_here", "_law_told", "_law_x", "_law_y", "_law_number_here"] []) (mR : mg "_law_start_right" = some (.ref fR)) (kR : PySem.W.keepIn K (.ref fR) = true)
    (GN : FnOk P w K mg base CX0 2 fN fdN ["_law_bag_here"] spNumber) (bN : Binds K fdN ["_law_bag_here"] []) (mN : mg "_law_number" = some (.ref fN)) (kN : PySem.W.keepIn K (.ref fN) = true)
    (Gk : FnOk P w K mg base CX0 1 fk fdk ["_law_names_here", "_law_facts_here", "_law_thing"] spLKeeps) (bk : Binds K fdk ["_law_names_here", "_law_facts_here", "_law_thing"] []) (mk : mg "_law_keeps" = some (.ref fk)) (kk : PySem.W.keepIn K (.ref fk) = true)
    (Mn : Meth K C "names" fn) (Gn : FnOk P w K mg base CX0 1 fn fdn ["self"] (spNamesM C)) (bn : Binds K fdn ["self"] [])
    (Mb : Meth K C "bounds" fb) (Gb : FnOk P w K mg base CX0 1 fb fdb ["self"] (spBounds C)) (bb : Binds K fdb ["self"] [])
    (Ms : Meth K C "start_with" fs) (Gs : FnOk P w K mg base CX0 4 fs fds ["self", "x", "y", "number"] (spStartW C)) (bs : Binds K fds ["self", "x", "y", "number"] [])
    (Mk2 : Meth K C "keeps" fK) (GK : FnOk P w K mg base CX0 2 fK fdK ["self", "thing"] (spKeeps P w K C)) (bK : Binds K fdK ["self", "thing"] [])
    (gC : mg "Facts" = some (.ref C)) (mo : mg "sorted" = none) (ml : mg "len" = none) (mq : mg "isinstance" = none) : FnG P w K mg base 6 f fd ["_law_bag_here", "_law_made", "_law_elder", "_law_names_here", "_law_told", "_law_more_here"] (spMoreR C) := by
  refine okG F scMr (fun vs H Q E h => ?_) (fun cdv A outer s H vs Q E hg hr h => ?_)
  · obtain ⟨_, _, _, _, _, _, _, _, _, _, _, _, _, _, rfl, _⟩ := h
    rfl
  · obtain ⟨b, mv, e, n, a, m, zs, ys, xs, L, L0, u, v, c, rfl, B, N, nb, ab, yne, so, few, hin, hfb, FE, hM, em, hm, q⟩ := h
    have hu := hu_of hr
    have hr1 : Room 1 _ := hr.mono (by decide)
    have hr2 : Room 2 _ := hr.mono (by decide)
    have hr4 : Room 4 _ := hr.mono (by decide)
    refine ⟨_, pss_cons (ps_par (i := 6) (j := 7) (by rfl) scMr.nd rfl rfl (by decide) rfl rfl (pa_cons (pe_call GB hr2 (by rfl) mB kB bB .nil pass0 (pa_cons (pv 3) (pa_cons (pv 4) pa_nil))) (pa_cons (pe_imp (t' := tSrcs 3) (pe_op op_cat (pe_lst (pa_cons pe_str pa_nil)) (pe_callB (r := rSortB K) call_sortB (by rfl) mo (by decide +kernel) (pa_cons (pv 3) pa_nil))) (fun σ H Q h => srcs_imp h)) pa_nil)) (by rfl))
      (pss_cons (ps_if (PW.pt (pw_or (pt_cmpR op_isN (pv 6) pe_non (nomark _)) (pw_or1 (pt_cmpR op_isN (pv 1) pe_non (nomark _))))) (pss_one (ps_ret (pe_and (pe_cmpR op_isN (pv 6) pe_non (nomark _)) (pe_one (pe_cmpR op_isN (pv 1) pe_non (nomark _)))))) pss_nil)
      (pss_cons (ps_if (PW.pt (pw_or (pt_not (pt_val (pe_callB call_isi (by rfl) mq (by decide +kernel) (pa_cons (pv 1) (pa_cons (pe_glob (v := .ref C) (by rfl) gC rfl) pa_nil)))))
          (pw_or1 (pt_not (pt_val (pe_callG GA hg hr1 (by rfl) mA kA bA (pa_cons (pe_lstB (pa_cons (pe_meth0 (pv 1) T.cl Mn Gn hr1 bn .nil pass0) (pa_cons (pe_meth0 (pv 1) T.cl Mb Gb hr1 bb .nil pass0) pa_nil))) (pa_cons (pe_lstB (pa_cons (pe_callB (r := rSortB K) call_sortB (by rfl) mo (by decide +kernel) (pa_cons (pv 3) pa_nil)) (pa_cons (pv 6) pa_nil))) pa_nil))))))))
        pss_dead pss_nil)
      (pss_cons (ps_par (i := 8) (j := 9) (by rfl) scMr.nd rfl rfl (by decide) rfl rfl (pa_cons (pe_ix ix_list (pv 7) (pe_call GT hr1 (by rfl) mT kT bT .nil pass0 (pa_cons (pv 0) (pa_cons (pe_callB call_len_seq (by rfl) ml PySem.boot_len (pa_cons (pv 7) pa_nil)) pa_nil))) (fun _ _ => rfl)) (pa_cons (pe_ix ix_list (pv 7) (pe_call GT hr1 (by rfl) mT kT bT .nil pass0 (pa_cons (pv 0) (pa_cons (pe_callB call_len_seq (by rfl) ml PySem.boot_len (pa_cons (pv 7) pa_nil)) pa_nil))) (fun _ _ => rfl)) pa_nil)) (by rfl))
      (pss_cons (ps_if (pt_not (pt_val (pe_call GR hr (by rfl) mR kR bR .nil pass0 (pa_cons (pv 1) (pa_cons (pv 3) (pa_cons (pv 4) (pa_cons (pv 8) (pa_cons (pv 9) (pa_cons (pe_call GN hr2 (by rfl) mN kN bN .nil pass0 (pa_cons (pv 0) pa_nil)) pa_nil))))))))) pss_dead pss_nil)
      (pss_cons (ps_par (i := 10) (j := 11) (by rfl) scMr.nd rfl rfl (by decide) rfl rfl (pa_cons (pe_meth (pv 2) T.cl Ms Gs hr4 bs .nil pass0 (pa_cons (pe_ix ix_tup (pv 5) pe_int (fun _ _ => rfl)) (pa_cons (pe_ix ix_tup (pv 5) pe_int (fun _ _ => rfl)) (pa_cons (pe_op op_add (pe_ix ix_tup (pv 5) pe_int (fun _ _ => rfl)) pe_int) pa_nil))))
          (pa_cons (pe_meth (pv 1) T.cl Ms Gs hr4 bs .nil pass0 (pa_cons pe_str (pa_cons pe_str (pa_cons pe_int pa_nil)))) pa_nil)) (by rfl))
      (pss_cons (ps_if (PW.pt (pw_and (pt_cmpR op_notN (pv 10) pe_non (nomark _)) (pw_and1 (pt_cmpR op_notBl (pe_meth (pv 1) T.cl Mk2 GK hr2 bK .nil pass0 (pa_cons (pv 10) pa_nil)) pe_bl (nomark _))))) pss_dead pss_nil)
      (pss_one (ps_ret (pe_and (pe_cmpR op_isBl (pe_meth (pv 1) T.cl Mk2 GK hr2 bK .nil pass0 (pa_cons (pv 11) pa_nil)) pe_bl (nomark _)) (pe_one (pe_call Gk hr1 (by rfl) mk kk bk .nil pass0 (pa_cons (pv 3) (pa_cons (pv 4) (pa_cons (pv 11) pa_nil)))))))))))))), ?_⟩
    rw [show L2.start nMr [V.ref b, mv, V.ref e, V.ref n, V.ref a, V.ref m] = [some (.ref b), some mv, some (.ref e), some (.ref n), some (.ref a), some (.ref m), none, none, none, none, none, none] from rfl]
    have h100 : 100 < sizeLine := by decide
    have sl : (srcs ys).length = ys.length + 1 := rfl
    have zl : zs.length ≤ 4 := by rw [← N.pm.length_eq]; exact few
    have ynm : ∀ z ∈ ys, NmOk z := fun z hz => N.nm z (N.pm.mem_iff.mp hz)
    obtain ⟨c0, hc0⟩ : ∃ c0, BagAt H b c0 := id B
    have onlyC : ∀ {G : Hp}, BagAt G b c0 → ∀ d, BagAt H b d → BagAt G b d := fun {G} h d hd => by
      rw [BagAt.uniq hc0 hd]
      exact h
    refine ⟨_, rfl, _, rfl, n, a, zs, ys, xs, L, rfl, N, so, by omega, hin, fun np H1 s1 => ?_, fun hp H1 p us s1 np mp ep hus => ?_⟩
    · obtain rfl : mv = .non := by
        rcases hM with ⟨e, _⟩ | ⟨x, _, FX⟩
        · exact e
        · exact absurd FX.kp np
      refine ⟨n, zs, ys, rfl, s1 _ _ N.hn, N.pm, so, by omega, fun l3 H2 s2 el3 => ⟨_, _, rfl, ?_⟩⟩
      have s12 := s1.trans s2
      simp only [gName, List.set_cons_zero, List.set_cons_succ]
      exact ⟨_, rfl, rfl, _, rfl, iteT ⟨_, rfl, rfl, _, rfl, iteT ⟨_, rfl, rfl, q _ (B.same s12) (Keep.same s12) fun d hd => hd.same s12⟩⟩⟩
    · obtain ⟨x, rfl, FX⟩ : ∃ x, mv = .ref x ∧ FM C H x ys L := by
        rcases hM with ⟨_, no⟩ | h
        · exact absurd hp no
        · exact h
      have pb : p ≠ b := bag_ofb hc0 np
      refine ⟨n, zs, ys, rfl, s1 _ _ N.hn, N.pm, so, by omega, fun l3 H2 s2 el3 => ⟨_, _, rfl, ?_⟩⟩
      have s12 := s1.trans s2
      have B2 := hc0.same s12
      have ep2 := s2 _ _ ep
      have hus2 := hus.same s2
      have N2 := N.same s12
      have FE2 := FE.same s12
      have em2 := s12 _ _ em
      have k2 : Keep b H H2 := Keep.same s12
      simp only [gName, List.set_cons_zero, List.set_cons_succ]
      refine ⟨_, rfl, rfl, _, rfl, iteF ⟨_, rfl, rfl, _, rfl, iteF ?_⟩⟩
      have FX2 := FX.same s12
      obtain ⟨dx, m0, m1, ex⟩ := FX2.insN
      obtain ⟨⟨T0, g0, lk0⟩, nd0, so0, src0, ⟨q0, hK0⟩, few0⟩ := id FX2
      have facK : ∀ {G : Hp}, Keep b H2 G → FacG C G x ys T0 := fun k => g0.kst yne (Kst.keep B2 k)
      have xb : x ≠ b := fun z => by
        obtain ⟨cs, p, s, i, BB⟩ := B2
        rw [z, BB.at_] at ex
        cases ex
      have l3b : l3 ≠ b := fun z => by
        obtain ⟨cs, p, s, i, BB⟩ := B2
        rw [z, BB.at_] at el3
        unfold bagV at el3
        have := congrArg List.length (HO.lst.inj (Option.some.inj el3))
        cases el3
      refine ⟨_, rfl, _, _, _, _, true, rfl, .own C, .base (.ins ex TF.cl TF.ha TF.hn TF.htk TF.hm), kit_self, _, rfl, iteF ?_⟩
      -- alike
      refine ⟨_, rfl, x, dx, _, rfl, ex, rfl, x, ys, T0, rfl, g0.at_, fun pn npn mpn => ?_⟩
      have w3 := same_upd (o := .lst (ys.map V.str)) npn
      have epn : (upd H2 pn (.lst (ys.map V.str))) pn = some (.lst (ys.map V.str)) := upd_same
      have pnb := bag_ofb B2 npn
      generalize upd H2 pn (.lst (ys.map V.str)) = H3 at w3 epn ⊢
      refine ⟨_, rfl, x, dx, _, rfl, w3 _ _ ex, rfl, x, ys, T0, rfl, (g0.same w3).at_, g0.ti, fun bl xsb Lb H4 nbl mbl s4 ebl hIb bd => ?_⟩
      have w4 := w3.trans s4
      have blb := bag_ofb (B2.same w3) nbl
      obtain rfl : Lb = allOf (lstT ys L) (srcs ys) (srcs ys) := bd.uniq (allOf_bds lk0 hK0 src0 so nd0 ynm few0)
      refine ⟨by show 2 ≤ sizeLine; omega, fun l5 nl5 ml5 => ?_⟩
      have w5' := same_upd (o := .lst [.ref pn, .ref bl]) nl5
      have el5 : (upd H4 l5 (.lst [.ref pn, .ref bl])) l5 = some (.lst [.ref pn, .ref bl]) := upd_same
      have l5b := bag_ofb (B2.same w4) nl5
      have w5 := w4.trans w5'
      have epn5 := w5' _ _ (s4 _ _ epn)
      have ebl5 := w5' _ _ ebl
      have hIb5 := hIb.same w5'
      generalize upd H4 l5 (.lst [.ref pn, .ref bl]) = H5 at w5 el5 epn5 ebl5 hIb5 ⊢
      refine ⟨_, rfl, n, zs, rfl, .inl (SqL.of (w5 _ _ N2.hn)), by omega, fun ys3 r perm3 srt3 nr mr => ?_⟩
      obtain rfl : ys3 = ys := sorted_same srt3 so perm3 N.pm (.refl _)
      have w6' := same_upd (o := .lst (ys3.map V.str)) nr
      have er : (upd H5 r (.lst (ys3.map V.str))) r = some (.lst (ys3.map V.str)) := upd_same
      have rb := bag_ofb (B2.same w5) nr
      have w6 := w5.trans w6'
      have el5 := w6' _ _ el5
      have epn6 := w6' _ _ epn5
      have ebl6 := w6' _ _ ebl5
      have hIb6 := hIb5.same w6'
      generalize upd H5 r (.lst (ys3.map V.str)) = H6 at w6 er el5 epn6 ebl6 hIb6 ⊢
      refine ⟨_, rfl, by show 2 ≤ sizeLine; omega, fun l6 nl6 ml6 => ?_⟩
      have w7' := same_upd (o := .lst [.ref r, .ref p]) nl6
      have el6 : (upd H6 l6 (.lst [.ref r, .ref p])) l6 = some (.lst [.ref r, .ref p]) := upd_same
      have l6b := bag_ofb (B2.same w6) nl6
      have w7 := w6.trans w7'
      have el5 := w7' _ _ el5
      have epn7 := w7' _ _ epn6
      have ebl7 := w7' _ _ ebl6
      have hIb7 := hIb6.same w7'
      have er7 := w7' _ _ er
      have ep7 := w7 _ _ ep2
      have hus7 := hus2.same w7
      have B7 := B2.same w7
      generalize upd H6 l6 (.lst [.ref r, .ref p]) = H7 at w7 el5 epn7 ebl7 hIb7 er7 el6 ep7 hus7 B7 ⊢
      have ynm2 : ∀ {y : Str}, SrcIn ys3 y → y = "" ∨ NmOk y := fun h => h.imp id (ynm _)
      have fl : Flat (.list [.list (ys3.map PyData.str), .list ((allOf (lstT ys3 L) (srcs ys3) (srcs ys3)).map faD)]) := by
        refine flat_pair ynm (by omega) (fun f hf => ?_) (fun f hf => ?_) bd.len
        · obtain ⟨a1, a2⟩ := bd.src g0.ti f hf
          exact ⟨ynm2 a1, ynm2 a2⟩
        · obtain ⟨f1, f2, f3⟩ := f
          obtain ⟨z, hz, hg⟩ := List.mem_flatMap.mp hf
          obtain ⟨rfl, _, _, e⟩ := rowOf_mem.mp hg
          exact rounds_small2 hK0 (in_srcs src0) (by omega) (by omega) hfb e
      refine ⟨b, .ref l5, .ref l6, _, rfl, .lst el5 l5b ml5 (.cons (.lst epn7 pnb mpn (dq_strs _)) (.cons (.lst ebl7 blb mbl (Its.dqs (bag_ntS B7) hIb7)) .nil)), .lst el6 l6b ml6 (.cons (.lst er7 rb mr (dq_strs _)) (.cons (.lst ep7 pb mp (Its.dqs (bag_ntS B7) hus7)) .nil)), fl, ⟨_, rfl, iteF ?_⟩⟩
      -- two sources
      have el37 := w7 _ _ el3
      refine ⟨_, rfl, _, rfl, _, rfl, l3, _, rfl, .inl (SqL.of el37), b, _, rfl, B7.bag, by rw [List.length_map]; omega, by rw [List.length_map]; omega, fun j1 G1 hj1 BG1 kk1 gg1 => ?_⟩
      rw [List.length_map] at hj1
      obtain ⟨u1, hu1, su1⟩ := src_get (ys := ys3) (j := j1) (by omega)
      have el3g := kk1 _ _ l3b el37
      refine ⟨l3, _, j1, _, rfl, rfl, SqL.of el3g, atI_nat hu1, ?_⟩
      refine ⟨_, rfl, _, rfl, _, rfl, l3, _, rfl, .inl (SqL.of el3g), b, _, rfl, BG1, by rw [List.length_map]; omega, by rw [List.length_map]; omega, fun j2 G2 hj2 BG2 kk2 gg2 => ?_⟩
      rw [List.length_map] at hj2
      obtain ⟨u2, hu2, su2⟩ := src_get (ys := ys3) (j := j2) (by omega)
      have el3h := kk2 _ _ l3b el3g
      refine ⟨l3, _, j2, _, rfl, rfl, SqL.of el3h, atI_nat hu2, _, _, rfl, ?_⟩
      simp only [gName, List.set_cons_zero, List.set_cons_succ]
      have kG2 : Keep b H2 G2 := (Keep.same w7).trans (kk1.trans kk2)
      have BG2 := gg2 _ (gg1 _ B7)
      refine ⟨_, rfl, _, rfl, _, rfl, _, rfl, _, rfl, _, rfl, b, rfl, BG2.bag, fun kz G3 kz1 kz2 BG3 kk3 gg3 => ?_⟩
      have kG3 := kG2.trans kk3
      have B3 := gg3 _ BG2
      have FX3 : FM C G3 x ys3 L := FX2.kst yne (Kst.keep B2 kG3)
      have N3 := nf_keep N2 B2 nb ab kG3
      refine ⟨x, n, a, zs, ys3, xs, L, u1, u2, kz, rfl, FX3, N3, su1, su2, fun G4 s4' => ⟨_, rfl, iteF ?_⟩⟩
      have kG4 := kG3.trans (Keep.same s4')
      have B4 := B3.same s4'
      have FE4 : FM C G4 e ys3 L0 := FE2.kst yne (Kst.keep B2 kG4)
      have FX4 : FM C G4 x ys3 L := FX2.kst yne (Kst.keep B2 kG4)
      have em4 : G4 m = some (.tup [.str u, .str v, .int c]) := kG4 _ _ (fun z => bag_ntS B2 _ (by rw [← z]; exact em2)) em2
      have ex4 := kG4 _ _ xb ex
      obtain ⟨de, e0, e1, ee⟩ := FE4.insN
      obtain ⟨⟨Te, ge, lke⟩, nde, soe, srce, ⟨qe, hKe⟩, fewe⟩ := id FE4
      have su : SrcIn ys3 u := (hin _ hm).1
      have sv : SrcIn ys3 v := (hin _ hm).2
      have d0 : lstT ys3 L "" "" = some 0 := by rw [lk0.dia, if_pos (src_mem.mpr (.inl rfl))]
      unfold tNext
      dsimp only
      refine cutK (fun σ' H' => ∃ (bv : V) (W2 : Addr) (f2 : Str → Int), σ' = [some (.ref b), some (.ref x), some (.ref e), some (.ref n), some (.ref a), some (.ref m), some (.ref p), some (.ref l3), some (.str u1), some (.str u2), some bv, some (.ref W2)] ∧ Same G4 H' ∧
        (bv = .non ∨ ∃ W f, bv = .ref W ∧ H' W = some (.dK (startKvs ys3 f)) ∧ f "" = 0 ∧ c + 1 ≤ f u - f v) ∧ H' W2 = some (.dK (startKvs ys3 f2)) ∧ f2 "" = 0 ∧ M.Keeps L f2) ?_ (fun kk => ?_)
      · rintro σ' G5 ⟨bv, W2, f2, rfl, s5, hbv, eW2, f20, hk2⟩
        have kG5 := kG4.trans (Keep.same s5)
        refine cutK (fun σ' H' => σ' = [some (.ref b), some (.ref x), some (.ref e), some (.ref n), some (.ref a), some (.ref m), some (.ref p), some (.ref l3), some (.str u1), some (.str u2), some bv, some (.ref W2)] ∧ Same G5 H') ?_ (fun kk => ?_)
        · rintro σ' G6 ⟨rfl, s6⟩
          have kG6 := kG5.trans (Keep.same s6)
          have eW6 := s6 _ _ eW2
          refine ⟨_, rfl, x, dx, _, rfl, kG6 _ _ xb ex, rfl, _, rfl, x, .ref W2, ys3, T0, rfl, facK kG6, .inr ⟨_, _, .k eW6, by unfold startKvs; rw [List.length_map]; omega, fun z w hz => startOk hz, fun bb G7 s7 iff_ => ?_⟩⟩
          have ok : KeepsT (fun z => valV (startKvs ys3 f2) (.inr z)) (startKvs ys3 f2).length ys3 T0 := by
            refine ⟨by unfold startKvs; rw [List.length_map], fun z hz => ⟨_, startV hz⟩, fun y1 y2 d e => ?_⟩
            obtain ⟨a1, a2⟩ := g0.ti.in_ _ _ _ e
            obtain ⟨nn, wk⟩ := lk0.walk hK0 src0 e
            rw [asgS f20 a1, asgS f20 a2]
            exact wk.pot hk2
          obtain rfl := iff_.mpr ok
          refine ⟨true, true, rfl, rfl, _, rfl, iteT ?_⟩
          have kG7 := kG6.trans (Keep.same s7)
          have N7 := nf_keep N2 B2 nb ab kG7
          refine ⟨_, rfl, _, rfl, _, rfl, n, a, W2, zs, ys3, xs, L, f2, rfl, N7.hn, N7.pm, so, by omega, N7.nm, N7.ha, N7.hI, N7.ll, src0.perm N7.pm, s7 _ _ eW6, f20, hk2, fun G8 s8 => ?_⟩
          have B8 : BagAt G8 b c0 := (((B4.same s5).same s6).same s7).same s8
          exact q G8 B8.bag (k2.trans (kG7.trans (Keep.same s8))) (onlyC B8)
        · rcases hbv with rfl | ⟨W, f, rfl, eW, f0, hge⟩
          · exact ⟨_, rfl, rfl, _, rfl, iteF (kk _ _ ⟨rfl, fun _ _ e => e⟩)⟩
          · refine ⟨_, rfl, rfl, _, rfl, iteT ?_⟩
            refine ⟨_, rfl, x, dx, _, rfl, kG5 _ _ xb ex, rfl, _, rfl, x, .ref W, ys3, T0, rfl, facK kG5, .inr ⟨_, _, .k eW, by unfold startKvs; rw [List.length_map]; omega, fun z w hz => startOk hz, fun bb G7 s7 iff_ => ?_⟩⟩
            have no : ¬ bb = true := fun hb => by
              obtain ⟨_, _, h3⟩ := iff_.mp hb
              by_cases euv : u = v
              · have := hK0 _ _ _ hm
                rw [euv] at this hge
                omega
              · obtain ⟨g, eg, lg⟩ := lk0.fact hK0 src0 hm euv
                have := h3 _ _ _ eg
                rw [asgS f0 su, asgS f0 sv] at this
                omega
            obtain rfl : bb = false := by cases bb; rfl; exact absurd rfl no
            exact ⟨false, false, rfl, rfl, _, rfl, iteF (kk _ _ ⟨rfl, s7⟩)⟩
      · refine ⟨_, rfl, e, de, _, rfl, ee, rfl, _, rfl, m, _, 0, _, rfl, rfl, SqT.of em4, rfl, _, rfl, m, _, 1, _, rfl, rfl, SqT.of em4, rfl, _, rfl, m, _, 2, _, rfl, rfl, SqT.of em4, rfl, _, _, rfl, rfl, e, ys3, Te, L0, qe, u, v, c + 1, rfl, ge, nde, lke, srce, hKe, fewe, su, sv, (fun _ G5 s5 => ?_), (fun _ G5 W f s5 nW eW _ _ hge f0 => ?_)⟩
        · refine ⟨_, rfl, x, dx, _, rfl, s5 _ _ ex4, rfl, x, ys3, T0, L, q0, "", "", 0, rfl, facK (kG4.trans (Keep.same s5)), nd0, lk0, src0, hK0, few0, .inl rfl, .inl rfl, (fun ⟨g, eg, lt⟩ => by rw [d0] at eg; cases eg; exact absurd lt (by omega)), (fun _ G6 W2 f2 s6 nW2 eW2 _ hk2 _ f20 => ⟨_, _, rfl, kk _ _ ⟨.non, W2, f2, rfl, s5.trans s6, .inl rfl, eW2, f20, hk2⟩⟩)⟩
        · refine ⟨_, rfl, x, dx, _, rfl, s5 _ _ ex4, rfl, x, ys3, T0, L, q0, "", "", 0, rfl, facK (kG4.trans (Keep.same s5)), nd0, lk0, src0, hK0, few0, .inl rfl, .inl rfl, (fun ⟨g, eg, lt⟩ => by rw [d0] at eg; cases eg; exact absurd lt (by omega)), (fun _ G6 W2 f2 s6 nW2 eW2 _ hk2 _ f20 => ⟨_, _, rfl, kk _ _ ⟨.ref W, W2, f2, rfl, s5.trans s6, .inr ⟨W, f, rfl, s6 _ _ eW, f0, hge⟩, eW2, f20, hk2⟩⟩)⟩
end
end Fv


set_option Elab.async false
set_option linter.all false
set_option maxRecDepth 100000
set_option maxHeartbeats 4000000
namespace Fv
open PySem PySem.Spec PyProof.Rows L2
/-! ### what is no source is refused -/
abbrev sDoors : Stmt := top 39
abbrev nDo : List Str := ["_law_bag_here", "_law_facts_here", "_law_names_here", "_law_strange", "_law_some", "_law_x", "_law_y", "_law_due", "e"]
def spStartA (C CE : Addr) : Sp := fun vs H _ E => ∃ (x : Addr) (zs : List Str) (T : M.Tb Str) (u v z : Str) (k : Int), vs = [.ref x, .str u, .str v, .int k] ∧ FacAt C H x zs T ∧ Bad2 zs u v z ∧
  ∀ (H1 : Hp) (dx : Addr), Same H H1 → H1 dx = none → E (.ref CE) (some dx) (upd H1 dx (.xd [("name", .str z)]))
def spDoors (C : Addr) : Sp := fun vs H Q _ => ∃ (b : V) (x n : Addr) (zs ys : List Str) (L : List FaT), vs = [b, .ref x, .ref n] ∧ FM C H x ys L ∧ H n = some (.lst (zs.map V.str)) ∧ ys.Perm zs ∧ ZQ zs ∧ ∀ H', Same H H' → Q (.bl true) H'
/-- a text that is no name -/
structure OutS (ys : List Str) (z : Str) : Prop where
  out : z ∉ ys
  ne : z ≠ ""
  sh : SeqAt.shaped (.tuple [.str "name", .str z]) = true
theorem OutS.no {ys : List Str} {z : Str} (h : OutS ys z) : ¬ SrcIn ys z := fun k => k.elim h.ne h.out
theorem inV_strs (z : Str) (zs : List Str) : inV (.str z) (zs.map V.str) = decide (z ∈ zs) := by
  unfold inV
  rw [List.any_map, Bool.eq_iff_iff, List.any_eq_true, decide_eq_true_eq]
  constructor
  · rintro ⟨y, hy, e⟩
    have e : (y == z) = true := e
    rw [← beq_iff_eq.mp e]
    exact hy
  · intro h
    exact ⟨z, h, by show (z == z) = true; exact beq_self_eq_true z⟩
theorem flat_strs (zs : List Str) : (zs.map V.str).all flatV = true := by
  rw [List.all_map, List.all_eq_true]
  exact fun _ _ => rfl
section
variable {P : Program} {w : World} {K : PySem.W.Frag} {mg : Str → Option Value} {base : Heap} {C CE : Addr}
theorem ok_startA {fg f : Addr} {fd fdg : FuncData} (T : FacC K C) (F : Fun K "start_with" "Facts.start_with" sStartW f fd)
    (Mg : Meth K C "greatest" fg) (Gg : FnOk P w K mg base (L2.CX P w) 5 fg fdg ["self", "x", "y"] (spCheckA C CE)) (bg : Binds K fdg ["self", "x", "y"] []) :
    FnOk P w K mg base (L2.CX P w) 6 f fd ["self", "x", "y", "number"] (spStartA C CE) := by
  refine F.okX scSw (fun vs H Q E h => ?_) (fun cdv A outer s H vs Q E hr h => ?_)
  · obtain ⟨_, _, _, _, _, _, _, rfl, _⟩ := h
    rfl
  · obtain ⟨x, zs, T0, u, v, z, k, rfl, FA, bad, qE⟩ := h
    refine ⟨_, pss_cons (ps_set (i := 4) scSw.nd rfl (.inl rfl) (pe_meth (E := E) (pv 0) T.cl Mg Gg hr bg .nil (passes_call (W := fun cls d _ H => E cls d H) (takes_of rfl rfl rfl rfl) (fun _ _ _ _ h => h)) (pa_cons (pv 1) (pa_cons (pv 2) pa_nil)))) pss_dead, ?_⟩
    obtain ⟨n, dx, q0, kvs, h1, h4, h5, h6, h7⟩ := id FA
    exact ⟨_, rfl, x, dx, _, rfl, h1, rfl, _, rfl, _, rfl, x, zs, T0, u, v, z, rfl, FA, bad, qE⟩
theorem scDo : FnScope nDo ["_law_bag_here", "_law_facts_here", "_law_names_here"] (defScope sDoors) := ⟨rfl, rfl, rfl, by decide +kernel, rfl, by decide +kernel, by decide +kernel⟩
theorem ok_doors {f fm fs : Addr} {fd fdm fds : FuncData} (F : Fun K "_law_doors" "_law_doors" sDoors f fd) (T : FacC K C) (TE : CatchC K mg "NoName" "name" CE)
    (Gm : FnOk P w K mg base CX0 8 fm fdm ["_law_style", "_law_one", "_law_two", "_law_more_here"] (spMore C)) (bm : Binds K fdm ["_law_style", "_law_one", "_law_two", "_law_more_here"] []) (mm : mg "_law_more" = some (.ref fm)) (km : PySem.W.keepIn K (.ref fm) = true)
    (Ms : Meth K C "start_with" fs) (Gs : FnOk P w K mg base (L2.CX P w) 6 fs fds ["self", "x", "y", "number"] (spStartA C CE)) (bs : Binds K fds ["self", "x", "y", "number"] []) :
    FnOk P w K mg base CX0 9 f fd ["_law_bag_here", "_law_facts_here", "_law_names_here"] (spDoors C) := by
  refine F.ok scDo (fun vs H Q E h => ?_) (fun cdv A outer s H vs Q E hr h => ?_)
  · obtain ⟨_, _, _, _, _, _, rfl, _⟩ := h
    rfl
  · obtain ⟨b, x, n, zs, ys, L, rfl, FX, hn, pm, zq, q⟩ := h
    have hu := hr.units
    have hr6 : Room 6 _ := hr.mono (by decide)
    refine ⟨_, pss_cons (ps_set (i := 3) scDo.nd rfl (.inl rfl) (pe_lst (pa_cons pe_str (pa_cons pe_str pa_nil))))
      (pss_cons (ps_if (PW.pt (pw_or (pt_cmpR op_in_seq pe_str (pv 2) (by rfl)) (pw_or1 (pt_cmpR op_in_seq pe_str (pv 2) (by rfl))))) (pss_one (ps_set (i := 3) scDo.nd rfl (.inl rfl) (pe_lst (pa_cons pe_str (pa_cons pe_str pa_nil))))) pss_nil)
      (pss_cons (ps_set (i := 4) scDo.nd rfl (.inl rfl) (pe_lst (pa_cons (pe_tup (pa_cons (pe_ix ix_list (pv 3) pe_int (fun _ _ => rfl)) (pa_cons (pe_ix ix_list (pv 3) pe_int (fun _ _ => rfl)) pa_nil)))
          (pa_cons (pe_tup (pa_cons (pe_ix ix_list (pv 3) pe_int (fun _ _ => rfl)) (pa_cons pe_str pa_nil))) (pa_cons (pe_tup (pa_cons pe_str (pa_cons (pe_ix ix_list (pv 3) pe_int (fun _ _ => rfl)) pa_nil)))
          (pa_cons (pe_tup (pa_cons (pe_ix ix_list (pv 3) pe_int (fun _ _ => rfl)) (pa_cons (pe_ix ix_list (pv 3) pe_int (fun _ _ => rfl)) pa_nil))) pa_nil))))))
      (pss_cons (ps_for PassesOwn.never rfl (pi_list (pv 4)) (pg_tup (by rfl) (pgs_cons (pg_name (i := 5) scDo.nd rfl (.inl rfl)) (pgs_cons (pg_name (i := 6) scDo.nd rfl (.inl rfl)) pgs_nil)))
        (pss_cons (ps_set (i := 7) scDo.nd rfl (.inl rfl) (pe_tup (pa_cons pe_str (pa_cons (pe_ix ix_list (pv 3) pe_int (fun _ _ => rfl)) pa_nil))))
        (pss_cons (ps_if (pt_cmpR (op_neD hu) (pe_call Gm hr (by rfl) mm km bm .nil pass0 (pa_cons pe_int (pa_cons (pv 1) (pa_cons (pv 1) (pa_cons (pe_tup (pa_cons (pv 5) (pa_cons (pv 6) (pa_cons pe_int pa_nil)))) pa_nil))))) (pv 7) (nomark _)) pss_dead pss_nil)
        (pss_one (ps_try_as (i := 8) (Wout := fun _ _ _ _ => False) rfl rfl scDo.nd rfl rfl ⟨rfl, by decide, Or.inl TE.gC⟩ takes0
          (fun W pn xe tk _ => pss_cons (ps_expr (by exact (pe_methE (pv 1) T.cl Ms Gs hr6 bs (fun σ => passAt tk σ) (by exact (pa_cons (pv 5) (pa_cons (pv 6) (pa_cons pe_int pa_nil))))))) pss_dead)
          (fun a oe cls d pn hz hf => pss_one (ps_if (pt_cmpR op_ne (pe_xf (xf_of TE.ec) TE.no hz hf (pv 8)) (pe_ix (r := rIxL K) ix_list (pv 3) pe_int (fun _ _ => rfl)) (nomark _)) pss_dead pss_nil)))))))
      (pss_one (ps_ret pe_bl))))), ?_⟩
    rw [show L2.start nDo [b, V.ref x, V.ref n] = [some b, some (.ref x), some (.ref n), none, none, none, none, none, none] from rfl]
    have h100 : 100 < sizeLine := by decide
    refine ⟨by show 2 ≤ sizeLine; omega, fun p0 np0 => ?_⟩
    have w0 := same_upd (o := .lst [.str ("zzzzzzzz" : Str), .str ("yyyyyyyy" : Str)]) np0
    have ep0 : (upd H p0 (.lst [.str ("zzzzzzzz" : Str), .str ("yyyyyyyy" : Str)])) p0 = some (.lst [.str ("zzzzzzzz" : Str), .str ("yyyyyyyy" : Str)]) := upd_same
    generalize upd H p0 (.lst [.str ("zzzzzzzz" : Str), .str ("yyyyyyyy" : Str)]) = H0 at w0 ep0 ⊢
    simp only [gName, List.set_cons_zero, List.set_cons_succ]
    refine cutK (fun σ' H' => ∃ (p : Addr) (s0 s1 : Str), σ' = [some b, some (.ref x), some (.ref n), some (.ref p), none, none, none, none, none] ∧ Same H H' ∧ H' p = some (.lst [.str s0, .str s1]) ∧ OutS ys s0) ?_ (fun k => ?_)
    · rintro σ' H1 ⟨p, s0, s1, rfl, w1, ep, out⟩
      refine ⟨_, rfl, p, _, 0, _, rfl, rfl, SqL.of ep, rfl, _, rfl, p, _, 1, _, rfl, rfl, SqL.of ep, rfl, by show 2 ≤ sizeLine; omega, fun t1 nt1 => ?_⟩
      have v1 := same_upd (o := .tup [.str s0, .str s1]) nt1
      have et1 : (upd H1 t1 (.tup [.str s0, .str s1])) t1 = some (.tup [.str s0, .str s1]) := upd_same
      generalize upd H1 t1 (.tup [.str s0, .str s1]) = G1 at v1 et1 ⊢
      have ep1 := v1 _ _ ep
      refine ⟨_, rfl, p, _, 0, _, rfl, rfl, SqL.of ep1, rfl, by show 2 ≤ sizeLine; omega, fun t2 nt2 => ?_⟩
      have v2 := same_upd (o := .tup [.str s0, .str ("" : Str)]) nt2
      have et2 : (upd G1 t2 (.tup [.str s0, .str ("" : Str)])) t2 = some (.tup [.str s0, .str ("" : Str)]) := upd_same
      generalize upd G1 t2 (.tup [.str s0, .str ("" : Str)]) = G2 at v2 et2 ⊢
      have ep2 := v2 _ _ ep1
      refine ⟨_, rfl, p, _, 0, _, rfl, rfl, SqL.of ep2, rfl, by show 2 ≤ sizeLine; omega, fun t3 nt3 => ?_⟩
      have v3 := same_upd (o := .tup [.str ("" : Str), .str s0]) nt3
      have et3 : (upd G2 t3 (.tup [.str ("" : Str), .str s0])) t3 = some (.tup [.str ("" : Str), .str s0]) := upd_same
      generalize upd G2 t3 (.tup [.str ("" : Str), .str s0]) = G3 at v3 et3 ⊢
      have ep3 := v3 _ _ ep2
      refine ⟨_, rfl, p, _, 0, _, rfl, rfl, SqL.of ep3, rfl, _, rfl, p, _, 0, _, rfl, rfl, SqL.of ep3, rfl, by show 2 ≤ sizeLine; omega, fun t4 nt4 => ?_⟩
      have v4 := same_upd (o := .tup [.str s0, .str s0]) nt4
      have et4 : (upd G3 t4 (.tup [.str s0, .str s0])) t4 = some (.tup [.str s0, .str s0]) := upd_same
      generalize upd G3 t4 (.tup [.str s0, .str s0]) = G4 at v4 et4 ⊢
      have ep4 := v4 _ _ ep3
      refine ⟨by show 4 ≤ sizeLine; omega, fun l nl => ?_⟩
      have v5 := same_upd (o := .lst [.ref t1, .ref t2, .ref t3, .ref t4]) nl
      have el : (upd G4 l (.lst [.ref t1, .ref t2, .ref t3, .ref t4])) l = some (.lst [.ref t1, .ref t2, .ref t3, .ref t4]) := upd_same
      have r1 := v5 _ _ (v4 _ _ (v3 _ _ (v2 _ _ et1)))
      have r2 := v5 _ _ (v4 _ _ (v3 _ _ et2))
      have r3 := v5 _ _ (v4 _ _ et3)
      have r4 := v5 _ _ et4
      have ep5 := v5 _ _ ep4
      have w5 := w1.trans (v1.trans (v2.trans (v3.trans (v4.trans v5))))
      generalize upd G4 l (.lst [.ref t1, .ref t2, .ref t3, .ref t4]) = G5 at el r1 r2 r3 r4 ep5 w5 ⊢
      simp only [gName, List.set_cons_zero, List.set_cons_succ]
      have item : ∀ (i : Nat) (x : V), ([.ref t1, .ref t2, .ref t3, .ref t4] : List V)[i]? = some x → ∃ (t : Addr) (u v : Str), x = .ref t ∧ G5 t = some (.tup [.str u, .str v]) ∧ Bad2 ys u v s0 := fun i x h => by
        match i, h with
        | 0, h => cases h; exact ⟨t1, s0, s1, rfl, r1, .inl ⟨rfl, out.no⟩⟩
        | 1, h => cases h; exact ⟨t2, s0, "", rfl, r2, .inl ⟨rfl, out.no⟩⟩
        | 2, h => cases h; exact ⟨t3, "", s0, rfl, r3, .inr ⟨.inl rfl, rfl, out.no⟩⟩
        | 3, h => cases h; exact ⟨t4, s0, s0, rfl, r4, .inl ⟨rfl, out.no⟩⟩
        | i + 4, h => simp at h
      refine ⟨_, rfl, l, rfl, ⟨_, SqL.of el⟩, ?_⟩
      refine for_list (K := K) (a := l) (xs := [.ref t1, .ref t2, .ref t3, .ref t4]) (fun i σ H' => ∃ y5 y6 y7 : Option V, σ = [some b, some (.ref x), some (.ref n), some (.ref p), some (.ref l), y5, y6, y7, none] ∧ Same G5 H')
        ⟨_, _, _, rfl, fun _ _ e => e⟩ (fun i σ H' _ h => by
          obtain ⟨_, _, _, _, s'⟩ := h
          exact SqL.of (s' _ _ el)) ?_ ?_
      · rintro i y σ G6 hyi ⟨y5, y6, y7, rfl, s6⟩
        obtain ⟨t, u, v, rfl, et, bad⟩ := item i y hyi
        refine ⟨t, _, rfl, SqT.of (s6 _ _ et), rfl, _, _, rfl, _, _, rfl, rfl, ?_⟩
        simp only [gName, List.set_cons_zero, List.set_cons_succ]
        refine ⟨_, rfl, p, _, 0, _, rfl, rfl, SqL.of (s6 _ _ ep5), rfl, by show 2 ≤ sizeLine; omega, fun td ntd => ?_⟩
        have w7 := s6.trans (same_upd (o := .tup [.str ("name" : Str), .str s0]) ntd)
        have etd : (upd G6 td (.tup [.str ("name" : Str), .str s0])) td = some (.tup [.str ("name" : Str), .str s0]) := upd_same
        generalize upd G6 td (.tup [.str ("name" : Str), .str s0]) = G7 at w7 etd ⊢
        simp only [gName, List.set_cons_zero, List.set_cons_succ]
        refine ⟨_, rfl, _, rfl, _, rfl, _, rfl, by show 3 ≤ sizeLine; omega, fun tm ntm => ?_⟩
        have w8' := same_upd (o := .tup [.str u, .str v, .int 1]) ntm
        have w8 := w7.trans w8'
        have FX8 := FX.same (w5.trans w8)
        refine ⟨x, tm, .ref x, ys, L, u, v, 1, upd_same, FX8, .inl ⟨rfl, .inl ⟨s0, bad, fun G9 tr s9 etr => ?_⟩⟩⟩
        have w9 := w8.trans s9
        refine ⟨_, rfl, .tuple [.str "name", .str s0], .tuple [.str "name", .str s0], .tup (SqT.of etr) (.cons (.str _) (.cons (.str _) .nil)), .tup (SqT.of (s9 _ _ (w8' _ _ etd))) (.cons (.str _) (.cons (.str _) .nil)), out.sh, out.sh, _, rfl, ?_⟩
        rw [SeqAt.eqv_refl _ (SeqAt.canLay_of_shaped out.sh)]
        refine iteF ?_
        have FX9 := FX8.same s9
        obtain ⟨dx, m0, m1, ex⟩ := FX9.insN
        obtain ⟨⟨T0, g0, lk0⟩, _⟩ := id FX9
        refine ⟨_, rfl, x, dx, _, rfl, ex, rfl, _, rfl, _, rfl, x, ys, T0, u, v, s0, 1, rfl, g0.at_, bad, fun G10 dd s10 ndd => ?_⟩
        refine ⟨true, TE.em, fun _ a na => ?_, fun z => nomatch z⟩
        have w10 := (w9.trans s10).trans (same_upd (o := .xd [("name", .str s0)]) ndd)
        refine ⟨_, rfl, rfl, rfl, dd, _, _, rfl, upd_same, rfl, _, rfl, p, _, 0, _, rfl, rfl, SqL.of (w10 _ _ ep5), rfl, rfl, _, rfl, ite2 (fun e => ?_) (fun e => ?_)⟩
        · simp at e
        · exact ⟨_, _, _, rfl, w10⟩
      · rintro σ G6 ⟨y5, y6, y7, rfl, s6⟩
        exact q _ (w5.trans s6)
    · have hn0 := w0 _ _ hn
      have y1 : ∀ {z : Str}, z ∉ zs → z ∉ ys := fun h m => h (pm.mem_iff.mp m)
      refine ⟨_, rfl, n, _, rfl, .inl (SqL.of hn0), rfl, flat_strs zs, _, rfl, ?_⟩
      rw [inV_strs]
      by_cases hz : ("zzzzzzzz" : Str) ∈ zs
      · rw [decide_eq_true hz]
        refine iteT ⟨by show 2 ≤ sizeLine; omega, fun p1 np1 => k _ _ ⟨p1, "qqqqqqqq", "rrrrrrrr", rfl, w0.trans (same_upd np1), upd_same, y1 (zq.1 hz), by decide +kernel, by decide +kernel⟩⟩
      · rw [decide_eq_false hz]
        refine iteF ⟨_, rfl, n, _, rfl, .inl (SqL.of hn0), rfl, flat_strs zs, _, rfl, ?_⟩
        rw [inV_strs]
        by_cases hy : ("yyyyyyyy" : Str) ∈ zs
        · rw [decide_eq_true hy]
          refine iteT ⟨by show 2 ≤ sizeLine; omega, fun p1 np1 => k _ _ ⟨p1, "qqqqqqqq", "rrrrrrrr", rfl, w0.trans (same_upd np1), upd_same, y1 (zq.2.2 hy), by decide +kernel, by decide +kernel⟩⟩
        · rw [decide_eq_false hy]
          exact iteF (k _ _ ⟨p0, "zzzzzzzz", "yyyyyyyy", rfl, w0, ep0, y1 hz, by decide +kernel, by decide +kernel⟩)
end
end Fv


set_option Elab.async false
set_option linter.all false
set_option maxRecDepth 100000
set_option maxHeartbeats 4000000
namespace Fv
open PySem PySem.Spec PyProof.Rows L2
/-! ### Facts of other names -/
abbrev sUnlike : Stmt := top 40
abbrev nUn : List Str := ["_law_facts_here", "_law_names_here", "_law_more_here", "_law_strange", "_law_others", "_law_one", "_law_other"]
def spUnlike (C : Addr) : Sp := fun vs H Q _ => ∃ (x n m : Addr) (zs ys : List Str) (L : List FaT) (u v : Str) (c : Int), vs = [.ref x, .ref n, .ref m] ∧ FM C H x ys L ∧ H n = some (.lst (zs.map V.str)) ∧ ys.Perm zs ∧ zs ≠ [] ∧ (∀ z ∈ zs, NmOk z) ∧ zs.length ≤ 4 ∧ ZQ zs ∧ H m = some (.tup [.str u, .str v, .int c]) ∧ ∀ H', Same H H' → Q (.bl true) H'
theorem cut_from (xs : List V) (k : Nat) : cutV xs (some (k : Int)) none = xs.drop k := by
  unfold cutV
  rw [HT.sIx_none, HT.sIx_nat]
  rw [List.take_of_length_le (by rw [List.length_drop]; omega)]
  by_cases h : k ≤ xs.length
  · rw [Nat.min_eq_left h]
  · rw [Nat.min_eq_right (by omega), List.drop_of_length_le (Nat.le_refl _), List.drop_of_length_le (by omega)]
theorem ini_fm {C : Addr} {H : Hp} {x n a dx : Addr} {zs : List Str} {xs : List V} {F : List FaT} {p : Str → Int} {Q : VK} {E : XK} (hx : H x = some (.ins C dx [])) (hn : H n = some (.lst (zs.map V.str))) (ha : H a = some (.lst xs)) (hI : Its H xs F) (nm : ∀ z ∈ zs, NmOk z) (nd : zs.Nodup) (zl : zs.length ≤ 5) (ll : F.length ≤ 60) (hin : SrcAll zs F) (hK : M.Keeps F p)
    (q : ∀ H' ys, ys.Perm zs → SameX x H H' → FM C H' x ys F → Q .non H') : spIni C [.ref x, .ref n, .ref a] H Q E := by
  refine ⟨x, n, a, dx, zs, xs, F, p, rfl, hx, hn, ha, hI, nm, nd, by omega, ll, hin, hK, fun H' ys T Z m nm' perm so fa cl hM sX => q H' ys perm sX ?_⟩
  have hinY : SrcAll ys F := fun f hf => ⟨(hin f hf).1.imp id perm.mem_iff.mpr, (hin f hf).2.imp id perm.mem_iff.mpr⟩
  have few : ys.length ≤ 5 := by rw [perm.length_eq]; exact zl
  exact ⟨⟨T, ⟨⟨m, fa⟩, TIn.of (by omega) cl hinY, fun z hz => nm z (perm.mem_iff.mp hz)⟩, Lk.of hK hinY cl hM⟩, perm.nodup_iff.mpr nd, so, hinY, ⟨p, hK⟩, few⟩
section
variable {P : Program} {w : World} {K : PySem.W.Frag} {mg : Str → Option Value} {base : Heap} {C ad : Addr} {oe : Obj}
theorem scUn : FnScope nUn ["_law_facts_here", "_law_names_here", "_law_more_here"] (defScope sUnlike) := ⟨rfl, rfl, rfl, by decide +kernel, rfl, by decide +kernel, by decide +kernel⟩
theorem ok_unlike {f fm iF : Addr} {fd fdm fdI fdJ : FuncData} (F : Fun K "_law_unlike" "_law_unlike" sUnlike f fd)
    (Gm : FnOk P w K mg base CX0 8 fm fdm ["_law_style", "_law_one", "_law_two", "_law_more_here"] (spMore C)) (bm : Binds K fdm ["_law_style", "_law_one", "_law_two", "_law_more_here"] []) (mm : mg "_law_more" = some (.ref fm)) (km : PySem.W.keepIn K (.ref fm) = true)
    (MK : Mk K C iF) (GI : FnOk P w K mg base CX0 5 iF fdI ["self", "names", "facts"] (spIni C)) (bI : Binds K fdI ["self", "names", "facts"] []) (GJ : FnOk P w K mg base CX0 3 iF fdJ ["self", "names", "facts"] (spIni0 K C)) (bJ : Binds K fdJ ["self", "names", "facts"] [.ref ad]) (gC : mg "Facts" = some (.ref C)) (lk : K.lookup ad = some oe) (ct : oe.cls = .type "tuple") (ht : ∀ H, SqT K H ad []) :
    FnOk P w K mg base CX0 9 f fd ["_law_facts_here", "_law_names_here", "_law_more_here"] (spUnlike C) := by
  refine F.ok scUn (fun vs H Q E h => ?_) (fun cdv A outer s H vs Q E hr h => ?_)
  · obtain ⟨_, _, _, _, _, _, _, _, _, rfl, _⟩ := h
    rfl
  · obtain ⟨x, n, m, zs, ys, L, u, v, c, rfl, FX, hn, pm, zne, nm, z4, zq, em, q⟩ := h
    have hu := hr.units
    have hr4 : Room 4 _ := hr.mono (by decide)
    have hr6 : Room 6 _ := hr.mono (by decide)
    refine ⟨_, pss_cons (ps_set (i := 3) scUn.nd rfl (.inl rfl) (pe_ifExp (pt_cmpR op_notIn_seq pe_str (pv 1) (by rfl)) pe_str pe_str))
      (pss_cons (ps_for PassesOwn.never rfl (pi_tup (pe_tup (pa_cons (pe_op op_cat (pv 1) (pe_lst (pa_cons (pv 3) pa_nil))) (pa_cons (pe_op op_cat (pe_slice sl_list (pv 1) (po_some pe_int) po_none) (pe_lst (pa_cons (pv 3) pa_nil))) pa_nil)))) (pg_name (i := 4) scUn.nd rfl (.inl rfl))
        (pss_one (ps_if (pt_cmpR op_ne (pe_call Gm hr (by rfl) mm km bm .nil pass0 (pa_cons pe_int (pa_cons (pv 0) (pa_cons (pe_make MK GJ hr4 (by rfl) gC bJ (dvs := [.ref ad]) (.cons rfl .nil) pass0 (pa_cons (pv 4) pa_nil)) (pa_cons (pv 2) pa_nil))))) pe_str (nomark _)) pss_dead pss_nil)))
      (pss_cons (ps_set (i := 5) scUn.nd rfl (.inl rfl) (pe_make MK GI hr6 (by rfl) gC bI (dvs := []) .nil pass0 (pa_cons (pv 1) (pa_cons (pe_lst (pa_cons (pe_tup (pa_cons (pe_ix ix_list (pv 1) pe_int (fun _ _ => rfl)) (pa_cons pe_str (pa_cons pe_int pa_nil)))) pa_nil)) pa_nil))))
      (pss_cons (ps_set (i := 6) scUn.nd rfl (.inl rfl) (pe_make MK GI hr6 (by rfl) gC bI (dvs := []) .nil pass0 (pa_cons (pe_op op_cat (pv 1) (pe_lst (pa_cons (pv 3) pa_nil)))
          (pa_cons (pe_lst (pa_cons (pe_tup (pa_cons pe_str (pa_cons (pe_ix ix_list (pv 1) pe_int (fun _ _ => rfl)) (pa_cons (pe_un un_neg pe_int) pa_nil)))) (pa_cons (pe_tup (pa_cons (pv 3) (pa_cons pe_str (pa_cons pe_int pa_nil)))) pa_nil))) pa_nil))))
      (pss_one (ps_ret (pe_and (pe_cmpR op_eq (pe_call Gm hr (by rfl) mm km bm .nil pass0 (pa_cons pe_int (pa_cons (pv 5) (pa_cons (pv 6) (pa_cons (pv 2) pa_nil))))) pe_str (nomark _))
        (pe_one (pe_cmpR op_eq (pe_call Gm hr (by rfl) mm km bm .nil pass0 (pa_cons pe_int (pa_cons (pv 6) (pa_cons (pv 5) (pa_cons (pv 2) pa_nil))))) pe_str (nomark _))))))))), ?_⟩
    rw [show L2.start nUn [V.ref x, V.ref n, V.ref m] = [some (.ref x), some (.ref n), some (.ref m), none, none, none, none] from rfl]
    have h100 : 100 < sizeLine := by decide
    obtain ⟨z0, zt, rfl⟩ : ∃ z0 zt, zs = z0 :: zt := by
      cases zs with
      | nil => exact absurd rfl zne
      | cons z0 zt => exact ⟨z0, zt, rfl⟩
    have nd : (z0 :: zt).Nodup := pm.nodup_iff.mp FX.nd
    have hz0 := nm z0 List.mem_cons_self
    have z4' : zt.length + 1 ≤ 4 := z4
    refine cutK (fun σ' H' => ∃ sg : Str, σ' = [some (.ref x), some (.ref n), some (.ref m), some (.str sg), none, none, none] ∧ H' = H ∧ NmOk sg ∧ sg ∉ z0 :: zt) ?_ (fun k => ?_)
    · rintro σ' H' ⟨sg, rfl, rfl, hsg, nsg⟩
      have nsy : sg ∉ ys := fun h => nsg (pm.mem_iff.mp h)
      have nm5 : ∀ {ws : List Str}, (∀ z ∈ ws, z ∈ z0 :: zt) → ∀ z ∈ ws ++ [sg], NmOk z := fun {ws} hw z hz => by
        rcases List.mem_append.mp hz with h | h
        · exact nm z (hw z h)
        · rw [List.mem_singleton.mp h]
          exact hsg
      have nd5 : ∀ {ws : List Str}, ws.Nodup → (∀ z ∈ ws, z ∈ z0 :: zt) → (ws ++ [sg]).Nodup := fun {ws} h hw => List.nodup_append.mpr ⟨h, List.pairwise_singleton .., fun a ha b hb e => nsg (by rw [← List.mem_singleton.mp hb, ← e]; exact hw a ha)⟩
      refine ⟨_, rfl, _, rfl, by show 1 ≤ sizeLine; omega, fun l1 nl1 => ?_⟩
      have w1 := same_upd (o := .lst [.str sg]) nl1
      have el1 : (upd H' l1 (.lst [.str sg])) l1 = some (.lst [.str sg]) := upd_same
      generalize upd H' l1 (.lst [.str sg]) = G1 at w1 el1 ⊢
      refine ⟨n, l1, _, _, rfl, rfl, w1 _ _ hn, el1, by rw [List.length_map, List.length_cons]; show _ + 1 ≤ _; omega, fun o1 no1 => ?_⟩
      have w2 := w1.trans (same_upd (o := .lst ((z0 :: zt).map V.str ++ [.str sg])) no1)
      have eo1 : (upd G1 o1 (.lst ((z0 :: zt).map V.str ++ [.str sg]))) o1 = some (.lst (((z0 :: zt) ++ [sg]).map V.str)) := by
        rw [upd_same, List.map_append]
        rfl
      generalize upd G1 o1 (.lst ((z0 :: zt).map V.str ++ [.str sg])) = G2 at w2 eo1 ⊢
      refine ⟨_, rfl, _, rfl, n, _, rfl, SqL.of (w2 _ _ hn), fun l2 nl2 => ?_⟩
      rw [show cutV ((z0 :: zt).map V.str) (some 1) none = zt.map V.str from (cut_from _ 1).trans rfl]
      have w3' := same_upd (o := .lst (zt.map V.str)) nl2
      have w3 := w2.trans w3'
      have el2 : (upd G2 l2 (.lst (zt.map V.str))) l2 = some (.lst (zt.map V.str)) := upd_same
      have eo13 := w3' _ _ eo1
      generalize upd G2 l2 (.lst (zt.map V.str)) = G3 at w3 el2 eo13 ⊢
      refine ⟨_, rfl, by show 1 ≤ sizeLine; omega, fun l3 nl3 => ?_⟩
      have w4' := same_upd (o := .lst [.str sg]) nl3
      have w4 := w3.trans w4'
      have el3 : (upd G3 l3 (.lst [.str sg])) l3 = some (.lst [.str sg]) := upd_same
      have el24 := w4' _ _ el2
      have eo14 := w4' _ _ eo13
      generalize upd G3 l3 (.lst [.str sg]) = G4 at w4 el3 el24 eo14 ⊢
      refine ⟨l2, l3, _, _, rfl, rfl, el24, el3, by rw [List.length_map]; show _ + 1 ≤ _; omega, fun o2 no2 => ?_⟩
      have w5' := same_upd (o := .lst (zt.map V.str ++ [.str sg])) no2
      have w5 := w4.trans w5'
      have eo2 : (upd G4 o2 (.lst (zt.map V.str ++ [.str sg]))) o2 = some (.lst ((zt ++ [sg]).map V.str)) := by
        rw [upd_same, List.map_append]
        rfl
      have eo15 := w5' _ _ eo14
      generalize upd G4 o2 (.lst (zt.map V.str ++ [.str sg])) = G5 at w5 eo2 eo15 ⊢
      refine ⟨by show 2 ≤ sizeLine; omega, fun t nt => ?_⟩
      have w6' := same_upd (o := .tup [.ref o1, .ref o2]) nt
      have w6 := w5.trans w6'
      have et : (upd G5 t (.tup [.ref o1, .ref o2])) t = some (.tup [.ref o1, .ref o2]) := upd_same
      have eo26 := w6' _ _ eo2
      have eo16 := w6' _ _ eo15
      generalize upd G5 t (.tup [.ref o1, .ref o2]) = G6 at w6 et eo26 eo16 ⊢
      have item : ∀ (i : Nat) (y : V), ([.ref o1, .ref o2] : List V)[i]? = some y → ∃ (o : Addr) (ws : List Str), y = .ref o ∧ G6 o = some (.lst (ws.map V.str)) ∧ sg ∈ ws ∧ (∀ z ∈ ws, NmOk z) ∧ ws.Nodup ∧ ws.length ≤ 5 := fun i y h => by
        match i, h with
        | 0, h => cases h; exact ⟨o1, _, rfl, eo16, List.mem_append_right _ List.mem_cons_self, nm5 fun z h => h, nd5 nd fun z h => h, by rw [List.length_append]; show _ + 1 + 1 ≤ _; omega⟩
        | 1, h => cases h; exact ⟨o2, _, rfl, eo26, List.mem_append_right _ List.mem_cons_self, nm5 fun z h => List.mem_cons_of_mem _ h, nd5 (List.nodup_cons.mp nd).2 fun z h => List.mem_cons_of_mem _ h, by rw [List.length_append]; show _ + 1 ≤ _; omega⟩
        | i + 2, h => simp at h
      refine ⟨t, rfl, ⟨_, SqT.of et⟩, ?_⟩
      refine for_tup (K := K) (a := t) (xs := [.ref o1, .ref o2]) (fun i σ G => ∃ y4 : Option V, σ = [some (.ref x), some (.ref n), some (.ref m), some (.str sg), y4, none, none] ∧ Same G6 G)
        ⟨_, rfl, fun _ _ e => e⟩ (fun i σ G _ h => by
          obtain ⟨_, _, s'⟩ := h
          exact SqT.of (s' _ _ et)) ?_ ?_
      · rintro i y σ G7 hyi ⟨y4, rfl, s7⟩
        obtain ⟨o, ws, rfl, eo, hsw, nmw, ndw, lw⟩ := item i y hyi
        simp only [gName, List.set_cons_zero, List.set_cons_succ]
        refine ⟨_, rfl, _, rfl, ?_⟩
        intro x' dx' nx' ndx' nxd'
        have s8 : Same G7 (upd (upd G7 dx' (.own x')) x' (.ins C dx' [])) := (same_upd ndx').trans (same_upd (by rw [upd_ne nxd'.symm]; exact nx'))
        have ex' : (upd (upd G7 dx' (.own x')) x' (.ins C dx' [])) x' = some (.ins C dx' []) := upd_same
        generalize upd (upd G7 dx' (.own x')) x' (.ins C dx' []) = G8 at s8 ex' ⊢
        refine ⟨x', o, ad, dx', oe, ws, rfl, ex', s8 _ _ (s7 _ _ eo), ne_of_none (s7 _ _ eo) nx', lk, ct, ht, nmw, ndw, by omega, fun Gm r r2 ys' hxm hrm perm sX => ⟨rfl, ?_⟩⟩
        have w9 : Same G6 Gm := fun a o e => sX a o (ne_of_none (s7 _ _ e) nx') (s8 _ _ (s7 _ _ e))
        have w09 := w6.trans w9
        refine ⟨_, rfl, x, m, .ref x', ys, L, u, v, c, w09 _ _ em, FX.same w09, .inr ⟨rfl, x', ys', rfl, ⟨⟨dx', r, r2, hxm, hrm⟩, fun z hz => nmw z (perm.mem_iff.mp hz)⟩, .inl ⟨fun e => nsy (by rw [e]; exact perm.mem_iff.mpr hsw), fun G10 s10 => ?_⟩⟩⟩
        refine ⟨rfl, _, rfl, ite2 (fun e => ?_) (fun e => ⟨_, rfl, w9.trans s10⟩)⟩
        simp at e
      · rintro σ G7 ⟨y4, rfl, s7⟩
        have w7 := w6.trans s7
        have hn7 := w7 _ _ hn
        refine ⟨_, rfl, _, rfl, n, _, 0, _, rfl, rfl, SqL.of hn7, (atI_nat (j := 0) rfl), by show 3 ≤ sizeLine; omega, fun t1 nt1 => ?_⟩
        have v1 := same_upd (o := .tup [.str z0, .str ("" : Str), .int 0]) nt1
        have et1 : (upd G7 t1 (.tup [.str z0, .str ("" : Str), .int 0])) t1 = some (.tup [.str z0, .str ("" : Str), .int 0]) := upd_same
        generalize upd G7 t1 (.tup [.str z0, .str ("" : Str), .int 0]) = G8 at v1 et1 ⊢
        refine ⟨by show 1 ≤ sizeLine; omega, fun q1 nq1 => ?_⟩
        have v2' := same_upd (o := .lst [.ref t1]) nq1
        have eq1 : (upd G8 q1 (.lst [.ref t1])) q1 = some (.lst [.ref t1]) := upd_same
        have et12 := v2' _ _ et1
        have v2 := w7.trans (v1.trans v2')
        generalize upd G8 q1 (.lst [.ref t1]) = G9 at eq1 et12 v2 ⊢
        intro x1 dx1 nx1 ndx1 nxd1
        have s10 : Same G9 (upd (upd G9 dx1 (.own x1)) x1 (.ins C dx1 [])) := (same_upd ndx1).trans (same_upd (by rw [upd_ne nxd1.symm]; exact nx1))
        have ex1 : (upd (upd G9 dx1 (.own x1)) x1 (.ins C dx1 [])) x1 = some (.ins C dx1 []) := upd_same
        generalize upd (upd G9 dx1 (.own x1)) x1 (.ins C dx1 []) = G10 at s10 ex1 ⊢
        have its1 : Its G10 [.ref t1] [(z0, ("" : Str), (0 : Int))] := (Its.nil (H := G10)).snoc (s10 _ _ et12)
        have k0 : M.Keeps [(z0, ("" : Str), (0 : Int))] (fun _ => 0) := fun a b c hm => by
          have := List.mem_singleton.mp hm
          simp only [Prod.mk.injEq] at this
          show (0 : Int) - 0 ≤ c
          omega
        refine ini_fm ex1 (s10 _ _ (v2 _ _ hn)) (s10 _ _ eq1) its1 nm nd (by show zt.length + 1 ≤ 5; omega) (by show 1 ≤ 60; decide) (fun f hf => by
          rw [List.mem_singleton.mp hf]
          exact ⟨.inr List.mem_cons_self, .inl rfl⟩) k0 (fun G11 ys1 perm1 sX1 FM1 => ⟨rfl, ?_⟩)
        have v3 : Same H' G11 := fun a o e => sX1 a o (ne_of_none (v2 _ _ e) nx1) (s10 _ _ (v2 _ _ e))
        simp only [gName, List.set_cons_zero, List.set_cons_succ]
        refine ⟨_, rfl, _, rfl, by show 1 ≤ sizeLine; omega, fun l4 nl4 => ?_⟩
        have u1 := same_upd (o := .lst [.str sg]) nl4
        have el4 : (upd G11 l4 (.lst [.str sg])) l4 = some (.lst [.str sg]) := upd_same
        generalize upd G11 l4 (.lst [.str sg]) = J1 at u1 el4 ⊢
        refine ⟨n, l4, _, _, rfl, rfl, u1 _ _ (v3 _ _ hn), el4, by rw [List.length_map, List.length_cons]; show _ + 1 ≤ _; omega, fun o3 no3 => ?_⟩
        have u2 := u1.trans (same_upd (o := .lst ((z0 :: zt).map V.str ++ [.str sg])) no3)
        have eo3 : (upd J1 o3 (.lst ((z0 :: zt).map V.str ++ [.str sg]))) o3 = some (.lst (((z0 :: zt) ++ [sg]).map V.str)) := by
          rw [upd_same, List.map_append]
          rfl
        generalize upd J1 o3 (.lst ((z0 :: zt).map V.str ++ [.str sg])) = J2 at u2 eo3 ⊢
        refine ⟨_, rfl, n, _, 0, _, rfl, rfl, SqL.of (u2 _ _ (v3 _ _ hn)), (atI_nat (j := 0) rfl), _, rfl, by show 3 ≤ sizeLine; omega, fun t2 nt2 => ?_⟩
        have u3' := same_upd (o := .tup [.str ("" : Str), .str z0, .int (-1)]) nt2
        have et2 : (upd J2 t2 (.tup [.str ("" : Str), .str z0, .int (-1)])) t2 = some (.tup [.str ("" : Str), .str z0, .int (-1)]) := upd_same
        have u3 := u2.trans u3'
        have eo33 := u3' _ _ eo3
        generalize upd J2 t2 (.tup [.str ("" : Str), .str z0, .int (-1)]) = J3 at u3 et2 eo33 ⊢
        refine ⟨_, rfl, by show 3 ≤ sizeLine; omega, fun t3 nt3 => ?_⟩
        have u4' := same_upd (o := .tup [.str sg, .str ("" : Str), .int 1]) nt3
        have et3 : (upd J3 t3 (.tup [.str sg, .str ("" : Str), .int 1])) t3 = some (.tup [.str sg, .str ("" : Str), .int 1]) := upd_same
        have u4 := u3.trans u4'
        have et24 := u4' _ _ et2
        have eo34 := u4' _ _ eo33
        generalize upd J3 t3 (.tup [.str sg, .str ("" : Str), .int 1]) = J4 at u4 et3 et24 eo34 ⊢
        refine ⟨by show 2 ≤ sizeLine; omega, fun q2 nq2 => ?_⟩
        have u5' := same_upd (o := .lst [.ref t2, .ref t3]) nq2
        have eq2 : (upd J4 q2 (.lst [.ref t2, .ref t3])) q2 = some (.lst [.ref t2, .ref t3]) := upd_same
        have u5 := u4.trans u5'
        have et25 := u5' _ _ et24
        have et35 := u5' _ _ et3
        have eo35 := u5' _ _ eo34
        generalize upd J4 q2 (.lst [.ref t2, .ref t3]) = J5 at u5 eq2 et25 et35 eo35 ⊢
        intro x2 dx2 nx2 ndx2 nxd2
        have s12 : Same J5 (upd (upd J5 dx2 (.own x2)) x2 (.ins C dx2 [])) := (same_upd ndx2).trans (same_upd (by rw [upd_ne nxd2.symm]; exact nx2))
        have ex2 : (upd (upd J5 dx2 (.own x2)) x2 (.ins C dx2 [])) x2 = some (.ins C dx2 []) := upd_same
        generalize upd (upd J5 dx2 (.own x2)) x2 (.ins C dx2 []) = J6 at s12 ex2 ⊢
        have its2 : Its J6 ([.ref t2] ++ [.ref t3]) ([(("" : Str), z0, (-1 : Int))] ++ [(sg, ("" : Str), (1 : Int))]) := ((Its.nil (H := J6)).snoc (s12 _ _ et25)).snoc (s12 _ _ et35)
        have ze : z0 ≠ "" := fun e => by
          have := hz0.1
          rw [e] at this
          exact absurd this (by decide +kernel)
        have sz : sg ≠ z0 := fun e => nsg (by rw [e]; exact List.mem_cons_self)
        have k1 : M.Keeps ([(("" : Str), z0, (-1 : Int))] ++ [(sg, ("" : Str), (1 : Int))]) (fun z => if z = z0 then 1 else 0) := fun a b c hm => by
          rcases List.mem_append.mp hm with hm | hm
          · have := List.mem_singleton.mp hm
            simp only [Prod.mk.injEq] at this
            obtain ⟨rfl, rfl, rfl⟩ := this
            dsimp only
            rw [if_neg fun e => ze e.symm, if_pos rfl]
            decide
          · have := List.mem_singleton.mp hm
            simp only [Prod.mk.injEq] at this
            obtain ⟨rfl, rfl, rfl⟩ := this
            dsimp only
            rw [if_neg sz, if_neg fun e => ze e.symm]
            decide
        refine ini_fm ex2 (s12 _ _ eo35) (s12 _ _ eq2) its2 (nm5 fun z h => h) (nd5 nd fun z h => h) (by rw [List.length_append]; show zt.length + 1 + 1 ≤ 5; omega) (by show 2 ≤ 60; decide) (fun f hf => by
          rcases List.mem_append.mp hf with hf | hf
          · rw [List.mem_singleton.mp hf]
            exact ⟨.inl rfl, .inr (List.mem_append_left _ List.mem_cons_self)⟩
          · rw [List.mem_singleton.mp hf]
            exact ⟨.inr (List.mem_append_right _ List.mem_cons_self), .inl rfl⟩) k1 (fun J7 ys2 perm2 sX2 FM2 => ⟨rfl, ?_⟩)
        have v4 : Same G11 J7 := fun a o e => sX2 a o (ne_of_none (u5 _ _ e) nx2) (s12 _ _ (u5 _ _ e))
        have FM1' := FM1.same v4
        have v5 := v3.trans v4
        simp only [gName, List.set_cons_zero, List.set_cons_succ]
        have ne12 : ys1 ≠ ys2 := fun e => nsg (perm1.mem_iff.mp (by rw [e]; exact perm2.mem_iff.mpr (List.mem_append_right _ List.mem_cons_self)))
        refine ⟨_, rfl, _, rfl, _, rfl, x1, m, .ref x2, ys1, _, u, v, c, v5 _ _ em, FM1', .inr ⟨rfl, x2, ys2, rfl, FM2.nma, .inl ⟨ne12, fun J8 s8 => ?_⟩⟩⟩
        refine ⟨rfl, _, rfl, ite2 (fun _ => ?_) (fun e => absurd (decide_eq_true rfl) e)⟩
        refine ⟨_, rfl, _, rfl, _, rfl, x2, m, .ref x1, ys2, _, u, v, c, s8 _ _ (v5 _ _ em), FM2.same s8, .inr ⟨rfl, x1, ys1, rfl, FM1'.nma.same s8, .inl ⟨fun e => ne12 e.symm, fun J9 s9 => ⟨rfl, ?_⟩⟩⟩⟩
        rw [show decide (V.str ("unlike" : Str) = V.str ("unlike" : Str)) = true from decide_eq_true rfl]
        exact q _ (v5.trans (s8.trans s9))
    · refine ⟨_, rfl, n, _, rfl, .inl (SqL.of hn), rfl, flat_strs (z0 :: zt), _, rfl, ?_⟩
      rw [inV_strs]
      by_cases hz : ("zzzzzzzz" : Str) ∈ z0 :: zt
      · rw [decide_eq_true hz]
        exact iteF (k _ _ ⟨"qqqqqqqq", rfl, rfl, nm_of (by decide +kernel), zq.1 hz⟩)
      · rw [decide_eq_false hz]
        exact iteT (k _ _ ⟨"zzzzzzzz", rfl, rfl, nm_of (by decide +kernel), hz⟩)
end
end Fv


set_option Elab.async false
set_option linter.all false
set_option maxRecDepth 100000
set_option maxHeartbeats 4000000
namespace Fv
open PySem PySem.Spec PyProof.Rows L2
/-! ### what the law needs -/
/-- how far a bound of few facts goes -/
theorem bound_far {ys : List Str} {L : List FaT} {q : Str → Int} (K0 : M.Keeps L q) (src : SrcAll ys L) (few : ys.length ≤ 4) (hb : ∀ f ∈ L, FaB f) {x y : Str} {g : Int} (e : lstT ys L x y = some g) : -(21 * 10 ^ 59) ≤ g ∧ g ≤ 21 * 10 ^ 59 := by
  have l := lst_of K0 src x y
  obtain ⟨m, wk⟩ := l.there g e
  have sl : (srcs ys).length = ys.length + 1 := rfl
  obtain ⟨c', n', w', hc, hl⟩ := wk.short K0 (srcs ys).length (srcs ys) (Nat.le_refl _)
  obtain ⟨g', e', hg⟩ := l.least _ _ w'
  rw [e] at e'
  cases e'
  have h1 := M.Wk.sum (B := 3 * 10 ^ 59) (by decide) (fun x y c m => (hb _ m).2) w'
  have h2 := M.Wk.low (B := 3 * 10 ^ 59) (by decide) (fun x y c m => (hb _ m).1) w'
  have h3 : (n' : Int) ≤ 7 := by omega
  have h0 : (0 : Int) ≤ n' := by omega
  omega
theorem FaB.two {f : FaT} (h : FaB f) : FaB2 f := ⟨by have := h.1; omega, by have := h.2; omega⟩
/-- the rows of the bounds are flat -/
theorem flat_all {ys : List Str} {L : List FaT} {q : Str → Int} (K0 : M.Keeps L q) (src : SrcAll ys L) (so : sortedS ys = true) (nd : ys.Nodup) (nm : ∀ z ∈ ys, NmOk z) (few : ys.length ≤ 4) (hb : ∀ f ∈ L, FaB2 f) : Flat (.list ((allOf (lstT ys L) (srcs ys) (srcs ys)).map faD)) := by
  have sl : (srcs ys).length = ys.length + 1 := rfl
  refine flat_rows (fun f hf => ?_) (fun f hf => ?_) ?_
  · obtain ⟨f1, f2, f3⟩ := f
    obtain ⟨z, hz, hg⟩ := List.mem_flatMap.mp hf
    obtain ⟨rfl, h2, _, _⟩ := rowOf_mem.mp hg
    exact ⟨(src_mem.mp hz).imp id (nm _), (src_mem.mp h2).imp id (nm _)⟩
  · obtain ⟨f1, f2, f3⟩ := f
    obtain ⟨z, hz, hg⟩ := List.mem_flatMap.mp hf
    obtain ⟨rfl, _, _, e⟩ := rowOf_mem.mp hg
    exact rounds_small2 K0 (in_srcs src) (by omega) (by omega) hb e
  · have := allOf_few (T := lstT ys L) (V := srcs ys) (W := srcs ys)
    have e : (srcs ys).length ≤ 5 := Nat.succ_le_succ few
    have := Nat.mul_le_mul e e
    omega
/-- a Facts tells its bounds -/
theorem FM.tells {C : Addr} {H : Hp} {x : Addr} {ys : List Str} {L : List FaT} (h : FM C H x ys L) {T : M.Tb Str} {Lb : List FaT} (lk : Lk ys T L) (bd : Bds T Lb) (nm : ∀ z ∈ ys, NmOk z) : Lb = allOf (lstT ys L) (srcs ys) (srcs ys) := by
  obtain ⟨q, hK⟩ := h.kp
  exact bd.uniq (allOf_bds lk hK h.src h.so h.nd nm h.few)
theorem lst_twice {ys : List Str} {L : List FaT} {q : Str → Int} (hK : M.Keeps L q) (src : SrcAll ys L) : lstT ys (L ++ L) = lstT ys L := by
  have u1 : M.Under (L ++ L) L (fun s => s ∈ srcs ys) := fun x y c hm => by
    have hm : (x, y, c) ∈ L := (List.mem_append.mp hm).elim id id
    exact M.Under.refl (in_srcs src) _ _ _ hm
  have u2 : M.Under L (L ++ L) (fun s => s ∈ srcs ys) := fun x y c hm => by
    obtain ⟨c', n, w, l⟩ := M.Under.refl (in_srcs src) _ _ _ hm
    exact ⟨c', n, w.sub fun f hf => List.mem_append_left _ hf, l⟩
  exact lst_fun u1 u2 (u1.keeps hK) (src.app src) src
/-- what with_fact or & gave -/
def MadeV (C : Addr) (H : Hp) (v : V) (zs : List Str) (L : List FaT) : Prop := (v = .non ∧ ¬ ∃ p, M.Keeps L p) ∨ ∃ x, v = .ref x ∧ FM C H x zs L
theorem more0 {C : Addr} {H : Hp} {x m : Addr} {y : V} {zs : List Str} {L : List FaT} {u v : Str} {c : Int} {Q : VK} {E : XK} (hm : H m = some (.tup [.str u, .str v, .int c])) (h : FM C H x zs L) (hu : SrcIn zs u) (hv : SrcIn zs v)
    (q : ∀ H' w, Same H H' → MadeV C H' w zs (L ++ [(u, v, c)]) → Q w H') : spMore C [.int 0, .ref x, y, .ref m] H Q E :=
  ⟨x, m, y, zs, L, u, v, c, hm, h, .inl ⟨rfl, .inr ⟨hu, hv, fun no H' s => q H' _ s (.inl ⟨rfl, no⟩), fun _ H' x' s f => q H' _ s (.inr ⟨x', rfl, f⟩)⟩⟩⟩
theorem more1 {C : Addr} {H : Hp} {x m y : Addr} {zs : List Str} {L L' : List FaT} {u v : Str} {c : Int} {Q : VK} {E : XK} (hm : H m = some (.tup [.str u, .str v, .int c])) (h : FM C H x zs L) (h' : FM C H y zs L') (few : zs.length ≤ 4)
    (q : ∀ H' w, Same H H' → MadeV C H' w zs (L ++ L') → Q w H') : spMore C [.int 1, .ref x, .ref y, .ref m] H Q E :=
  ⟨x, m, .ref y, zs, L, u, v, c, hm, h, .inr ⟨rfl, y, zs, rfl, h'.nma, .inr ⟨rfl, L', h', few, fun no H' s => q H' _ s (.inl ⟨rfl, no⟩), fun _ H' x' s f => q H' _ s (.inr ⟨x', rfl, f⟩)⟩⟩⟩
/-- the sources in order, as they come -/
def tSrcs2 (i : Nat) : TE := fun σ H Q => ∃ (n : Addr) (zs : List Str), σ[i]? = some (some (.ref n)) ∧ H n = some (.lst (zs.map V.str)) ∧ zs.length ≤ 6 ∧ ∀ ys l3 H2, ys.Perm zs → sortedS ys = true → Same H H2 → H2 l3 = some (.lst ((srcs ys).map V.str)) → Q (.ref l3) H2
theorem srcs_imp2 {K : PySem.W.Frag} {σ : L2.St} {H : Hp} {Q : VK} {i : Nat} (h : tSrcs2 i σ H Q) : tOp rCat (tLst (tCons (tC (.str "")) tNil)) (tCB (rSortB K) (tCons (tVar i) tNil)) σ H Q := by
  obtain ⟨n, zs, e0, hn, zl, q⟩ := h
  refine ⟨by show 1 ≤ sizeLine; decide, fun l1 nl1 => ?_⟩
  have u1 := same_upd (o := .lst [.str ("" : Str)]) nl1
  refine ⟨_, e0, n, zs, rfl, .inl (SqL.of (u1 _ _ hn)), by omega, fun ys l2 perm2 srt2 nl2 wl2 => ?_⟩
  have u2 := u1.trans (same_upd (o := .lst (ys.map V.str)) nl2)
  have el1 : (upd (upd H l1 (.lst [.str ("" : Str)])) l2 (.lst (ys.map V.str))) l1 = some (.lst [.str ("" : Str)]) := by rw [upd_ne (ne_of_none upd_same nl2)]; exact upd_same
  refine ⟨l1, l2, _, _, rfl, rfl, el1, upd_same, ?_, fun l3 nl3 => ?_⟩
  · rw [List.length_map, perm2.length_eq]
    exact small_line (by rw [show ([V.str ("" : Str)]).length = 1 from rfl]; omega)
  · exact q ys l3 _ perm2 srt2 (u2.trans (same_upd (o := .lst ([.str ("" : Str)] ++ ys.map V.str)) nl3)) upd_same
theorem MadeV.same {C : Addr} {H H' : Hp} {v : V} {zs : List Str} {L : List FaT} (h : MadeV C H v zs L) (s : Same H H') : MadeV C H' v zs L := h.imp id fun ⟨x, e, f⟩ => ⟨x, e, f.same s⟩
theorem SrcAll.snoc {ys : List Str} {L : List FaT} {u v : Str} {c : Int} (h : SrcAll ys L) (hu : SrcIn ys u) (hv : SrcIn ys v) : SrcAll ys (L ++ [(u, v, c)]) := h.app (.one hu hv)
theorem fab_snoc {L : List FaT} {u v : Str} {c : Int} (h : ∀ f ∈ L, FaB f) (clo : -(23 * 10 ^ 59) ≤ c) (chi : c ≤ 23 * 10 ^ 59) : ∀ f ∈ L ++ [(u, v, c)], FaB2 f := fun f hf => by
  rcases List.mem_append.mp hf with m | m
  · exact (h f m).two
  · rw [List.mem_singleton.mp m]
    exact ⟨by show -(3 * 10 ^ 60) ≤ c; omega, by show c ≤ 3 * 10 ^ 60; omega⟩
theorem tNil_i {σ : L2.St} {H : Hp} {Q : List V → Hp → Prop} (h : Q [] H) : tNil σ H Q := h
end Fv


set_option Elab.async false
set_option linter.all false
set_option maxRecDepth 100000
set_option maxHeartbeats 4000000
namespace Fv
open PySem PySem.Spec PyProof.Rows L2
/-! ### the law -/
abbrev sLaw : Stmt := top 41
abbrev nLw : List Str := ["_law_script", "_law_bag_here", "_law_turn", "_law_names_here", "_law_told", "_law_sources", "_law_facts_here", "_law_bound", "_law_again", "_law_x", "_law_y", "_law_number_here", "_law_once", "_law_more_here", "_law_others", "_law_one"]
def spLaw (K : PySem.W.Frag) : Sp := fun vs H Q _ => ∃ (a : Addr) (ns : List Int), vs = [.ref a] ∧ SqL K H a (ns.map V.int) ∧ ns.length ≤ 63 ∧ ∀ H', Q (.bl true) H'
section
variable {P : Program} {w : World} {K : PySem.W.Frag} {mg : Str → Option Value} {base : Heap} {C CU CS : Addr}
theorem scLw : FnScope nLw ["_law_script"] (defScope sLaw) := ⟨rfl, rfl, rfl, by decide +kernel, rfl, by decide +kernel, by decide +kernel⟩
theorem ok_law {f fB fT fN fF fM fC fR fU fm fr fA fQ fD fu iF fb fa : Addr} {fd fdB fdT fdN fdF fdM fdC fdR fdU fdm fdr fdA fdQ fdD fdu fdI fdb fda : FuncData} (F : Fun K "law" "law" sLaw f fd) (T : FacC K C)
    (GB : FnOk P w K mg base CX0 1 fB fdB ["_law_script"] (spBag K)) (bB : Binds K fdB ["_law_script"] []) (mB : mg "_law_bag" = some (.ref fB)) (kB : PySem.W.keepIn K (.ref fB) = true)
    (GT : FnOk P w K mg base CX0 1 fT fdT ["_law_bag_here", "_law_many"] spTake) (bT : Binds K fdT ["_law_bag_here", "_law_many"] []) (mT : mg "_law_take" = some (.ref fT)) (kT : PySem.W.keepIn K (.ref fT) = true)
    (GN : FnOk P w K mg base CX0 3 fN fdN ["_law_bag_here", "_law_many"] spNames) (bN : Binds K fdN ["_law_bag_here", "_law_many"] []) (mN : mg "_law_names" = some (.ref fN)) (kN : PySem.W.keepIn K (.ref fN) = true)
    (GF : FnOk P w K mg base CX0 3 fF fdF ["_law_bag_here", "_law_names_here"] spLFacts) (bF : Binds K fdF ["_law_bag_here", "_law_names_here"] []) (mF : mg "_law_facts" = some (.ref fF)) (kF : PySem.W.keepIn K (.ref fF) = true)
    (GM : FnOk P w K mg base CX0 2 fM fdM ["_law_bag_here", "_law_things"] (spMixed K)) (bM : Binds K fdM ["_law_bag_here", "_law_things"] []) (mM : mg "_law_mixed" = some (.ref fM)) (kM : PySem.W.keepIn K (.ref fM) = true)
    (GC : FnOk P w K mg base CX0 1 fC fdC ["_law_names_here", "_law_facts_here"] spLClosed) (bC : Binds K fdC ["_law_names_here", "_law_facts_here"] []) (mC : mg "_law_closed" = some (.ref fC)) (kC : PySem.W.keepIn K (.ref fC) = true)
    (GU : FnOk P w K mg base CX0 2 fU fdU ["_law_bag_here"] spNumber) (bU : Binds K fdU ["_law_bag_here"] []) (mU : mg "_law_number" = some (.ref fU)) (kU : PySem.W.keepIn K (.ref fU) = true)
    (GR : FnOk P w K mg base CX0 5 fR fdR ["_law_facts_here", "_law_names_here", "_law_told", "_law_x", "_law_y", "_law_number_here"] (spStartR C)) (bR : Binds K fdR ["_law_facts_here", "_law_names_here", "_law_told", "_law_x", "_law_y", "_law_number_here"] []) (mR : mg "_law_start_right" = some (.ref fR)) (kR : PySem.W.keepIn K (.ref fR) = true)
    (Gm : FnOk P w K mg base CX0 8 fm fdm ["_law_style", "_law_one", "_law_two", "_law_more_here"] (spMore C)) (bm : Binds K fdm ["_law_style", "_law_one", "_law_two", "_law_more_here"] []) (mm : mg "_law_more" = some (.ref fm)) (km : PySem.W.keepIn K (.ref fm) = true)
    (Gr : FnG P w K mg base 6 fr fdr ["_law_bag_here", "_law_made", "_law_elder", "_law_names_here", "_law_told", "_law_more_here"] (spMoreR C)) (br : BindG fdr ["_law_bag_here", "_law_made", "_law_elder", "_law_names_here", "_law_told", "_law_more_here"]) (mr : mg "_law_more_right" = some (.ref fr)) (kr : PySem.W.keepIn K (.ref fr) = true)
    (GQ : FnOk P w K mg base CX0 2 fQ fdQ ["_law_names_here", "_law_told"] spLBounds) (bQ : Binds K fdQ ["_law_names_here", "_law_told"] []) (mQ : mg "_law_bounds" = some (.ref fQ)) (kQ : PySem.W.keepIn K (.ref fQ) = true)
    (GA : FnG P w K mg base 1 fA fdA ["_law_found", "_law_due"] spAlike) (bA : BindG fdA ["_law_found", "_law_due"]) (mA : mg "_law_alike" = some (.ref fA)) (kA : PySem.W.keepIn K (.ref fA) = true)
    (GD : FnOk P w K mg base CX0 9 fD fdD ["_law_bag_here", "_law_facts_here", "_law_names_here"] (spDoors C)) (bD : Binds K fdD ["_law_bag_here", "_law_facts_here", "_law_names_here"] []) (mD : mg "_law_doors" = some (.ref fD)) (kD : PySem.W.keepIn K (.ref fD) = true)
    (Gu : FnOk P w K mg base CX0 9 fu fdu ["_law_facts_here", "_law_names_here", "_law_more_here"] (spUnlike C)) (bu : Binds K fdu ["_law_facts_here", "_law_names_here", "_law_more_here"] []) (mu : mg "_law_unlike" = some (.ref fu)) (ku : PySem.W.keepIn K (.ref fu) = true)
    (MK : Mk K C iF) (GI : FnOk P w K mg base CX0 5 iF fdI ["self", "names", "facts"] (spIni C)) (bI : Binds K fdI ["self", "names", "facts"] []) (gC : mg "Facts" = some (.ref C))
    (Mb : Meth K C "bounds" fb) (Gb : FnOk P w K mg base CX0 1 fb fdb ["self"] (spBounds C)) (bb : Binds K fdb ["self"] [])
    (hc : PySem.W.selfFirst K C = true) (ha : PySem.W.findIn K (.ref C) "__and__" = some (some (.ref fa))) (hfa : PySem.W.isFn K (.ref fa) = true) (Ga : FnOk P w K mg base (L2.CX P w) 7 fa fda ["self", "other"] (spAndM C CU CS)) (ba : Binds K fda ["self", "other"] [])
    (mo : mg "sorted" = none) (ml : mg "len" = none) (mg2 : mg "range" = none) : FnG P w K mg base 10 f fd ["_law_script"] (spLaw K) := by
  refine okG F scLw (fun vs H Q E h => ?_) (fun cdv A outer s H vs Q E hg hr h => ?_)
  · obtain ⟨a, ns, rfl, _⟩ := h
    rfl
  · obtain ⟨a, ns, rfl, hS, hl, q⟩ := h
    have hu := hu_of hr
    have hru := hr.units
    have hr1 : Room 1 _ := hr.mono (by decide)
    have hr2 : Room 2 _ := hr.mono (by decide)
    have hr3 : Room 3 _ := hr.mono (by decide)
    have hr5 : Room 5 _ := hr.mono (by decide)
    have hr6 : Room 6 _ := hr.mono (by decide)
    have hr7 : Room 7 _ := hr.mono (by decide)
    have hr8 : Room 8 _ := hr.mono (by decide)
    refine ⟨_, pss_cons (ps_set (i := 1) scLw.nd rfl (.inl rfl) (pe_call GB hr1 (by rfl) mB kB bB .nil pass0 (pa_cons (pv 0) pa_nil)))
      (pss_cons (ps_for PassesOwn.never rfl (pi_range1 (by rfl) mg2 (pa_cons pe_int pa_nil)) (pg_name (i := 2) scLw.nd rfl (.inl rfl))
        (pss_cons (ps_set (i := 3) scLw.nd rfl (.inl rfl) (pe_call GN hr3 (by rfl) mN kN bN .nil pass0 (pa_cons (pv 1) (pa_cons (pe_op op_add pe_int (pe_call GT hr1 (by rfl) mT kT bT .nil pass0 (pa_cons (pv 1) (pa_cons pe_int pa_nil)))) pa_nil))))
        (pss_cons (ps_par (i := 4) (j := 5) (by rfl) scLw.nd rfl rfl (by decide) rfl rfl (pa_cons (pe_call GF hr3 (by rfl) mF kF bF .nil pass0 (pa_cons (pv 1) (pa_cons (pv 3) pa_nil))) (pa_cons (pe_imp (t' := tSrcs2 3) (pe_op op_cat (pe_lst (pa_cons pe_str pa_nil)) (pe_callB (r := rSortB K) call_sortB (by rfl) mo (by decide +kernel) (pa_cons (pv 3) pa_nil))) (fun σ H Q h => srcs_imp2 h)) pa_nil)) (by rfl))
        (pss_cons (ps_set (i := 6) scLw.nd rfl (.inl rfl) (pe_make MK GI hr6 (by rfl) gC bI (dvs := []) .nil pass0 (pa_cons (pe_call GM hr2 (by rfl) mM kM bM .nil pass0 (pa_cons (pv 1) (pa_cons (pv 3) pa_nil))) (pa_cons (pv 4) pa_nil))))
        (pss_cons (ps_set (i := 7) scLw.nd rfl (.inl rfl) (pe_call GC hr1 (by rfl) mC kC bC .nil pass0 (pa_cons (pe_callB (r := rSortB K) call_sortB (by rfl) mo (by decide +kernel) (pa_cons (pv 3) pa_nil)) (pa_cons (pv 4) pa_nil))))
        (pss_cons (ps_for PassesOwn.never rfl (pi_range1 (by rfl) mg2 (pa_cons pe_int pa_nil)) (pg_name (i := 8) scLw.nd rfl (.inl rfl))
          (pss_cons (ps_par (i := 9) (j := 10) (by rfl) scLw.nd rfl rfl (by decide) rfl rfl (pa_cons (pe_ix ix_list (pv 5) (pe_call GT hr1 (by rfl) mT kT bT .nil pass0 (pa_cons (pv 1) (pa_cons (pe_callB call_len_seq (by rfl) ml PySem.boot_len (pa_cons (pv 5) pa_nil)) pa_nil))) (fun _ _ => rfl)) (pa_cons (pe_ix ix_list (pv 5) (pe_call GT hr1 (by rfl) mT kT bT .nil pass0 (pa_cons (pv 1) (pa_cons (pe_callB call_len_seq (by rfl) ml PySem.boot_len (pa_cons (pv 5) pa_nil)) pa_nil))) (fun _ _ => rfl)) pa_nil)) (by rfl))
          (pss_cons (ps_set (i := 11) scLw.nd rfl (.inl rfl) (pe_ifExp (pt_cmp (pc_din hu (pe_tup (pa_cons (pv 9) (pa_cons (pv 10) pa_nil))) (pv 7))) (pe_op op_sub (pe_op op_add (pe_dget hu (pv 7) (pe_tup (pa_cons (pv 9) (pa_cons (pv 10) pa_nil))) (fun _ _ => rfl)) (pe_call GT hr1 (by rfl) mT kT bT .nil pass0 (pa_cons (pv 1) (pa_cons pe_int pa_nil)))) pe_int) (pe_call GU hr2 (by rfl) mU kU bU .nil pass0 (pa_cons (pv 1) pa_nil))))
          (pss_cons (ps_for PassesOwn.never rfl (pi_range1 (by rfl) mg2 (pa_cons pe_int pa_nil)) (pg_name (i := 12) scLw.nd rfl (.inl rfl))
            (pss_one (ps_if (pt_not (pt_val (pe_call GR hr5 (by rfl) mR kR bR .nil pass0 (pa_cons (pv 6) (pa_cons (pv 3) (pa_cons (pv 4) (pa_cons (pv 9) (pa_cons (pv 10) (pa_cons (pv 11) pa_nil))))))))) pss_dead pss_nil)))
          (pss_cons (ps_set (i := 13) scLw.nd rfl (.inl rfl) (pe_tup (pa_cons (pv 9) (pa_cons (pv 10) (pa_cons (pv 11) pa_nil)))))
          (pss_cons (ps_if (pt_cmpR op_eq (pe_call GT hr1 (by rfl) mT kT bT .nil pass0 (pa_cons (pv 1) (pa_cons pe_int pa_nil))) pe_int (nomark _)) (pss_one (ps_set (i := 13) scLw.nd rfl (.inl rfl) (pe_tup (pa_cons (pv 10) (pa_cons (pv 9) (pa_cons (pe_op op_sub (pe_un un_neg (pv 11)) (pe_call GT hr1 (by rfl) mT kT bT .nil pass0 (pa_cons (pv 1) (pa_cons pe_int pa_nil)))) pa_nil)))))) pss_nil)
          (pss_cons (ps_set (i := 14) scLw.nd rfl (.inl rfl) (pe_op op_cat (pe_call GF hr3 (by rfl) mF kF bF .nil pass0 (pa_cons (pv 1) (pa_cons (pv 3) pa_nil))) (pe_lst (pa_cons (pv 13) pa_nil))))
          (pss_cons (ps_if (pt_not (pt_val (pe_callG Gr hg hr6 (by rfl) mr kr br (pa_cons (pv 1) (pa_cons (pe_call Gm hr8 (by rfl) mm km bm .nil pass0 (pa_cons pe_int (pa_cons (pv 6) (pa_cons (pv 6) (pa_cons (pv 13) pa_nil))))) (pa_cons (pv 6) (pa_cons (pv 3) (pa_cons (pe_op op_cat (pv 4) (pe_lst (pa_cons (pv 13) pa_nil))) (pa_cons (pv 13) pa_nil))))))))) pss_dead pss_nil)
          (pss_cons (ps_if (pt_cmpR op_isN (pe_call GQ hr2 (by rfl) mQ kQ bQ .nil pass0 (pa_cons (pv 3) (pa_cons (pv 14) pa_nil))) pe_non (nomark _)) (pss_one ps_continue) pss_nil)
          (pss_cons (ps_set (i := 15) scLw.nd rfl (.inl rfl) (pe_make MK GI hr6 (by rfl) gC bI (dvs := []) .nil pass0 (pa_cons (pv 3) (pa_cons (pv 14) pa_nil))))
          (pss_cons (ps_if (pt_not (pt_val (pe_callG Gr hg hr6 (by rfl) mr kr br (pa_cons (pv 1) (pa_cons (pe_call Gm hr8 (by rfl) mm km bm .nil pass0 (pa_cons pe_int (pa_cons (pv 6) (pa_cons (pv 15) (pa_cons (pv 13) pa_nil))))) (pa_cons (pv 6) (pa_cons (pv 3) (pa_cons (pe_op op_cat (pv 4) (pv 14)) (pa_cons (pv 13) pa_nil))))))))) pss_dead pss_nil)
          (pss_one (ps_if (pt_not (pt_val (pe_callG GA hg hr1 (by rfl) mA kA bA (pa_cons (pe_meth0 (pv 15) T.cl Mb Gb hr1 bb .nil pass0) (pa_cons (pe_call GQ hr2 (by rfl) mQ kQ bQ .nil pass0 (pa_cons (pv 3) (pa_cons (pv 14) pa_nil))) pa_nil))))) pss_dead pss_nil)))))))))))))
        (pss_cons (ps_if (PW.pt (pw_or (pt_not (pt_val (pe_call GD hr (by rfl) mD kD bD .nil pass0 (pa_cons (pv 1) (pa_cons (pv 6) (pa_cons (pv 3) pa_nil)))))) (pw_or1 (pt_not (pt_val (pe_call Gu hr (by rfl) mu ku bu .nil pass0 (pa_cons (pv 6) (pa_cons (pv 3) (pa_cons (pv 13) pa_nil))))))))) pss_dead pss_nil)
        (pss_one (ps_if (PW.pt (pw_or (pt_cmpR (op_neD hru) (pe_meth0 (pe_binE (fn_calm Ga) hc ha hfa hr7 ba (fun σ pins H s e s' I c => pass0 pins σ H s e s' I c) (pv 6) (pv 6)) T.cl Mb Gb hr1 bb .nil pass0) (pe_meth0 (pv 6) T.cl Mb Gb hr1 bb .nil pass0) (nomark _))
            (pw_or1 (pt_cmpR (op_neD hru) (pe_meth0 (pv 6) T.cl Mb Gb hr1 bb .nil pass0) (pe_call GQ hr2 (by rfl) mQ kQ bQ .nil pass0 (pa_cons (pv 3) (pa_cons (pv 4) pa_nil))) (nomark _))))) pss_dead pss_nil)))))))))
      (pss_one (ps_ret pe_bl))), ?_⟩
    rw [show L2.start nLw [V.ref a] = [some (.ref a), none, none, none, none, none, none, none, none, none, none, none, none, none, none, none] from rfl]
    have h100 : 100 < sizeLine := by decide
    refine ⟨_, rfl, a, ns, rfl, hS, hl, fun b H1 B1 s1 => ?_⟩
    simp only [gName, List.set_cons_zero, List.set_cons_succ]
    refine ⟨2, rfl, by decide, by decide, ?_⟩
    refine for_range (lo := 0) (n := (2 : Int).toNat) (fun i σ H' => ∃ y2 y3 y4 y5 y6 y7 y8 y9 y10 y11 y12 y13 y14 y15 : Option V, σ = [some (.ref a), some (.ref b), y2, y3, y4, y5, y6, y7, y8, y9, y10, y11, y12, y13, y14, y15] ∧ Bag H' b)
      ⟨_, _, _, _, _, _, _, _, _, _, _, _, _, _, rfl, B1⟩ ?_ ?_
    · rintro i1 σ G0 hi ⟨y2, y3, y4, y5, y6, y7, y8, y9, y10, y11, y12, y13, y14, y15, rfl, BG⟩
      simp only [gName, List.set_cons_zero, List.set_cons_succ]
      obtain ⟨c0, B0⟩ : ∃ c, BagAt G0 b c := id BG
      -- the names
      refine ⟨_, rfl, _, rfl, b, 4, rfl, BG, by decide, by decide, fun m0 G1 h1 BG1 k1 g1 => ?_⟩
      have B1c := g1 _ B0
      refine ⟨_, _, rfl, rfl, b, 1 + m0, congrArg (fun z => [V.ref b, V.int z]) (by omega), BG1, by omega, fun pn zs G2 ez lz pnb zok znd zq BG2 k2 g2 => ?_⟩
      have B2c := g2 _ B1c
      have zl : zs.length ≤ 4 := by omega
      have zne : zs ≠ [] := fun z => by rw [z] at lz; simp at lz; omega
      simp only [gName, List.set_cons_zero, List.set_cons_succ]
      -- the facts told
      refine ⟨_, rfl, _, rfl, b, pn, zs, rfl, BG2, ez, pnb, by omega, zok, znd, fun pt xs0 L0 pot0 G3 npt ept hI0 l0 hin0 hb0 K0 ptb BG3 k3 g3 => ?_⟩
      have B3c := g3 _ B2c
      have ez3 := k3 _ _ pnb ez
      refine ⟨pn, zs, rfl, ez3, by omega, fun ys l5 G4 pm so s4 el5 => ⟨_, _, rfl, ?_⟩⟩
      have B4c := B3c.same s4
      have ez4 := s4 _ _ ez3
      have ept4 := s4 _ _ ept
      have hI4 := hI0.same s4
      have l5b : l5 ≠ b := fun z => by
        obtain ⟨cs, p, s, i, BB⟩ := B4c
        rw [z, BB.at_] at el5
        unfold bagV at el5
        have := (List.cons.inj (HO.lst.inj (Option.some.inj el5))).1
        cases this
      simp only [gName, List.set_cons_zero, List.set_cons_succ]
      -- the Facts
      refine ⟨_, rfl, _, rfl, b, pn, zs.map V.str, rfl, B4c.bag, pnb, ez4, by rw [List.length_map]; omega, fun pm1 us1 G5 npm mpm epm perm5 BG5 k5 g5 => ?_⟩
      obtain ⟨ms, rfl, pms⟩ := strs_perm perm5
      have B5c := g5 _ B4c
      refine ⟨_, rfl, fun x dx nx ndx nex => ?_⟩
      have kst5 := Kst.keep B4c k5
      have sX0 : Same G5 (upd (upd G5 dx (.own x)) x (.ins C dx [])) := fun c o e => by
        rw [upd_ne (ne_of_none e nx), upd_ne (ne_of_none e ndx)]
        exact e
      have tupp := hI4.kst kst5
      refine ini_fm (p := pot0) upd_same (sX0 _ _ epm) (sX0 _ _ (k5 _ _ ptb ept4)) (tupp.same sX0) (fun z hz => zok z (pms.mem_iff.mp hz)) (pms.nodup_iff.mpr znd) (by rw [pms.length_eq]; omega) (by omega) (SrcAll.perm (L := L0) hin0 pms.symm) K0 (fun G6 ys2 pm2 sx FM6 => ⟨rfl, ?_⟩)
      obtain rfl : ys2 = ys := sorted_same FM6.so so pm2 pm pms
      have s6 : Same G5 G6 := fun c o e => sx c o (ne_of_none e nx) (sX0 c o e)
      have B6c := B5c.same s6
      have k46 : Keep b G4 G6 := k5.trans (Keep.same s6)
      have ynm : ∀ z ∈ ys2, NmOk z := fun z hz => zok z (pm.mem_iff.mp hz)
      have yne : ys2 ≠ [] := fun e => by
        have := pm.length_eq
        rw [e] at this
        exact zne (List.eq_nil_of_length_eq_zero this.symm)
      have yl : ys2.length ≤ 4 := by rw [pm.length_eq]; exact zl
      have src0 : SrcAll ys2 L0 := SrcAll.perm (L := L0) hin0 pm.symm
      simp only [gName, List.set_cons_zero, List.set_cons_succ]
      -- what is closed
      have ez6 := k46 _ _ pnb ez4
      refine ⟨_, rfl, pn, zs, rfl, .inl (SqL.of ez6), by omega, fun ys3 r3 pm3 so3 nr mr => ?_⟩
      obtain rfl : ys3 = ys2 := sorted_same so3 so pm3 pm (.refl _)
      have s7 := same_upd (o := .lst (ys3.map V.str)) nr
      have er : (upd G6 r3 (.lst (ys3.map V.str))) r3 = some (.lst (ys3.map V.str)) := upd_same
      have ept6 := k46 _ _ ptb ept4
      have hI6 := (hI4.kst kst5).same s6
      have el56 := k46 _ _ l5b el5
      generalize upd G6 r3 (.lst (ys3.map V.str)) = G7 at s7 er
      refine ⟨_, rfl, r3, pt, ys3, xs0, L0, rfl, er, s7 _ _ ept6, hI6.same s7, by omega, src0, fun q7 kvs G8 nq7 s8 eq7 hT7 => ?_⟩
      have s68 := s7.trans s8
      have B8c := B6c.same s68
      have FM8 := FM6.same s68
      have ez8 := s68 _ _ ez6
      have ept8 := s68 _ _ ept6
      have hI8 := hI6.same s68
      have el58 := s68 _ _ el56
      have q7b : q7 ≠ b := fun z => by
        obtain ⟨cs, p, s, i, BB⟩ := B8c
        rw [z, BB.at_] at eq7
        cases eq7
      have N8 : NF G8 pn pt zs ys3 xs0 L0 := ⟨ez8, pm, zok, ept8, hI8, by omega⟩
      simp only [gName, List.set_cons_zero, List.set_cons_succ]
      clear k46 s68 s7 s8 s6 kst5 tupp sX0 sx nx ndx nex
      refine ⟨6, rfl, by decide, by decide, ?_⟩
      refine for_range (lo := 0) (n := (6 : Int).toNat) (fun i σ H' => ∃ y8 y9 y10 y11 y12 y13 y14 y15 : Option V, σ = [some (.ref a), some (.ref b), some (.int (0 + ↑i1)), some (.ref pn), some (.ref pt), some (.ref l5), some (.ref x), some (.ref q7), y8, y9, y10, y11, y12, y13, y14, y15] ∧ BagAt H' b c0 ∧ Keep b G8 H' ∧
          (1 ≤ i → ∃ (m : Addr) (u v : Str) (c : Int), y13 = some (.ref m) ∧ H' m = some (.tup [.str u, .str v, .int c])))
        ⟨_, _, _, _, _, _, _, _, rfl, B8c, fun _ _ _ e => e, fun h => absurd h (by decide)⟩ ?_ ?_
      · rintro i2 σ H0 hi2 ⟨y8, y9, y10, y11, y12, y13, y14, y15, rfl, BH0, k0, _⟩
        simp only [gName, List.set_cons_zero, List.set_cons_succ]
        have kz0 := k0 _ _ q7b eq7
        have el50 := k0 _ _ l5b el58
        have sl : (srcs ys3).length = ys3.length + 1 := rfl
        -- two sources and a number
        refine ⟨_, rfl, _, rfl, _, rfl, l5, _, rfl, .inl (SqL.of el50), b, _, rfl, BH0.bag, by rw [List.length_map]; omega, by rw [List.length_map]; omega, fun j1 H1' hj1 BG1' kk1 gg1 => ?_⟩
        rw [List.length_map] at hj1
        obtain ⟨u, hu1, su⟩ := src_get (ys := ys3) (j := j1) (by omega)
        have el51 := kk1 _ _ l5b el50
        refine ⟨l5, _, j1, _, rfl, rfl, SqL.of el51, atI_nat hu1, ?_⟩
        refine ⟨_, rfl, _, rfl, _, rfl, l5, _, rfl, .inl (SqL.of el51), b, _, rfl, BG1', by rw [List.length_map]; omega, by rw [List.length_map]; omega, fun j2 H2' hj2 BG2' kk2 gg2 => ?_⟩
        rw [List.length_map] at hj2
        obtain ⟨v, hv1, sv⟩ := src_get (ys := ys3) (j := j2) (by omega)
        have el52 := kk2 _ _ l5b el51
        refine ⟨l5, _, j2, _, rfl, rfl, SqL.of el52, atI_nat hv1, _, _, rfl, ?_⟩
        simp only [gName, List.set_cons_zero, List.set_cons_succ]
        have k2' : Keep b G8 H2' := k0.trans (kk1.trans kk2)
        have BH2 := gg2 _ (gg1 _ BH0)
        refine cutK (fun σ' H' => ∃ k : Int, σ' = [some (.ref a), some (.ref b), some (.int (0 + ↑i1)), some (.ref pn), some (.ref pt), some (.ref l5), some (.ref x), some (.ref q7), some (.int (0 + ↑i2)), some (.str u), some (.str v), some (.int k), y12, y13, y14, y15] ∧ BagAt H' b c0 ∧ Keep b G8 H' ∧ -(22 * 10 ^ 59) ≤ k ∧ k ≤ 22 * 10 ^ 59) ?_ (fun kk => ?_)
        · rintro σ' H3' ⟨k, rfl, BH3, k3', klo, khi⟩
          have FM3 := FM8.kst yne (Kst.keep B8c k3')
          have N3 := nf_keep N8 B8c pnb ptb k3'
          refine ⟨2, rfl, by decide, by decide, ?_⟩
          refine for_range (lo := 0) (n := (2 : Int).toNat) (fun i σ H' => ∃ y12 : Option V, σ = [some (.ref a), some (.ref b), some (.int (0 + ↑i1)), some (.ref pn), some (.ref pt), some (.ref l5), some (.ref x), some (.ref q7), some (.int (0 + ↑i2)), some (.str u), some (.str v), some (.int k), y12, y13, y14, y15] ∧ Same H3' H')
            ⟨_, rfl, fun _ _ e => e⟩ ?_ ?_
          · rintro i3 σ H4' hi3 ⟨y12, rfl, s4'⟩
            simp only [gName, List.set_cons_zero, List.set_cons_succ]
            exact ⟨_, rfl, _, rfl, _, rfl, _, rfl, _, rfl, _, rfl, x, pn, pt, zs, ys3, xs0, L0, u, v, k, rfl, FM3.same s4', N3.same s4', su, sv, fun H5' s5' => ⟨_, rfl, iteF ⟨_, rfl, s4'.trans s5'⟩⟩⟩
          · rintro σ H4' ⟨y12, rfl, s4'⟩
            have BH4 := BH3.same s4'
            have k4' := k3'.trans (Keep.same s4')
            clear FM3 N3
            -- the fact more
            refine ⟨_, rfl, _, rfl, _, rfl, by show 3 ≤ sizeLine; decide, fun t nt => ?_⟩
            have w5 := same_upd (o := .tup [.str u, .str v, .int k]) nt
            have et : (upd H4' t (.tup [.str u, .str v, .int k])) t = some (.tup [.str u, .str v, .int k]) := upd_same
            have BH5 := BH4.same w5
            have k5' := k4'.trans (Keep.same w5)
            generalize upd H4' t (.tup [.str u, .str v, .int k]) = H5' at w5 et BH5 k5'
            simp only [gName, List.set_cons_zero, List.set_cons_succ]
            refine cutK (fun σ' H' => ∃ (m : Addr) (u2 v2 : Str) (c : Int), σ' = [some (.ref a), some (.ref b), some (.int (0 + ↑i1)), some (.ref pn), some (.ref pt), some (.ref l5), some (.ref x), some (.ref q7), some (.int (0 + ↑i2)), some (.str u), some (.str v), some (.int k), y12, some (.ref m), y14, y15] ∧ BagAt H' b c0 ∧ Keep b G8 H' ∧ H' m = some (.tup [.str u2, .str v2, .int c]) ∧ SrcIn ys3 u2 ∧ SrcIn ys3 v2 ∧ -(23 * 10 ^ 59) ≤ c ∧ c ≤ 23 * 10 ^ 59) ?_ (fun kk => ?_)
            · rintro σ' H6 ⟨m, u2, v2, c, rfl, BH6, k6, em, su2, sv2, clo, chi⟩
              have FMk : ∀ {G : Hp}, Keep b G8 G → FM C G x ys3 L0 := fun k => FM8.kst yne (Kst.keep B8c k)
              have Nk : ∀ {G : Hp}, Keep b G8 G → NF G pn pt zs ys3 xs0 L0 := fun k => nf_keep N8 B8c pnb ptb k
              clear k5' k4' s4' BH4 BH5 w5 et nt
              have mb : m ≠ b := fun z => bag_ntS BH6 _ (by rw [← z]; exact em)
              -- other facts
              refine ⟨_, rfl, _, rfl, b, pn, zs, rfl, BH6.bag, (Nk k6).hn, pnb, by omega, zok, znd, fun p2 xs2 L2 pot2 H7 np2 ep2 hI2 l2 hin2 hb2 K2 p2b BG7 k7 g7 => ?_⟩
              have BH7 := g7 _ BH6
              have em7 := k7 _ _ mb em
              refine ⟨_, rfl, by show 1 ≤ sizeLine; decide, fun o1 no1 => ?_⟩
              have w8 := same_upd (o := .lst [.ref m]) no1
              have eo1 : (upd H7 o1 (.lst [.ref m])) o1 = some (.lst [.ref m]) := upd_same
              generalize upd H7 o1 (.lst [.ref m]) = H8 at w8 eo1
              have lx2 : xs2.length ≤ 3 := by rw [hI2.len]; exact l2
              refine ⟨p2, o1, _, _, rfl, rfl, w8 _ _ ep2, eo1, by show xs2.length + 1 ≤ sizeLine; omega, fun o2 no2 => ?_⟩
              have w9 := same_upd (o := .lst (xs2 ++ [.ref m])) no2
              have eo2 : (upd H8 o2 (.lst (xs2 ++ [.ref m]))) o2 = some (.lst (xs2 ++ [.ref m])) := upd_same
              generalize upd H8 o2 (.lst (xs2 ++ [.ref m])) = H9 at w9 eo2
              have w79 := w8.trans w9
              have em9 := w79 _ _ em7
              have hI9 : Its H9 (xs2 ++ [.ref m]) (L2 ++ [(u2, v2, c)]) := (hI2.same w79).snoc em9
              have BH9 := BH7.same w79
              have k9 : Keep b G8 H9 := k6.trans (k7.trans (Keep.same w79))
              have o2b : o2 ≠ b := bag_ofb (BH7.same w8) no2
              have src2 : SrcAll ys3 (L2 ++ [(u2, v2, c)]) := (SrcAll.perm (L := L2) hin2 pm.symm).snoc su2 sv2
              have fab2 : ∀ f ∈ L2 ++ [(u2, v2, c)], FaB2 f := fab_snoc hb2 clo chi
              have fab1 : ∀ f ∈ L0 ++ [(u2, v2, c)], FaB2 f := fab_snoc hb0 clo chi
              have ll2 : (L2 ++ [(u2, v2, c)]).length ≤ 4 := by rw [List.length_append]; show L2.length + 1 ≤ 4; omega
              simp only [gName, List.set_cons_zero, List.set_cons_succ]
              -- one fact more
              refine ⟨_, rfl, _, rfl, _, rfl, _, rfl, ?_⟩
              refine tNil_i ?_
              refine more0 (y := .ref x) em9 (FMk k9) su2 sv2 (fun H10 w10 s10 hw => ?_)
              refine ⟨_, rfl, _, rfl, _, rfl, _, rfl, by show 1 ≤ sizeLine; decide, fun o3 no3 => ?_⟩
              have em10 := s10 _ _ em9
              have k10 := k9.trans (Keep.same s10)
              have BH10 := BH9.same s10
              have w11 := same_upd (o := .lst [.ref m]) no3
              have eo3 : (upd H10 o3 (.lst [.ref m])) o3 = some (.lst [.ref m]) := upd_same
              generalize upd H10 o3 (.lst [.ref m]) = H11 at w11 eo3
              have lx0 : xs0.length ≤ 3 := by rw [hI0.len]; exact l0
              refine ⟨pt, o3, xs0, [.ref m], rfl, rfl, w11 _ _ (Nk k10).ha, eo3, by show xs0.length + 1 ≤ sizeLine; omega, fun o4 no4 => ?_⟩
              have w12 := same_upd (o := .lst (xs0 ++ [.ref m])) no4
              have eo4 : (upd H11 o4 (.lst (xs0 ++ [.ref m]))) o4 = some (.lst (xs0 ++ [.ref m])) := upd_same
              have o4b : o4 ≠ b := bag_ofb (BH10.same w11) no4
              generalize upd H11 o4 (.lst (xs0 ++ [.ref m])) = H12 at w12 eo4
              have w1012 := w11.trans w12
              have k12 := k10.trans (Keep.same w1012)
              have BH12 := BH10.same w1012
              have em12 := w1012 _ _ em10
              have N12 : NF H12 pn o4 zs ys3 (xs0 ++ [.ref m]) (L0 ++ [(u2, v2, c)]) := ⟨(Nk k12).hn, pm, zok, eo4, (Nk k12).hI.snoc em12, by rw [List.length_append]; show L0.length + 1 ≤ 60; omega⟩
              refine ⟨_, rfl, ?_⟩
              refine tNil_i ?_
              refine ⟨b, w10, x, pn, o4, m, zs, ys3, _, _, L0, u2, v2, c, rfl, BH12.bag, N12, pnb, o4b, yne, so, yl, src0.snoc su2 sv2, fab1, FMk k12, hw.same w1012, em12, List.mem_append_right _ List.mem_cons_self, fun H13 BG13 k13 g13 => ⟨_, rfl, iteF ?_⟩⟩
              have BH13 := g13 _ BH12
              have k13' := k12.trans k13
              have em13 := k13 _ _ mb em12
              have k913 : Keep b H9 H13 := (Keep.same (s10.trans w1012)).trans k13
              have eo213 := k913 _ _ o2b eo2
              have hI13 := hI9.kst (Kst.keep BH9 k913)
              have N13 : NF H13 pn o2 zs ys3 (xs2 ++ [.ref m]) (L2 ++ [(u2, v2, c)]) := ⟨(Nk k13').hn, pm, zok, eo213, hI13, by omega⟩
              clear w8 w9 w79 s10 w11 w12 w1012 em10 em12 N12 BH12 BH10 eo3 eo4
              refine ⟨_, rfl, _, rfl, pn, o2, zs, ys3, _, _, rfl, N13, so, by omega, src2, fun no H14 s14 => ?_, fun ⟨pot3, K3⟩ H14 p3 us3 s14 np3 mp3 ep3 hIu3 => ?_⟩
              · refine ⟨rfl, _, rfl, iteT ?_⟩
                exact ⟨_, _, _, _, _, _, _, _, rfl, BH13.same s14, k13'.trans (Keep.same s14), fun _ => ⟨m, u2, v2, c, rfl, s14 _ _ em13⟩⟩
              · refine ⟨rfl, _, rfl, iteF ?_⟩
                unfold tNext
                dsimp only
                have k14 := k13'.trans (Keep.same s14)
                have BH14 := BH13.same s14
                have N14 := N13.same s14
                have em14 := s14 _ _ em13
                refine ⟨_, rfl, _, rfl, fun x1 dx1 nx1 ndx1 nex1 => ?_⟩
                have sX1 : Same H14 (upd (upd H14 dx1 (.own x1)) x1 (.ins C dx1 [])) := fun c o e => by
                  rw [upd_ne (ne_of_none e nx1), upd_ne (ne_of_none e ndx1)]
                  exact e
                refine ini_fm (p := pot3) upd_same (sX1 _ _ N14.hn) (sX1 _ _ N14.ha) (N14.hI.same sX1) zok znd (by omega) (by omega) (src2.perm pm) K3 (fun H15 ys4 pm4 sx4 FM15 => ⟨rfl, ?_⟩)
                obtain rfl : ys4 = ys3 := sorted_same FM15.so so pm4 pm (.refl _)
                have s15 : Same H14 H15 := fun c o e => sx4 c o (ne_of_none e nx1) (sX1 c o e)
                have k15 := k14.trans (Keep.same s15)
                have BH15 := BH14.same s15
                have N15 := N14.same s15
                have em15 := s15 _ _ em14
                clear sX1 sx4 s15 nx1 ndx1 nex1
                simp only [gName, List.set_cons_zero, List.set_cons_succ]
                refine ⟨_, rfl, _, rfl, _, rfl, _, rfl, ?_⟩
                refine tNil_i ?_
                refine more1 em15 (FMk k15) FM15 yl (fun H16 w16 s16 hw16 => ?_)
                have k16 := k15.trans (Keep.same s16)
                have BH16 := BH15.same s16
                have N16 := N15.same s16
                have em16 := s16 _ _ em15
                refine ⟨_, rfl, _, rfl, _, rfl, _, rfl, pt, o2, xs0, xs2 ++ [.ref m], rfl, rfl, (Nk k16).ha, N16.ha, by rw [List.length_append]; show xs0.length + (xs2.length + 1) ≤ sizeLine; omega, fun o5 no5 => ?_⟩
                have w17 := same_upd (o := .lst (xs0 ++ (xs2 ++ [.ref m]))) no5
                have eo5 : (upd H16 o5 (.lst (xs0 ++ (xs2 ++ [.ref m])))) o5 = some (.lst (xs0 ++ (xs2 ++ [.ref m]))) := upd_same
                have o5b : o5 ≠ b := bag_ofb BH16 no5
                generalize upd H16 o5 (.lst (xs0 ++ (xs2 ++ [.ref m]))) = H17 at w17 eo5
                have k17 := k16.trans (Keep.same w17)
                have BH17 := BH16.same w17
                have N17' := N16.same w17
                have em17 := w17 _ _ em16
                have fabA : ∀ f ∈ L0 ++ (L2 ++ [(u2, v2, c)]), FaB2 f := fun f hf => (List.mem_append.mp hf).elim (fun h => (hb0 f h).two) (fab2 f)
                have N17 : NF H17 pn o5 zs ys4 (xs0 ++ (xs2 ++ [.ref m])) (L0 ++ (L2 ++ [(u2, v2, c)])) := ⟨(Nk k17).hn, pm, zok, eo5, (Nk k17).hI.app N17'.hI, by rw [List.length_append]; omega⟩
                refine ⟨_, rfl, ?_⟩
                refine tNil_i ?_
                refine ⟨b, w16, x, pn, o5, m, zs, ys4, _, _, L0, u2, v2, c, rfl, BH17.bag, N17, pnb, o5b, yne, so, yl, src0.app src2, fabA, FMk k17, hw16.same w17, em17, List.mem_append_right _ (List.mem_append_right _ List.mem_cons_self), fun H18 BG18 k18 g18 => ⟨_, rfl, iteF ?_⟩⟩
                have BH18 := g18 _ BH17
                have kA : Keep b H15 H18 := (Keep.same (s16.trans w17)).trans k18
                have k18' := k15.trans kA
                have N18 := nf_keep N15 BH15 pnb o2b kA
                have FM18 := FM15.kst yne (Kst.keep BH15 kA)
                have em18 := kA _ _ mb em15
                obtain ⟨dx6, na6, nb6, ex6⟩ := FM18.insN
                obtain ⟨⟨T6, gf6, lk6⟩, _⟩ := id FM18
                refine ⟨_, rfl, x1, dx6, _, rfl, ex6, rfl, x1, ys4, T6, rfl, gf6.at_, gf6.ti, fun p6 us6 Lb6 H19 np6 mp6 s19 ep6 hI6' bd6 => ?_⟩
                obtain rfl := FM18.tells lk6 bd6 ynm
                have p6b : p6 ≠ b := bag_ofb BH18 np6
                refine ⟨_, rfl, _, rfl, pn, o2, zs, ys4, _, _, rfl, N18.same s19, so, by omega, src2, fun no => absurd ⟨pot3, K3⟩ no, fun _ H20 p7 us7 s20 np7 mp7 ep7 hI7 => ?_⟩
                have BH19 := BH18.same s19
                have BH20 := BH19.same s20
                have p7b : p7 ≠ b := bag_ofb BH19 np7
                have fl2 := flat_all K3 src2 so FM18.nd ynm yl fab2
                refine tNil_i ?_
                refine ⟨b, .ref p6, .ref p7, _, rfl, .lst (s20 _ _ ep6) p6b mp6 (Its.dqs (bag_ntS BH20) (hI6'.same s20)), .lst ep7 p7b mp7 (Its.dqs (bag_ntS BH20) hI7), fl2, _, rfl, iteF ?_⟩
                have s1820 := s19.trans s20
                exact ⟨_, _, _, _, _, _, _, _, rfl, BH20, k18'.trans (Keep.same s1820), fun _ => ⟨m, u2, v2, c, rfl, s1820 _ _ em18⟩⟩
            · refine ⟨_, rfl, b, 2, rfl, BH5.bag, by decide, by decide, fun r H6 hr2 BG6 k6 g6 => ?_⟩
              have BH6 := g6 _ BH5
              have et6 := k6 _ _ (fun z => bag_ntS BH5 _ (by rw [← z]; exact et)) et
              refine ⟨rfl, _, rfl, ite2 (fun _ => ?_) (fun _ => ?_)⟩
              · refine ⟨_, rfl, _, rfl, _, rfl, _, rfl, _, rfl, b, 2, rfl, BG6, by decide, by decide, fun r2 H7 hr7 BG7 k7 g7 => ?_⟩
                have BH7 := g7 _ BH6
                refine ⟨_, _, rfl, rfl, by show 3 ≤ sizeLine; decide, fun t2 nt2 => ?_⟩
                have w8 := same_upd (o := .tup [.str v, .str u, .int (-k - ↑r2)]) nt2
                simp only [gName, List.set_cons_zero, List.set_cons_succ]
                exact kk _ _ ⟨t2, v, u, _, rfl, BH7.same w8, k5'.trans (k6.trans (k7.trans (Keep.same w8))), upd_same, sv, su, by omega, by omega⟩
              · unfold tNext
                dsimp only
                exact kk _ _ ⟨t, u, v, k, rfl, BH6, k5'.trans k6, et6, su, sv, by omega, by omega⟩
        · refine ⟨_, rfl, _, rfl, by show 2 ≤ sizeLine; decide, fun t nt => ?_⟩
          have w4 := same_upd (o := .tup [.str u, .str v]) nt
          have et : (upd H2' t (.tup [.str u, .str v])) t = some (.tup [.str u, .str v]) := upd_same
          have vg := hT7.val u v
          have eq2 := w4 _ _ (k2' _ _ q7b eq7)
          have kt := k2'.trans (Keep.same w4)
          have BHt := BH2.same w4
          generalize upd H2' t (.tup [.str u, .str v]) = Ht at w4 et eq2 kt BHt
          refine ⟨_, rfl, q7, _, rfl, DGet.t (k := kP u v) eq2 et, ?_⟩
          rw [vg]
          cases eg : M.rounds (srcs ys3) L0 (ys3.length + 2) (M.diag (srcs ys3)) u v with
          | none =>
            refine ⟨_, rfl, iteF ?_⟩
            refine ⟨_, rfl, b, rfl, BHt.bag, fun z Hn z1 z2 BGn kn gn => ?_⟩
            simp only [gName, List.set_cons_zero, List.set_cons_succ]
            exact kk _ _ ⟨z, rfl, gn _ BHt, kt.trans kn, by omega, by omega⟩
          | some g =>
            refine ⟨_, rfl, iteT ?_⟩
            obtain ⟨g1', g2'⟩ := bound_far K0 src0 yl hb0 eg
            refine ⟨_, rfl, _, rfl, _, rfl, by show 2 ≤ sizeLine; decide, fun t2 nt2 => ?_⟩
            have w5 := same_upd (o := .tup [.str u, .str v]) nt2
            refine ⟨q7, .int g, rfl, by have h := DGet.t (k := kP u v) (w5 _ _ eq2) upd_same; rw [vg, eg] at h; exact h, ?_⟩
            have BHu := BHt.same w5
            refine ⟨_, rfl, b, 3, rfl, BHu.bag, by decide, by decide, fun r Hn hr3 BGn kn gn => ?_⟩
            refine ⟨_, _, rfl, rfl, _, _, rfl, rfl, ?_⟩
            simp only [gName, List.set_cons_zero, List.set_cons_succ]
            exact kk _ _ ⟨_, rfl, gn _ BHu, kt.trans ((Keep.same w5).trans kn), by omega, by omega⟩
      · rintro σ H0 ⟨y8, y9, y10, y11, y12, y13, y14, y15, rfl, BH0, k0, h13⟩
        obtain ⟨m, u, v, c, rfl, em⟩ := h13 (by decide)
        have FMe := FM8.kst yne (Kst.keep B8c k0)
        have N0 := nf_keep N8 B8c pnb ptb k0
        refine ⟨_, rfl, _, rfl, _, rfl, .ref b, x, pn, zs, ys3, L0, rfl, FMe, N0.hn, pm, zq, fun J1 u1 => ⟨_, rfl, iteF ?_⟩⟩
        refine ⟨_, rfl, _, rfl, _, rfl, x, pn, m, zs, ys3, L0, u, v, c, rfl, FMe.same u1, u1 _ _ N0.hn, pm, zne, zok, zl, zq, u1 _ _ em, fun J2 u2 => ⟨_, rfl, iteF ?_⟩⟩
        have u12 := u1.trans u2
        have FM2 := FMe.same u12
        obtain ⟨dx2, na2, nb2, ex2⟩ := FM2.insN
        have d12 : lstT ys3 (L0 ++ L0) = lstT ys3 L0 := lst_twice K0 src0
        refine ⟨_, rfl, _, rfl, x, dx2, _, x, dx2, _, rfl, rfl, ex2, ex2, x, x, ys3, ys3, L0, rfl, FM2, FM2.nma, .inr ⟨rfl, L0, FM2, yl, fun no => absurd ⟨pot0, fun a b c h => K0 a b c ((List.mem_append.mp h).elim id id)⟩ no, fun _ J3 x3 u3 FM3 => ⟨⟨x3, rfl⟩, ?_⟩⟩⟩
        obtain ⟨dx3, na3, nb3, ex3⟩ := FM3.insN
        obtain ⟨⟨T3, gf3, lk3⟩, _⟩ := id FM3
        refine ⟨x3, dx3, _, rfl, ex3, rfl, x3, ys3, T3, rfl, gf3.at_, gf3.ti, fun p3 us3 Lb3 J4 np3 mp3 u4 ep3 hI3 bd3 => ?_⟩
        obtain rfl := FM3.tells lk3 bd3 ynm
        rw [d12] at hI3
        have FM4 := (FM2.same u3).same u4
        obtain ⟨dx4, na4, nb4, ex4⟩ := FM4.insN
        obtain ⟨⟨T4, gf4, lk4⟩, _⟩ := id FM4
        refine ⟨_, rfl, x, dx4, _, rfl, ex4, rfl, x, ys3, T4, rfl, gf4.at_, gf4.ti, fun p4 us4 Lb4 J5 np4 mp4 u5 ep4 hI4' bd4 => ?_⟩
        obtain rfl := FM4.tells lk4 bd4 ynm
        have fl := flat_all K0 src0 so FM4.nd ynm yl (fun f hf => (hb0 f hf).two)
        refine ⟨_, _, .lst (SqL.of (u5 _ _ ep3)) (hI3.same u5).dp, .lst (SqL.of ep4) hI4'.dp, fl.shape, fl.shape, _, rfl, ?_⟩
        rw [SeqAt.eqv_refl _ (SeqAt.canLay_of_shaped fl.shape)]
        refine iteF ?_
        have FM5 := FM4.same u5
        obtain ⟨dx5, na5, nb5, ex5⟩ := FM5.insN
        obtain ⟨⟨T5, gf5, lk5⟩, _⟩ := id FM5
        refine ⟨_, rfl, x, dx5, _, rfl, ex5, rfl, x, ys3, T5, rfl, gf5.at_, gf5.ti, fun p5 us5 Lb5 J6 np5 mp5 u6 ep5 hI5' bd5 => ?_⟩
        obtain rfl := FM5.tells lk5 bd5 ynm
        have w6 : Same H0 J6 := (((u12.trans u3).trans u4).trans u5).trans u6
        refine ⟨_, rfl, _, rfl, pn, pt, zs, ys3, xs0, L0, rfl, N0.same w6, so, by omega, src0, fun no => absurd ⟨pot0, K0⟩ no, fun _ J7 p7 us7 u7 np7 mp7 ep7 hI7 => ?_⟩
        refine ⟨_, _, .lst (SqL.of (u7 _ _ ep5)) (hI5'.same u7).dp, .lst (SqL.of ep7) hI7.dp, fl.shape, fl.shape, _, rfl, ?_⟩
        rw [SeqAt.eqv_refl _ (SeqAt.canLay_of_shaped fl.shape)]
        refine iteF ?_
        exact ⟨_, _, _, _, _, _, _, _, _, _, _, _, _, _, rfl, (BH0.same (w6.trans u7)).bag⟩
    · rintro σ G ⟨_, _, _, _, _, _, _, _, _, _, _, _, _, _, rfl, _⟩
      exact q G
end
end Fv


set_option Elab.async false
set_option linter.all false
set_option maxRecDepth 100000
set_option maxHeartbeats 4000000
namespace Fv
open PySem PySem.Spec PyProof.Rows L2
/-- what the written part says of the __init__ of an own error -/
structure IniF (K : PySem.W.Frag) (C f : Addr) (qual : Str) (st : Stmt) : Prop where
  ox : OexC K C
  fi : PySem.W.findIn K (.ref C) "__init__" = some (some (.ref f))
  tI : PySem.W.typeIn K (.ref f) = some (.type "function")
  fn : ∃ fd, Fun K "__init__" qual st f fd
def errM (C A : Addr) : List Value := [.ref C, .ref A, .type "ValueError", .type "Exception", .type "BaseException", .type "object"]
theorem err_no {C A D : Addr} (n1 : C ≠ D) (n2 : A ≠ D) : (errM C A).contains (.ref D) = false := by
  rw [← Bool.not_eq_true, List.contains_iff_mem]
  unfold errM
  simp only [List.mem_cons, List.not_mem_nil, or_false, Value.ref.injEq, reduceCtorEq]
  exact fun h => h.elim (fun e => n1 e.symm) fun e => n2 e.symm
theorem Mro.kit2 {K : PySem.W.Frag} {C A D : Addr} {m : List Value} (h : Mro K C (errM C A)) (hD : Mro K D m) (ht : PySem.W.typeIn K (.ref D) = some (.type "type")) (n1 : C ≠ D) (n2 : A ≠ D) : PySem.W.kitOne K (.ref C) (.ref D) = some false := by
  unfold PySem.W.kitOne
  have n : ((Value.ref C : Value) == .ref D) = false := by
    rw [beq_eq_false_iff_ne]
    exact fun e => n1 (Value.ref.inj e)
  rw [n, if_neg (by decide)]
  exact (h.cls2 hD ht).trans (congrArg some (err_no n1 n2))
theorem Mro.exm2 {K : PySem.W.Frag} {C A : Addr} {b0 : Value} {m : List Value} (h : Mro K C (errM C A)) (hA : Mro K A (b0 :: m)) (hb : (b0 :: m).contains (.type "BaseException") = true) (ht : PySem.W.typeIn K (.ref A) = some (.type "type")) : PySem.W.exmOne K (.ref C) (.ref A) = some true := by
  unfold PySem.W.exmOne
  rw [hA.sub, hb, if_pos (by rfl), h.cls2 hA ht]
  congr 1
  rw [List.contains_iff_mem]
  simp
theorem exm_own {K : PySem.W.Frag} {C : Addr} (b : PySem.W.subIn K (.ref C) (.type "BaseException") = some true) (i : PySem.W.isClsIn K C = true) (t : PySem.W.typeIn K (.ref C) = some (.type "type")) (s : PySem.W.subIn K (.ref C) (.ref C) = some true) : PySem.W.exmOne K (.ref C) (.ref C) = some true := by
  unfold PySem.W.exmOne
  rw [b, if_pos (by rfl)]
  unfold PySem.W.kitCls
  dsimp only
  have hi : (PySem.W.clsIn K C).isSome = true := i
  rw [if_pos (by rw [hi, t] <;> rfl), s]
theorem ini_bindsA {K : PySem.W.Frag} {T ad : Addr} {oT : Obj} {n : Nat} {kV dc pm cd ct : Value} {an : Option Addr} (lT : K.lookup T = some oT) (dT : oT.data = .seq #[.ref ad] n) :
    Binds K (PySem.W.fnOf "__init__" "Facts.__init__" (defArgs sInit) (defBody sInit) (defScope sInit) (.ref T) kV dc pm an cd ct) ["self", "names", "facts"] [] := by
  intro s us hK hl
  rw [List.append_nil] at hl ⊢
  match us, hl with
  | [a, b, c], _ =>
    exact BindsTo.of_looks fun M => looks_items hK lT dT (KwChain.looks (D := T) hK (l := []) (fun q hq => by cases hq) rfl)
theorem ini_binds {K : PySem.W.Frag} {T ad : Addr} {oT : Obj} {n : Nat} {kV dc pm cd ct : Value} {an : Option Addr} (lT : K.lookup T = some oT) (dT : oT.data = .seq #[.ref ad] n) :
    Binds K (PySem.W.fnOf "__init__" "Facts.__init__" (defArgs sInit) (defBody sInit) (defScope sInit) (.ref T) kV dc pm an cd ct) ["self", "names", "facts"] [.ref ad] := by
  intro s us hK hl
  have h2 : us.length = 2 := by
    rw [List.length_append] at hl
    have : us.length + 1 = 3 := hl
    omega
  match us, h2 with
  | [a, b], _ =>
    exact BindsTo.of_looks fun M => looks_items hK lT dT (KwChain.looks (D := T) hK (l := []) (fun q hq => by cases hq) rfl)
theorem all_mk {l : PySem.W.OpenLaw} {w : World} {K : PySem.W.Frag} {h : Heap} {mg : Str → Option Value} {fa : Addr} (X : K.In h) (G : h.Ns mainGlobals mg) (hfa : mg "law" = some (.ref fa))
    {f0 f1 f2 f3 f4 f5 f6 f7 f8 f9 f10 f11 f12 f13 f14 f15 f16 f17 f18 f19 f20 f21 f22 f23 f24 f25 f26 f27 mg0 mg1 mg2 mg3 mg4 mg5 mg6 mg7 C AE CW CN CS CU jW jN iF Tt ad : Addr} {oT oe : Obj} {oci kVi dci pmi cdi cti : Value} {odi ani : Option Addr} {sli : Array (Option Value)} {tL tN : Tok}
    {od0 an0 od1 an1 od2 an2 od3 an3 od4 an4 od5 an5 od6 an6 od7 an7 od8 an8 od9 an9 od10 an10 od11 an11 od12 an12 od13 an13 od14 an14 od15 an15 od16 an16 od17 an17 od18 an18 od19 an19 od20 an20 od21 an21 od22 an22 od23 an23 od24 an24 od25 an25 od26 an26 od27 an27 mpd0 mpn0 mpd1 mpn1 mpd2 mpn2 mpd3 mpn3 mpd4 mpn4 mpd5 mpn5 mpd6 mpn6 mpd7 mpn7 : Option Addr} {sl0 sl1 sl2 sl3 sl4 sl5 sl6 sl7 sl8 sl9 sl10 sl11 sl12 sl13 sl14 sl15 sl16 sl17 sl18 sl19 sl20 sl21 sl22 sl23 sl24 sl25 sl26 sl27 mps0 mps1 mps2 mps3 mps4 mps5 mps6 mps7 : Array (Option Value)} {oc0 kV0 dc0 pm0 cd0 ct0 oc1 kV1 dc1 pm1 cd1 ct1 oc2 kV2 dc2 pm2 cd2 ct2 oc3 kV3 dc3 pm3 cd3 ct3 oc4 kV4 dc4 pm4 cd4 ct4 oc5 kV5 dc5 pm5 cd5 ct5 oc6 kV6 dc6 pm6 cd6 ct6 oc7 kV7 dc7 pm7 cd7 ct7 oc8 kV8 dc8 pm8 cd8 ct8 oc9 kV9 dc9 pm9 cd9 ct9 oc10 kV10 dc10 pm10 cd10 ct10 oc11 kV11 dc11 pm11 cd11 ct11 oc12 kV12 dc12 pm12 cd12 ct12 oc13 kV13 dc13 pm13 cd13 ct13 oc14 kV14 dc14 pm14 cd14 ct14 oc15 kV15 dc15 pm15 cd15 ct15 oc16 kV16 dc16 pm16 cd16 ct16 oc17 kV17 dc17 pm17 cd17 ct17 oc18 kV18 dc18 pm18 cd18 ct18 oc19 kV19 dc19 pm19 cd19 ct19 oc20 kV20 dc20 pm20 cd20 ct20 oc21 kV21 dc21 pm21 cd21 ct21 oc22 kV22 dc22 pm22 cd22 ct22 oc23 kV23 dc23 pm23 cd23 ct23 oc24 kV24 dc24 pm24 cd24 ct24 oc25 kV25 dc25 pm25 cd25 ct25 oc26 kV26 dc26 pm26 cd26 ct26 oc27 kV27 dc27 pm27 cd27 ct27 mqc0 mqV0 mqd0 mqm0 mqe0 mqt0 mqc1 mqV1 mqd1 mqm1 mqe1 mqt1 mqc2 mqV2 mqd2 mqm2 mqe2 mqt2 mqc3 mqV3 mqd3 mqm3 mqe3 mqt3 mqc4 mqV4 mqd4 mqm4 mqe4 mqt4 mqc5 mqV5 mqd5 mqm5 mqe5 mqt5 mqc6 mqV6 mqd6 mqm6 mqe6 mqt6 mqc7 mqV7 mqd7 mqm7 mqe7 mqt7 : Value}
    (eF : PySem.W.nsIn K mainGlobals "Facts" = some (some (.ref C)))
    (tC : Cls K C)
    (tM : Mro K C [.ref C, .type "object"])
    (tH : PySem.W.findIn K (.ref C) "__class__" = some (some (.builtin "object.__class__")))
    (hn : PySem.W.specialIn K (.builtin "object.__class__") "__get__" = some (some (.builtin "getset_descriptor.__get__")))
    (hk : PySem.W.takesIn K (.builtin "object.__class__") = some true)
    (y0 : PySem.W.findIn K (.ref C) "_names" = some none)
    (y1 : PySem.W.findIn K (.ref C) "_table" = some none)
    (mk : Mk K C iF)
    (li : K.lookup iF = some ⟨oci, odi, .func (PySem.W.fnOf "__init__" "Facts.__init__" (defArgs sInit) (defBody sInit) (defScope sInit) (.ref Tt) kVi dci pmi ani cdi cti), sli⟩)
    (ci : PySem.W.codeIn K cdi "Facts.__init__" = true)
    (ki : PySem.W.keepIn K (.ref iF) = true)
    (lT : K.lookup Tt = some oT)
    (dT : ∃ n, oT.data = .seq #[.ref ad] n)
    (lk : K.lookup ad = some oe)
    (ct : oe.cls = .type "tuple")
    (de : ∃ n, oe.data = .seq #[] n)
    (sfC : PySem.W.selfFirst K C = true)
    (anF : PySem.W.findIn K (.ref C) "__and__" = some (some (.ref mg5)))
    (hf2 : PySem.W.isFn K (.ref mg5) = true)
    (mM0 : Meth K C "greatest" mg0)
    (mM1 : Meth K C "bounds" mg1)
    (mM2 : Meth K C "keeps" mg2)
    (mM3 : Meth K C "start_with" mg3)
    (mM4 : Meth K C "with_fact" mg4)
    (mM6 : Meth K C "names" mg6)
    (mM7 : Meth K C "_check" mg7)
    (ml0 : K.lookup mg0 = some ⟨mqc0, mpd0, .func (PySem.W.fnOf "greatest" "Facts.greatest" (defArgs sGreatest) (defBody sGreatest) (defScope sGreatest) .none mqV0 mqd0 mqm0 mpn0 mqe0 mqt0), mps0⟩)
    (mc0 : PySem.W.codeIn K mqe0 "Facts.greatest" = true)
    (mk0 : PySem.W.keepIn K (.ref mg0) = true)
    (ml1 : K.lookup mg1 = some ⟨mqc1, mpd1, .func (PySem.W.fnOf "bounds" "Facts.bounds" (defArgs sBounds) (defBody sBounds) (defScope sBounds) .none mqV1 mqd1 mqm1 mpn1 mqe1 mqt1), mps1⟩)
    (mc1 : PySem.W.codeIn K mqe1 "Facts.bounds" = true)
    (mk1 : PySem.W.keepIn K (.ref mg1) = true)
    (ml2 : K.lookup mg2 = some ⟨mqc2, mpd2, .func (PySem.W.fnOf "keeps" "Facts.keeps" (defArgs sKeeps) (defBody sKeeps) (defScope sKeeps) .none mqV2 mqd2 mqm2 mpn2 mqe2 mqt2), mps2⟩)
    (mc2 : PySem.W.codeIn K mqe2 "Facts.keeps" = true)
    (mk2 : PySem.W.keepIn K (.ref mg2) = true)
    (ml3 : K.lookup mg3 = some ⟨mqc3, mpd3, .func (PySem.W.fnOf "start_with" "Facts.start_with" (defArgs sStartW) (defBody sStartW) (defScope sStartW) .none mqV3 mqd3 mqm3 mpn3 mqe3 mqt3), mps3⟩)
    (mc3 : PySem.W.codeIn K mqe3 "Facts.start_with" = true)
    (mk3 : PySem.W.keepIn K (.ref mg3) = true)
    (ml4 : K.lookup mg4 = some ⟨mqc4, mpd4, .func (PySem.W.fnOf "with_fact" "Facts.with_fact" (defArgs sWithF) (defBody sWithF) (defScope sWithF) .none mqV4 mqd4 mqm4 mpn4 mqe4 mqt4), mps4⟩)
    (mc4 : PySem.W.codeIn K mqe4 "Facts.with_fact" = true)
    (mk4 : PySem.W.keepIn K (.ref mg4) = true)
    (ml5 : K.lookup mg5 = some ⟨mqc5, mpd5, .func (PySem.W.fnOf "__and__" "Facts.__and__" (defArgs sAndM) (defBody sAndM) (defScope sAndM) .none mqV5 mqd5 mqm5 mpn5 mqe5 mqt5), mps5⟩)
    (mc5 : PySem.W.codeIn K mqe5 "Facts.__and__" = true)
    (mk5 : PySem.W.keepIn K (.ref mg5) = true)
    (ml6 : K.lookup mg6 = some ⟨mqc6, mpd6, .func (PySem.W.fnOf "names" "Facts.names" (defArgs sNamesM) (defBody sNamesM) (defScope sNamesM) .none mqV6 mqd6 mqm6 mpn6 mqe6 mqt6), mps6⟩)
    (mc6 : PySem.W.codeIn K mqe6 "Facts.names" = true)
    (mk6 : PySem.W.keepIn K (.ref mg6) = true)
    (ml7 : K.lookup mg7 = some ⟨mqc7, mpd7, .func (PySem.W.fnOf "_check" "Facts._check" (defArgs sCheckM) (defBody sCheckM) (defScope sCheckM) .none mqV7 mqd7 mqm7 mpn7 mqe7 mqt7), mps7⟩)
    (mc7 : PySem.W.codeIn K mqe7 "Facts._check" = true)
    (mk7 : PySem.W.keepIn K (.ref mg7) = true)
    (eA : PySem.W.nsIn K mainGlobals "ApartError" = some (some (.ref AE)))
    (eW : PySem.W.nsIn K mainGlobals "Wrong" = some (some (.ref CW)))
    (eN : PySem.W.nsIn K mainGlobals "NoName" = some (some (.ref CN)))
    (eS : PySem.W.nsIn K mainGlobals "NoStart" = some (some (.ref CS)))
    (eU : PySem.W.nsIn K mainGlobals "Unlike" = some (some (.ref CU)))
    (aeM : Mro K AE [.ref AE, .type "ValueError", .type "Exception", .type "BaseException", .type "object"])
    (aeT : PySem.W.typeIn K (.ref AE) = some (.type "type"))
    (xW : ExcC K CW)
    (nW : PySem.W.findIn K (.ref CW) "place" = some none)
    (mW : Mro K CW (errM CW AE))
    (iW : IniF K CW jW "Wrong.__init__" (inClass (top 3) 0))
    (xN : ExcC K CN)
    (nN : PySem.W.findIn K (.ref CN) "name" = some none)
    (mN : Mro K CN (errM CN AE))
    (iN : IniF K CN jN "NoName.__init__" (inClass (top 4) 0))
    (nb : PySem.W.subIn K (.ref CN) (.type "BaseException") = some true)
    (ni : PySem.W.isClsIn K CN = true)
    (ns : PySem.W.subIn K (.ref CN) (.ref CN) = some true)
    (xS : ExcC K CS)
    (mS : Mro K CS (errM CS AE))
    (sx : PySem.W.excIn K CS [.type "ValueError", .type "Exception", .type "BaseException", .type "object"] "ValueError.__new__" = true)
    (sk : PySem.W.keepIn K (.ref CS) = true)
    (sb : PySem.W.subIn K (.ref CS) (.type "BaseException") = some true)
    (st : PySem.W.typeIn K (.ref CS) = some (.type "type"))
    (xU : ExcC K CU)
    (mU : Mro K CU (errM CU AE))
    (ux : PySem.W.excIn K CU [.type "ValueError", .type "Exception", .type "BaseException", .type "object"] "ValueError.__new__" = true)
    (uk : PySem.W.keepIn K (.ref CU) = true)
    (ub : PySem.W.subIn K (.ref CU) (.type "BaseException") = some true)
    (ut : PySem.W.typeIn K (.ref CU) = some (.type "type"))
    (dUN : CU ≠ CN)
    (dSN : CS ≠ CN)
    (dSU : CS ≠ CU)
    (dAN : AE ≠ CN)
    (dAU : AE ≠ CU)
    (cL : PySem.W.nsIn K mainGlobals "LETTERS" = some (some (.str abc tL)))
    (cN : PySem.W.nsIn K mainGlobals "LONGEST_NAME" = some (some (.int 8 tN)))
    (a0 : PySem.W.nsIn K mainGlobals "is_integer" = some (some (.ref f0)))
    (l0 : K.lookup f0 = some ⟨oc0, od0, .func (PySem.W.fnOf "is_integer" "is_integer" (defArgs sIsInt) (defBody sIsInt) (defScope sIsInt) .none kV0 dc0 pm0 an0 cd0 ct0), sl0⟩)
    (c0 : PySem.W.codeIn K cd0 "is_integer" = true)
    (k0 : PySem.W.keepIn K (.ref f0) = true)
    (a1 : PySem.W.nsIn K mainGlobals "is_name" = some (some (.ref f1)))
    (l1 : K.lookup f1 = some ⟨oc1, od1, .func (PySem.W.fnOf "is_name" "is_name" (defArgs sIsName) (defBody sIsName) (defScope sIsName) .none kV1 dc1 pm1 an1 cd1 ct1), sl1⟩)
    (c1 : PySem.W.codeIn K cd1 "is_name" = true)
    (k1 : PySem.W.keepIn K (.ref f1) = true)
    (a2 : PySem.W.nsIn K mainGlobals "is_source" = some (some (.ref f2)))
    (l2 : K.lookup f2 = some ⟨oc2, od2, .func (PySem.W.fnOf "is_source" "is_source" (defArgs sIsSource) (defBody sIsSource) (defScope sIsSource) .none kV2 dc2 pm2 an2 cd2 ct2), sl2⟩)
    (c2 : PySem.W.codeIn K cd2 "is_source" = true)
    (k2 : PySem.W.keepIn K (.ref f2) = true)
    (a3 : PySem.W.nsIn K mainGlobals "is_row" = some (some (.ref f3)))
    (l3 : K.lookup f3 = some ⟨oc3, od3, .func (PySem.W.fnOf "is_row" "is_row" (defArgs sIsRow) (defBody sIsRow) (defScope sIsRow) .none kV3 dc3 pm3 an3 cd3 ct3), sl3⟩)
    (c3 : PySem.W.codeIn K cd3 "is_row" = true)
    (k3 : PySem.W.keepIn K (.ref f3) = true)
    (a4 : PySem.W.nsIn K mainGlobals "check_arguments" = some (some (.ref f4)))
    (l4 : K.lookup f4 = some ⟨oc4, od4, .func (PySem.W.fnOf "check_arguments" "check_arguments" (defArgs sChk) (defBody sChk) (defScope sChk) .none kV4 dc4 pm4 an4 cd4 ct4), sl4⟩)
    (c4 : PySem.W.codeIn K cd4 "check_arguments" = true)
    (k4 : PySem.W.keepIn K (.ref f4) = true)
    (a5 : PySem.W.nsIn K mainGlobals "are_names" = some (some (.ref f5)))
    (l5 : K.lookup f5 = some ⟨oc5, od5, .func (PySem.W.fnOf "are_names" "are_names" (defArgs sAreNames) (defBody sAreNames) (defScope sAreNames) .none kV5 dc5 pm5 an5 cd5 ct5), sl5⟩)
    (c5 : PySem.W.codeIn K cd5 "are_names" = true)
    (k5 : PySem.W.keepIn K (.ref f5) = true)
    (a6 : PySem.W.nsIn K mainGlobals "_are_facts" = some (some (.ref f6)))
    (l6 : K.lookup f6 = some ⟨oc6, od6, .func (PySem.W.fnOf "_are_facts" "_are_facts" (defArgs sAreFacts) (defBody sAreFacts) (defScope sAreFacts) .none kV6 dc6 pm6 an6 cd6 ct6), sl6⟩)
    (c6 : PySem.W.codeIn K cd6 "_are_facts" = true)
    (k6 : PySem.W.keepIn K (.ref f6) = true)
    (a7 : PySem.W.nsIn K mainGlobals "_is_fact" = some (some (.ref f7)))
    (l7 : K.lookup f7 = some ⟨oc7, od7, .func (PySem.W.fnOf "_is_fact" "_is_fact" (defArgs sIsFact) (defBody sIsFact) (defScope sIsFact) .none kV7 dc7 pm7 an7 cd7 ct7), sl7⟩)
    (c7 : PySem.W.codeIn K cd7 "_is_fact" = true)
    (k7 : PySem.W.keepIn K (.ref f7) = true)
    (a8 : PySem.W.nsIn K mainGlobals "_check_sources" = some (some (.ref f8)))
    (l8 : K.lookup f8 = some ⟨oc8, od8, .func (PySem.W.fnOf "_check_sources" "_check_sources" (defArgs sChkSrc) (defBody sChkSrc) (defScope sChkSrc) .none kV8 dc8 pm8 an8 cd8 ct8), sl8⟩)
    (c8 : PySem.W.codeIn K cd8 "_check_sources" = true)
    (k8 : PySem.W.keepIn K (.ref f8) = true)
    (a9 : PySem.W.nsIn K mainGlobals "_tightest" = some (some (.ref f9)))
    (l9 : K.lookup f9 = some ⟨oc9, od9, .func (PySem.W.fnOf "_tightest" "_tightest" (defArgs sTight) (defBody sTight) (defScope sTight) .none kV9 dc9 pm9 an9 cd9 ct9), sl9⟩)
    (c9 : PySem.W.codeIn K cd9 "_tightest" = true)
    (k9 : PySem.W.keepIn K (.ref f9) = true)
    (a10 : PySem.W.nsIn K mainGlobals "_closed" = some (some (.ref f10)))
    (l10 : K.lookup f10 = some ⟨oc10, od10, .func (PySem.W.fnOf "_closed" "_closed" (defArgs sClosed) (defBody sClosed) (defScope sClosed) .none kV10 dc10 pm10 an10 cd10 ct10), sl10⟩)
    (c10 : PySem.W.codeIn K cd10 "_closed" = true)
    (k10 : PySem.W.keepIn K (.ref f10) = true)
    (a11 : PySem.W.nsIn K mainGlobals "_lowest" = some (some (.ref f11)))
    (l11 : K.lookup f11 = some ⟨oc11, od11, .func (PySem.W.fnOf "_lowest" "_lowest" (defArgs sLowest) (defBody sLowest) (defScope sLowest) .none kV11 dc11 pm11 an11 cd11 ct11), sl11⟩)
    (c11 : PySem.W.codeIn K cd11 "_lowest" = true)
    (k11 : PySem.W.keepIn K (.ref f11) = true)
    (a12 : PySem.W.nsIn K mainGlobals "_law_bag" = some (some (.ref f12)))
    (l12 : K.lookup f12 = some ⟨oc12, od12, .func (PySem.W.fnOf "_law_bag" "_law_bag" (defArgs sBag) (defBody sBag) (defScope sBag) .none kV12 dc12 pm12 an12 cd12 ct12), sl12⟩)
    (c12 : PySem.W.codeIn K cd12 "_law_bag" = true)
    (k12 : PySem.W.keepIn K (.ref f12) = true)
    (a13 : PySem.W.nsIn K mainGlobals "_law_take" = some (some (.ref f13)))
    (l13 : K.lookup f13 = some ⟨oc13, od13, .func (PySem.W.fnOf "_law_take" "_law_take" (defArgs sTake) (defBody sTake) (defScope sTake) .none kV13 dc13 pm13 an13 cd13 ct13), sl13⟩)
    (c13 : PySem.W.codeIn K cd13 "_law_take" = true)
    (k13 : PySem.W.keepIn K (.ref f13) = true)
    (a14 : PySem.W.nsIn K mainGlobals "_law_alike" = some (some (.ref f14)))
    (l14 : K.lookup f14 = some ⟨oc14, od14, .func (PySem.W.fnOf "_law_alike" "_law_alike" (defArgs sAlike) (defBody sAlike) (defScope sAlike) .none kV14 dc14 pm14 an14 cd14 ct14), sl14⟩)
    (c14 : PySem.W.codeIn K cd14 "_law_alike" = true)
    (k14 : PySem.W.keepIn K (.ref f14) = true)
    (a15 : PySem.W.nsIn K mainGlobals "_law_mixed" = some (some (.ref f15)))
    (l15 : K.lookup f15 = some ⟨oc15, od15, .func (PySem.W.fnOf "_law_mixed" "_law_mixed" (defArgs sMixed) (defBody sMixed) (defScope sMixed) .none kV15 dc15 pm15 an15 cd15 ct15), sl15⟩)
    (c15 : PySem.W.codeIn K cd15 "_law_mixed" = true)
    (k15 : PySem.W.keepIn K (.ref f15) = true)
    (a16 : PySem.W.nsIn K mainGlobals "_law_names" = some (some (.ref f16)))
    (l16 : K.lookup f16 = some ⟨oc16, od16, .func (PySem.W.fnOf "_law_names" "_law_names" (defArgs sNames) (defBody sNames) (defScope sNames) .none kV16 dc16 pm16 an16 cd16 ct16), sl16⟩)
    (c16 : PySem.W.codeIn K cd16 "_law_names" = true)
    (k16 : PySem.W.keepIn K (.ref f16) = true)
    (a17 : PySem.W.nsIn K mainGlobals "_law_number" = some (some (.ref f17)))
    (l17 : K.lookup f17 = some ⟨oc17, od17, .func (PySem.W.fnOf "_law_number" "_law_number" (defArgs sNumber) (defBody sNumber) (defScope sNumber) .none kV17 dc17 pm17 an17 cd17 ct17), sl17⟩)
    (c17 : PySem.W.codeIn K cd17 "_law_number" = true)
    (k17 : PySem.W.keepIn K (.ref f17) = true)
    (a18 : PySem.W.nsIn K mainGlobals "_law_facts" = some (some (.ref f18)))
    (l18 : K.lookup f18 = some ⟨oc18, od18, .func (PySem.W.fnOf "_law_facts" "_law_facts" (defArgs sLFacts) (defBody sLFacts) (defScope sLFacts) .none kV18 dc18 pm18 an18 cd18 ct18), sl18⟩)
    (c18 : PySem.W.codeIn K cd18 "_law_facts" = true)
    (k18 : PySem.W.keepIn K (.ref f18) = true)
    (a19 : PySem.W.nsIn K mainGlobals "_law_closed" = some (some (.ref f19)))
    (l19 : K.lookup f19 = some ⟨oc19, od19, .func (PySem.W.fnOf "_law_closed" "_law_closed" (defArgs sLClosed) (defBody sLClosed) (defScope sLClosed) .none kV19 dc19 pm19 an19 cd19 ct19), sl19⟩)
    (c19 : PySem.W.codeIn K cd19 "_law_closed" = true)
    (k19 : PySem.W.keepIn K (.ref f19) = true)
    (a20 : PySem.W.nsIn K mainGlobals "_law_keeps" = some (some (.ref f20)))
    (l20 : K.lookup f20 = some ⟨oc20, od20, .func (PySem.W.fnOf "_law_keeps" "_law_keeps" (defArgs sLKeeps) (defBody sLKeeps) (defScope sLKeeps) .none kV20 dc20 pm20 an20 cd20 ct20), sl20⟩)
    (c20 : PySem.W.codeIn K cd20 "_law_keeps" = true)
    (k20 : PySem.W.keepIn K (.ref f20) = true)
    (a21 : PySem.W.nsIn K mainGlobals "_law_start_right" = some (some (.ref f21)))
    (l21 : K.lookup f21 = some ⟨oc21, od21, .func (PySem.W.fnOf "_law_start_right" "_law_start_right" (defArgs sStartR) (defBody sStartR) (defScope sStartR) .none kV21 dc21 pm21 an21 cd21 ct21), sl21⟩)
    (c21 : PySem.W.codeIn K cd21 "_law_start_right" = true)
    (k21 : PySem.W.keepIn K (.ref f21) = true)
    (a22 : PySem.W.nsIn K mainGlobals "_law_bounds" = some (some (.ref f22)))
    (l22 : K.lookup f22 = some ⟨oc22, od22, .func (PySem.W.fnOf "_law_bounds" "_law_bounds" (defArgs sLBounds) (defBody sLBounds) (defScope sLBounds) .none kV22 dc22 pm22 an22 cd22 ct22), sl22⟩)
    (c22 : PySem.W.codeIn K cd22 "_law_bounds" = true)
    (k22 : PySem.W.keepIn K (.ref f22) = true)
    (a23 : PySem.W.nsIn K mainGlobals "_law_more" = some (some (.ref f23)))
    (l23 : K.lookup f23 = some ⟨oc23, od23, .func (PySem.W.fnOf "_law_more" "_law_more" (defArgs sMore) (defBody sMore) (defScope sMore) .none kV23 dc23 pm23 an23 cd23 ct23), sl23⟩)
    (c23 : PySem.W.codeIn K cd23 "_law_more" = true)
    (k23 : PySem.W.keepIn K (.ref f23) = true)
    (a24 : PySem.W.nsIn K mainGlobals "_law_more_right" = some (some (.ref f24)))
    (l24 : K.lookup f24 = some ⟨oc24, od24, .func (PySem.W.fnOf "_law_more_right" "_law_more_right" (defArgs sMoreR) (defBody sMoreR) (defScope sMoreR) .none kV24 dc24 pm24 an24 cd24 ct24), sl24⟩)
    (c24 : PySem.W.codeIn K cd24 "_law_more_right" = true)
    (k24 : PySem.W.keepIn K (.ref f24) = true)
    (a25 : PySem.W.nsIn K mainGlobals "_law_doors" = some (some (.ref f25)))
    (l25 : K.lookup f25 = some ⟨oc25, od25, .func (PySem.W.fnOf "_law_doors" "_law_doors" (defArgs sDoors) (defBody sDoors) (defScope sDoors) .none kV25 dc25 pm25 an25 cd25 ct25), sl25⟩)
    (c25 : PySem.W.codeIn K cd25 "_law_doors" = true)
    (k25 : PySem.W.keepIn K (.ref f25) = true)
    (a26 : PySem.W.nsIn K mainGlobals "_law_unlike" = some (some (.ref f26)))
    (l26 : K.lookup f26 = some ⟨oc26, od26, .func (PySem.W.fnOf "_law_unlike" "_law_unlike" (defArgs sUnlike) (defBody sUnlike) (defScope sUnlike) .none kV26 dc26 pm26 an26 cd26 ct26), sl26⟩)
    (c26 : PySem.W.codeIn K cd26 "_law_unlike" = true)
    (k26 : PySem.W.keepIn K (.ref f26) = true)
    (a27 : PySem.W.nsIn K mainGlobals "law" = some (some (.ref f27)))
    (l27 : K.lookup f27 = some ⟨oc27, od27, .func (PySem.W.fnOf "law" "law" (defArgs sLaw) (defBody sLaw) (defScope sLaw) .none kV27 dc27 pm27 an27 cd27 ct27), sl27⟩)
    (c27 : PySem.W.codeIn K cd27 "law" = true)
    (k27 : PySem.W.keepIn K (.ref f27) = true)
    (z0 : PySem.W.nsIn K mainGlobals "abs" = some none)
    (z1 : PySem.W.nsIn K mainGlobals "int" = some none)
    (z2 : PySem.W.nsIn K mainGlobals "len" = some none)
    (z3 : PySem.W.nsIn K mainGlobals "isinstance" = some none)
    (z4 : PySem.W.nsIn K mainGlobals "bool" = some none)
    (z5 : PySem.W.nsIn K mainGlobals "str" = some none)
    (z6 : PySem.W.nsIn K mainGlobals "all" = some none)
    (z7 : PySem.W.nsIn K mainGlobals "range" = some none)
    (z8 : PySem.W.nsIn K mainGlobals "repr" = some none)
    (z9 : PySem.W.nsIn K mainGlobals "list" = some none)
    (z10 : PySem.W.nsIn K mainGlobals "tuple" = some none)
    (z11 : PySem.W.nsIn K mainGlobals "sorted" = some none)
    (z12 : PySem.W.nsIn K mainGlobals "enumerate" = some none)
    (z13 : PySem.W.nsIn K mainGlobals "dict" = some none)
    (z14 : PySem.W.nsIn K mainGlobals "min" = some none) :
    ∃ fd : FuncData, (∀ (s : Shared) (v : Value), BindsTo s fd ⟨[v], []⟩ [("_law_script", v)]) ∧ ∀ base : Heap, K.In base → base.Ns mainGlobals mg → FnG l.prog w K mg base 10 fa fd ["_law_script"] (spLaw K) := by
  have e := hfa.symm.trans (PySem.W.mg_of X G a27)
  cases e
  have F0 := fun_mk (st := sIsInt) l0 c0 k0
  have b0 := F0.binds (ps := ["thing"]) fun _ _ _ _ _ _ us hl => match us, hl with | [_], _ => rfl
  have F1 := fun_mk (st := sIsName) l1 c1 k1
  have b1 := F1.binds (ps := ["thing"]) fun _ _ _ _ _ _ us hl => match us, hl with | [_], _ => rfl
  have F2 := fun_mk (st := sIsSource) l2 c2 k2
  have b2 := F2.binds (ps := ["thing"]) fun _ _ _ _ _ _ us hl => match us, hl with | [_], _ => rfl
  have F3 := fun_mk (st := sIsRow) l3 c3 k3
  have b3 := F3.binds (ps := ["thing"]) fun _ _ _ _ _ _ us hl => match us, hl with | [_], _ => rfl
  have F4 := fun_mk (st := sChk) l4 c4 k4
  have b4 := F4.binds (ps := ["rights"]) fun _ _ _ _ _ _ us hl => match us, hl with | [_], _ => rfl
  have F5 := fun_mk (st := sAreNames) l5 c5 k5
  have b5 := F5.binds (ps := ["thing"]) fun _ _ _ _ _ _ us hl => match us, hl with | [_], _ => rfl
  have F6 := fun_mk (st := sAreFacts) l6 c6 k6
  have b6 := F6.binds (ps := ["thing"]) fun _ _ _ _ _ _ us hl => match us, hl with | [_], _ => rfl
  have F7 := fun_mk (st := sIsFact) l7 c7 k7
  have b7 := F7.binds (ps := ["thing"]) fun _ _ _ _ _ _ us hl => match us, hl with | [_], _ => rfl
  have F8 := fun_mk (st := sChkSrc) l8 c8 k8
  have b8 := F8.binds (ps := ["names", "facts"]) fun _ _ _ _ _ _ us hl => match us, hl with | [_, _], _ => rfl
  have F9 := fun_mk (st := sTight) l9 c9 k9
  have b9 := F9.binds (ps := ["facts"]) fun _ _ _ _ _ _ us hl => match us, hl with | [_], _ => rfl
  have F10 := fun_mk (st := sClosed) l10 c10 k10
  have b10 := F10.binds (ps := ["facts"]) fun _ _ _ _ _ _ us hl => match us, hl with | [_], _ => rfl
  have F11 := fun_mk (st := sLowest) l11 c11 k11
  have b11 := F11.binds (ps := ["table", "source"]) fun _ _ _ _ _ _ us hl => match us, hl with | [_, _], _ => rfl
  have F12 := fun_mk (st := sBag) l12 c12 k12
  have b12 := F12.binds (ps := ["_law_script"]) fun _ _ _ _ _ _ us hl => match us, hl with | [_], _ => rfl
  have F13 := fun_mk (st := sTake) l13 c13 k13
  have b13 := F13.binds (ps := ["_law_bag_here", "_law_many"]) fun _ _ _ _ _ _ us hl => match us, hl with | [_, _], _ => rfl
  have F14 := fun_mk (st := sAlike) l14 c14 k14
  have b14 := bindG_of F14 (ps := ["_law_found", "_law_due"]) fun _ _ _ _ _ _ us hl => match us, hl with | [_, _], _ => rfl
  have F15 := fun_mk (st := sMixed) l15 c15 k15
  have b15 := F15.binds (ps := ["_law_bag_here", "_law_things"]) fun _ _ _ _ _ _ us hl => match us, hl with | [_, _], _ => rfl
  have F16 := fun_mk (st := sNames) l16 c16 k16
  have b16 := F16.binds (ps := ["_law_bag_here", "_law_many"]) fun _ _ _ _ _ _ us hl => match us, hl with | [_, _], _ => rfl
  have F17 := fun_mk (st := sNumber) l17 c17 k17
  have b17 := F17.binds (ps := ["_law_bag_here"]) fun _ _ _ _ _ _ us hl => match us, hl with | [_], _ => rfl
  have F18 := fun_mk (st := sLFacts) l18 c18 k18
  have b18 := F18.binds (ps := ["_law_bag_here", "_law_names_here"]) fun _ _ _ _ _ _ us hl => match us, hl with | [_, _], _ => rfl
  have F19 := fun_mk (st := sLClosed) l19 c19 k19
  have b19 := F19.binds (ps := ["_law_names_here", "_law_facts_here"]) fun _ _ _ _ _ _ us hl => match us, hl with | [_, _], _ => rfl
  have F20 := fun_mk (st := sLKeeps) l20 c20 k20
  have b20 := F20.binds (ps := ["_law_names_here", "_law_facts_here", "_law_thing"]) fun _ _ _ _ _ _ us hl => match us, hl with | [_, _, _], _ => rfl
  have F21 := fun_mk (st := sStartR) l21 c21 k21
  have b21 := F21.binds (ps := ["_law_facts_here", "_law_names_here", "_law_told", "_law_x", "_law_y", "_law_number_here"]) fun _ _ _ _ _ _ us hl => match us, hl with | [_, _, _, _, _, _], _ => rfl
  have F22 := fun_mk (st := sLBounds) l22 c22 k22
  have b22 := F22.binds (ps := ["_law_names_here", "_law_told"]) fun _ _ _ _ _ _ us hl => match us, hl with | [_, _], _ => rfl
  have F23 := fun_mk (st := sMore) l23 c23 k23
  have b23 := F23.binds (ps := ["_law_style", "_law_one", "_law_two", "_law_more_here"]) fun _ _ _ _ _ _ us hl => match us, hl with | [_, _, _, _], _ => rfl
  have F24 := fun_mk (st := sMoreR) l24 c24 k24
  have b24 := bindG_of F24 (ps := ["_law_bag_here", "_law_made", "_law_elder", "_law_names_here", "_law_told", "_law_more_here"]) fun _ _ _ _ _ _ us hl => match us, hl with | [_, _, _, _, _, _], _ => rfl
  have F25 := fun_mk (st := sDoors) l25 c25 k25
  have b25 := F25.binds (ps := ["_law_bag_here", "_law_facts_here", "_law_names_here"]) fun _ _ _ _ _ _ us hl => match us, hl with | [_, _, _], _ => rfl
  have F26 := fun_mk (st := sUnlike) l26 c26 k26
  have b26 := F26.binds (ps := ["_law_facts_here", "_law_names_here", "_law_more_here"]) fun _ _ _ _ _ _ us hl => match us, hl with | [_, _, _], _ => rfl
  have F27 := fun_mk (st := sLaw) l27 c27 k27
  have mF0 := fun_mk (st := sGreatest) ml0 mc0 mk0
  have mb0 := mF0.binds (ps := ["self", "x", "y"]) fun _ _ _ _ _ _ us hl => match us, hl with | [_, _, _], _ => rfl
  have mF1 := fun_mk (st := sBounds) ml1 mc1 mk1
  have mb1 := mF1.binds (ps := ["self"]) fun _ _ _ _ _ _ us hl => match us, hl with | [_], _ => rfl
  have mF2 := fun_mk (st := sKeeps) ml2 mc2 mk2
  have mb2 := mF2.binds (ps := ["self", "thing"]) fun _ _ _ _ _ _ us hl => match us, hl with | [_, _], _ => rfl
  have mF3 := fun_mk (st := sStartW) ml3 mc3 mk3
  have mb3 := mF3.binds (ps := ["self", "x", "y", "number"]) fun _ _ _ _ _ _ us hl => match us, hl with | [_, _, _, _], _ => rfl
  have mF4 := fun_mk (st := sWithF) ml4 mc4 mk4
  have mb4 := mF4.binds (ps := ["self", "x", "y", "c"]) fun _ _ _ _ _ _ us hl => match us, hl with | [_, _, _, _], _ => rfl
  have mF5 := fun_mk (st := sAndM) ml5 mc5 mk5
  have mb5 := mF5.binds (ps := ["self", "other"]) fun _ _ _ _ _ _ us hl => match us, hl with | [_, _], _ => rfl
  have mF6 := fun_mk (st := sNamesM) ml6 mc6 mk6
  have mb6 := mF6.binds (ps := ["self"]) fun _ _ _ _ _ _ us hl => match us, hl with | [_], _ => rfl
  have mF7 := fun_mk (st := sCheckM) ml7 mc7 mk7
  have mb7 := mF7.binds (ps := ["self", "x", "y"]) fun _ _ _ _ _ _ us hl => match us, hl with | [_, _, _], _ => rfl
  obtain ⟨nT, dT⟩ := dT
  obtain ⟨ne, de⟩ := de
  have FI : FunD K "__init__" "Facts.__init__" (defArgs sInit) (defBody sInit) (defScope sInit) [.ref ad] [] iF _ := ⟨⟨oci, odi, .ref Tt, kVi, dci, pmi, ani, cdi, cti, sli, rfl, li, ci, .inr ⟨nofun, Tt, oT, [.ref ad], nT, rfl, lT, dT, .cons rfl .nil⟩, .inl rfl⟩, ki⟩
  have bI := ini_bindsA (kV := kVi) (dc := dci) (pm := pmi) (cd := cdi) (ct := cti) (an := ani) lT dT
  have bI0 := ini_binds (kV := kVi) (dc := dci) (pm := pmi) (cd := cdi) (ct := cti) (an := ani) lT dT
  have ht : ∀ H, SqT K H ad [] := fun H => .inr ⟨oe, #[], ne, lk, ct, de, by show 0 ≤ sizeLine; decide, .nil⟩
  have hoI : PySem.W.mroIn K C (.type "object") = some true := (tM.sub _).trans (by
    congr 1)
  have tF : KFn K C := ⟨tC, tH, hn, hk, hoI, tM.kit (by decide +kernel), tM.kit (by decide +kernel), tM.kit (by decide +kernel), tM.kit (by decide +kernel), tM.kit (by decide +kernel)⟩
  have tG : FacC K C := ⟨tC, y0, y1⟩
  obtain ⟨fdW, FEW⟩ := iW.fn
  obtain ⟨fdN, FEN⟩ := iN.fn
  have E4 : Errs4 K mg CN CU CS AE := ⟨PySem.W.mg_of X G eA, PySem.W.mg_of X G eN, PySem.W.mg_of X G eU, PySem.W.mg_of X G eS, xN, xU, xS, nN, mN.exm2 aeM (by rfl) aeT, mU.exm2 aeM (by rfl) aeT, mS.exm2 aeM (by rfl) aeT, kit_self, mU.kit2 mN iN.ox.tyC dUN dAN, kit_self, mS.kit2 mN iN.ox.tyC dSN dAN, mS.kit2 mU ut dSU dAU, kit_self⟩
  have OS : Err0 K mg "NoStart" CS := ⟨sx, PySem.W.mg_of X G eS, sk, sb, st⟩
  have OU : Err0 K mg "Unlike" CU := ⟨ux, PySem.W.mg_of X G eU, uk, ub, ut⟩
  have CC : CatchC K mg "NoName" "name" CN := ⟨xN, nN, exm_own nb ni iN.ox.tyC ns, PySem.W.mg_of X G eN⟩
  refine ⟨PySem.W.fnOf "law" "law" (defArgs sLaw) (defBody sLaw) (defScope sLaw) .none kV27 dc27 pm27 an27 cd27 ct27, fun s v => .of_eq rfl, fun base _ _ => ?_⟩
  have OW := own_Wrong (P := l.prog) (w := w) (base := base) FEW iW.ox nW (PySem.W.mg_of X G eW) iW.fi iW.tI
  have ON := own_NoName (P := l.prog) (w := w) (base := base) FEN iN.ox nN (PySem.W.mg_of X G eN) iN.fi iN.tI
  have G0 := ok_isint (P := l.prog) (w := w) (base := base) tF F0 (PySem.W.mg_none_of X G z3) (PySem.W.mg_none_of X G z1) (PySem.W.mg_none_of X G z4)
  have G1 := ok_isname (P := l.prog) (w := w) (base := base) tF F1 (PySem.W.mg_none_of X G z3) (PySem.W.mg_none_of X G z5) (PySem.W.mg_none_of X G z2) (PySem.W.mg_none_of X G z6) (PySem.W.mg_of X G cL) (PySem.W.mg_of X G cN)
  have G2 := ok_issource (P := l.prog) (w := w) (base := base) tF F2 G1 b1 (PySem.W.mg_of X G a1) k1 (PySem.W.mg_none_of X G z3) (PySem.W.mg_none_of X G z5) (PySem.W.mg_none_of X G z2)
  have G4 := ok_chk (P := l.prog) (w := w) (base := base) F4 (PySem.W.mg_none_of X G z12)
  have G3 := ok_isrow (P := l.prog) (w := w) (base := base) tF F3 (PySem.W.mg_none_of X G z3) (PySem.W.mg_none_of X G z9) (PySem.W.mg_none_of X G z10)
  have G5 := ok_arenames (P := l.prog) (w := w) (base := base) F5 G3 b3 (PySem.W.mg_of X G a3) k3 G1 b1 (PySem.W.mg_of X G a1) k1 (PySem.W.mg_none_of X G z6) (PySem.W.mg_none_of X G z2)
  have G7 := ok_isfact (P := l.prog) (w := w) (base := base) tF F7 G2 b2 (PySem.W.mg_of X G a2) k2 G0 b0 (PySem.W.mg_of X G a0) k0 (PySem.W.mg_none_of X G z3) (PySem.W.mg_none_of X G z10) (PySem.W.mg_none_of X G z2)
  have G6 := ok_arefacts (P := l.prog) (w := w) (base := base) F6 G3 b3 (PySem.W.mg_of X G a3) k3 G7 b7 (PySem.W.mg_of X G a7) k7 (PySem.W.mg_none_of X G z6)
  have G8 := ok_chks (P := l.prog) (w := w) (base := base) (mg := mg) F8
  have G9 := ok_tight (P := l.prog) (w := w) (base := base) (mg := mg) F9
  have G10 := ok_closed (P := l.prog) (w := w) (base := base) F10 G9 b9 (PySem.W.mg_of X G a9) k9 (PySem.W.mg_none_of X G z11)
  have G11 := ok_lowest (P := l.prog) (w := w) (base := base) F11 (PySem.W.mg_none_of X G z14)
  have GIN := ok_ini (P := l.prog) (w := w) (base := base) FI tG G4 b4 (PySem.W.mg_of X G a4) k4 G5 b5 (PySem.W.mg_of X G a5) k5 G6 b6 (PySem.W.mg_of X G a6) k6 G8 b8 (PySem.W.mg_of X G a8) k8 G10 b10 (PySem.W.mg_of X G a10) k10 (PySem.W.mg_none_of X G z11)
  have GRn := no_isrow (P := l.prog) (w := w) (base := base) F3 (PySem.W.mg_none_of X G z3) (PySem.W.mg_none_of X G z9) (PySem.W.mg_none_of X G z10)
  have GNn := orN G5 (no_arenames (P := l.prog) (w := w) (base := base) F5 GRn b3 (PySem.W.mg_of X G a3) k3 G1 b1 (PySem.W.mg_of X G a1) k1 (PySem.W.mg_none_of X G z6) (PySem.W.mg_none_of X G z2))
  have GFn := orN G6 (no_arefacts (P := l.prog) (w := w) (base := base) F6 GRn b3 (PySem.W.mg_of X G a3) k3 G7 b7 (PySem.W.mg_of X G a7) k7 (PySem.W.mg_none_of X G z6))
  have GCA := ok_chkA (P := l.prog) (w := w) (base := base) F4 OW (PySem.W.mg_none_of X G z12)
  have GSR := ok_chksR (P := l.prog) (w := w) (base := base) F8 ON
  have GTA := ok_tightA (P := l.prog) (w := w) (base := base) F9 OS
  have GDA := ok_closedA (P := l.prog) (w := w) (base := base) F10 GTA b9 (PySem.W.mg_of X G a9) k9 (PySem.W.mg_none_of X G z11)
  have GMD := ok_made (P := l.prog) (w := w) (base := base) FI tG GCA b4 (PySem.W.mg_of X G a4) k4 GNn b5 (PySem.W.mg_of X G a5) k5 GFn b6 (PySem.W.mg_of X G a6) k6 GSR b8 (PySem.W.mg_of X G a8) k8 GDA b10 (PySem.W.mg_of X G a10) k10 (PySem.W.mg_none_of X G z11)
  have GRT := ok_isrowT (P := l.prog) (w := w) (base := base) F3 (PySem.W.mg_none_of X G z3) (PySem.W.mg_none_of X G z9) (PySem.W.mg_none_of X G z10)
  have GA0 := ok_arefacts0 (P := l.prog) (w := w) (base := base) F6 GRT b3 (PySem.W.mg_of X G a3) k3 (PySem.W.mg_none_of X G z6)
  have GS0 := ok_chks0 (P := l.prog) (w := w) (base := base) (mg := mg) F8
  have GT0 := ok_tight0 (P := l.prog) (w := w) (base := base) (mg := mg) F9
  have GC0 := ok_closed0 (P := l.prog) (w := w) (base := base) F10 GT0 b9 (PySem.W.mg_of X G a9) k9 (PySem.W.mg_none_of X G z11)
  have GIN0 := ok_ini0 (P := l.prog) (w := w) (base := base) FI tG G4 b4 (PySem.W.mg_of X G a4) k4 G5 b5 (PySem.W.mg_of X G a5) k5 GA0 b6 (PySem.W.mg_of X G a6) k6 GS0 b8 (PySem.W.mg_of X G a8) k8 GC0 b10 (PySem.W.mg_of X G a10) k10 (PySem.W.mg_none_of X G z11)
  have MC := ok_checkm (P := l.prog) (w := w) (base := base) tG mF7 G8 b8 (PySem.W.mg_of X G a8) k8
  have MG := ok_greatest (P := l.prog) (w := w) (base := base) (mg := mg) tG mF0 mM7 MC mb7
  have GSA := ok_chksA (P := l.prog) (w := w) (base := base) F8 ON
  have MCA := ok_checkmA (P := l.prog) (w := w) (base := base) tG mF7 GSA b8 (PySem.W.mg_of X G a8) k8
  have MGA := ok_greatestA (P := l.prog) (w := w) (base := base) (mg := mg) tG mF0 mM7 MCA mb7
  have MN := ok_namesm (P := l.prog) (w := w) (base := base) (mg := mg) tG mF6 (PySem.W.mg_none_of X G z9)
  have MN0 := ok_nm0 (P := l.prog) (w := w) (base := base) (mg := mg) tG mF6 (PySem.W.mg_none_of X G z9)
  have MB := ok_bounds (P := l.prog) (w := w) (base := base) (mg := mg) tG mF1 (PySem.W.mg_none_of X G z11)
  have MKp := ok_keeps (P := l.prog) (w := w) (base := base) tG mF2 G0 b0 (PySem.W.mg_of X G a0) k0 (PySem.W.mg_none_of X G z3) (PySem.W.mg_none_of X G z13) (PySem.W.mg_none_of X G z2) (PySem.W.mg_none_of X G z6)
  have MS := ok_startw (P := l.prog) (w := w) (base := base) tG mF3 mM0 MG mb0 mM1 MB mb1 G10 b10 (PySem.W.mg_of X G a10) k10 G11 b11 (PySem.W.mg_of X G a11) k11
  have MSA := ok_startA (P := l.prog) (w := w) (base := base) (mg := mg) tG mF3 mM0 MGA mb0
  have MWA := ok_withA (P := l.prog) (w := w) (base := base) (mg := mg) tG mF4 mM7 MCA mb7
  have MWB := ok_withB (P := l.prog) (w := w) (base := base) tG mF4 mM7 MC mb7 mM1 MB mb1 mk GMD bI (PySem.W.mg_of X G eF)
  have MW := ok_withF MWA MWB
  have MA := ok_andm (P := l.prog) (w := w) (base := base) tG OU mF5 mM6 MN0 mb6 mM1 MB mb1 mk GMD bI (PySem.W.mg_of X G eF)
  have G12 := ok_bag (P := l.prog) (w := w) (base := base) F12 (PySem.W.mg_none_of X G z0)
  have G13 := ok_take (P := l.prog) (w := w) (base := base) F13 (PySem.W.mg_none_of X G z1) (PySem.W.mg_none_of X G z2)
  have G14 := ok_alike (P := l.prog) (w := w) (base := base) F14 (PySem.W.mg_none_of X G z8)
  have G15 := ok_mixed (P := l.prog) (w := w) (base := base) F15 G13 b13 (PySem.W.mg_of X G a13) k13 (PySem.W.mg_none_of X G z2)
  have G16 := ok_names (P := l.prog) (w := w) (base := base) F16 G13 b13 (PySem.W.mg_of X G a13) k13 (PySem.W.mg_none_of X G z7) (PySem.W.mg_none_of X G z2) (PySem.W.mg_none_of X G z1)
  have G17 := ok_number (P := l.prog) (w := w) (base := base) F17 G13 b13 (PySem.W.mg_of X G a13) k13 (PySem.W.mg_none_of X G z1)
  have G18 := ok_lfacts (P := l.prog) (w := w) (base := base) F18 G13 b13 (PySem.W.mg_of X G a13) k13 G17 b17 (PySem.W.mg_of X G a17) k17 (PySem.W.mg_none_of X G z7) (PySem.W.mg_none_of X G z2) (PySem.W.mg_none_of X G z9)
  have G19 := ok_lclosed (P := l.prog) (w := w) (base := base) F19 (PySem.W.mg_none_of X G z7) (PySem.W.mg_none_of X G z2) (PySem.W.mg_none_of X G z9)
  have G20 := ok_lkeeps (P := l.prog) (w := w) (base := base) F20 (PySem.W.mg_none_of X G z3) (PySem.W.mg_none_of X G z13) (PySem.W.mg_none_of X G z9) (PySem.W.mg_none_of X G z11) (PySem.W.mg_none_of X G z1) (PySem.W.mg_none_of X G z4)
  have G21 := ok_startr (P := l.prog) (w := w) (base := base) tG F21 G19 b19 (PySem.W.mg_of X G a19) k19 mM3 MS mb3 G20 b20 (PySem.W.mg_of X G a20) k20 (PySem.W.mg_none_of X G z11) (PySem.W.mg_none_of X G z13)
  have G22 := ok_lbounds (P := l.prog) (w := w) (base := base) F22 G19 b19 (PySem.W.mg_of X G a19) k19 (PySem.W.mg_none_of X G z11)
  have G23 := ok_more (P := l.prog) (w := w) (base := base) F23 tG E4 mM4 MW mb4 sfC anF hf2 MA mb5 (PySem.W.mg_none_of X G z3)
  have G24 := ok_morer (P := l.prog) (w := w) (base := base) F24 tG tF G22 b22 (PySem.W.mg_of X G a22) k22 G13 b13 (PySem.W.mg_of X G a13) k13 G14 b14 (PySem.W.mg_of X G a14) k14 G21 b21 (PySem.W.mg_of X G a21) k21 G17 b17 (PySem.W.mg_of X G a17) k17 G20 b20 (PySem.W.mg_of X G a20) k20 mM6 MN mb6 mM1 MB mb1 mM3 MS mb3 mM2 MKp mb2 (PySem.W.mg_of X G eF) (PySem.W.mg_none_of X G z11) (PySem.W.mg_none_of X G z2) (PySem.W.mg_none_of X G z3)
  have G25 := ok_doors (P := l.prog) (w := w) (base := base) F25 tG CC G23 b23 (PySem.W.mg_of X G a23) k23 mM3 MSA mb3
  have G26 := ok_unlike (P := l.prog) (w := w) (base := base) F26 G23 b23 (PySem.W.mg_of X G a23) k23 mk GIN bI GIN0 bI0 (PySem.W.mg_of X G eF) lk ct ht
  exact ok_law F27 tG G12 b12 (PySem.W.mg_of X G a12) k12 G13 b13 (PySem.W.mg_of X G a13) k13 G16 b16 (PySem.W.mg_of X G a16) k16 G18 b18 (PySem.W.mg_of X G a18) k18 G15 b15 (PySem.W.mg_of X G a15) k15 G19 b19 (PySem.W.mg_of X G a19) k19 G17 b17 (PySem.W.mg_of X G a17) k17 G21 b21 (PySem.W.mg_of X G a21) k21 G23 b23 (PySem.W.mg_of X G a23) k23 G24 b24 (PySem.W.mg_of X G a24) k24 G22 b22 (PySem.W.mg_of X G a22) k22 G14 b14 (PySem.W.mg_of X G a14) k14 G25 b25 (PySem.W.mg_of X G a25) k25 G26 b26 (PySem.W.mg_of X G a26) k26 mk GIN bI (PySem.W.mg_of X G eF) mM1 MB mb1 sfC anF hf2 MA mb5 (PySem.W.mg_none_of X G z11) (PySem.W.mg_none_of X G z2) (PySem.W.mg_none_of X G z7)
end Fv


set_option Elab.async false
open PySem PySem.W PyProof.Rows
set_option maxRecDepth 100000 in
set_option maxHeartbeats 0 in
theorem PySem.Challenge.cw_farapart_k15_whole_starts_found_holds : PySem.Challenge.rw_farapart_k15_whole_starts_found.Holds := by
  w_on; o_law; k_head; (case hw => w_witness2)
  k_fill
  refine Fv.walk_G (l := PySem.Challenge.rw_farapart_k15_whole_starts_found) (n := 63) (k := 10) (x := "_law_script") (sp := Fv.spLaw) rfl (by decide) rfl ⟨rfl, by decide, by decide⟩ (fun w h Y => PySem.W.kIn_of Y) ?F (fun K H a ns hl _ hS => ⟨a, ns, rfl, hS, hl, fun _ => rfl⟩)
  case F =>
    intro w mg fa h KX G hmg
    refine' Fv.all_mk KX G hmg ?eF ?tC ?tM ?tH ?hn ?hk ?y0 ?y1 ?mk ?li ?ci ?ki ?lT ?dT ?lk ?ct ?de ?sfC ?anF ?hf2 ?mM0 ?mM1 ?mM2 ?mM3 ?mM4 ?mM6 ?mM7 ?ml0 ?mc0 ?mk0 ?ml1 ?mc1 ?mk1 ?ml2 ?mc2 ?mk2 ?ml3 ?mc3 ?mk3 ?ml4 ?mc4 ?mk4 ?ml5 ?mc5 ?mk5 ?ml6 ?mc6 ?mk6 ?ml7 ?mc7 ?mk7 ?eA ?eW ?eN ?eS ?eU ?aeM ?aeT ?xW ?nW ?mW ?iW ?xN ?nN ?mN ?iN ?nb ?ni ?ns ?xS ?mS ?sx ?sk ?sb ?st ?xU ?mU ?ux ?uk ?ub ?ut ?dUN ?dSN ?dSU ?dAN ?dAU ?cL ?cN ?a0 ?l0 ?c0 ?k0 ?a1 ?l1 ?c1 ?k1 ?a2 ?l2 ?c2 ?k2 ?a3 ?l3 ?c3 ?k3 ?a4 ?l4 ?c4 ?k4 ?a5 ?l5 ?c5 ?k5 ?a6 ?l6 ?c6 ?k6 ?a7 ?l7 ?c7 ?k7 ?a8 ?l8 ?c8 ?k8 ?a9 ?l9 ?c9 ?k9 ?a10 ?l10 ?c10 ?k10 ?a11 ?l11 ?c11 ?k11 ?a12 ?l12 ?c12 ?k12 ?a13 ?l13 ?c13 ?k13 ?a14 ?l14 ?c14 ?k14 ?a15 ?l15 ?c15 ?k15 ?a16 ?l16 ?c16 ?k16 ?a17 ?l17 ?c17 ?k17 ?a18 ?l18 ?c18 ?k18 ?a19 ?l19 ?c19 ?k19 ?a20 ?l20 ?c20 ?k20 ?a21 ?l21 ?c21 ?k21 ?a22 ?l22 ?c22 ?k22 ?a23 ?l23 ?c23 ?k23 ?a24 ?l24 ?c24 ?k24 ?a25 ?l25 ?c25 ?k25 ?a26 ?l26 ?c26 ?k26 ?a27 ?l27 ?c27 ?k27 ?z0 ?z1 ?z2 ?z3 ?z4 ?z5 ?z6 ?z7 ?z8 ?z9 ?z10 ?z11 ?z12 ?z13 ?z14
    (case eF => k_is)
    (case tC => exact ⟨by k_is, by k_is, by k_is, by k_is⟩)
    (case tM => exact ⟨_, by k_is, by rfl⟩)
    (case tH => k_is)
    (case hn => k_is)
    (case hk => k_is)
    (case y0 => k_is)
    (case y1 => k_is)
    (case mk => exact ⟨by k_is, by k_is, by k_is, by k_is⟩)
    (case li => k_is)
    (case ci => k_is)
    (case ki => k_is)
    (case lT => k_is)
    (case dT => exact ⟨_, rfl⟩)
    (case lk => k_is)
    (case ct => rfl)
    (case de => exact ⟨_, rfl⟩)
    (case sfC => k_is)
    (case anF => k_is)
    (case hf2 => k_is)
    (case mM0 => exact ⟨by k_is, by k_is, by k_is⟩)
    (case mM1 => exact ⟨by k_is, by k_is, by k_is⟩)
    (case mM2 => exact ⟨by k_is, by k_is, by k_is⟩)
    (case mM3 => exact ⟨by k_is, by k_is, by k_is⟩)
    (case mM4 => exact ⟨by k_is, by k_is, by k_is⟩)
    (case mM6 => exact ⟨by k_is, by k_is, by k_is⟩)
    (case mM7 => exact ⟨by k_is, by k_is, by k_is⟩)
    (case ml0 => k_is)
    (case mc0 => k_is)
    (case mk0 => k_is)
    (case ml1 => k_is)
    (case mc1 => k_is)
    (case mk1 => k_is)
    (case ml2 => k_is)
    (case mc2 => k_is)
    (case mk2 => k_is)
    (case ml3 => k_is)
    (case mc3 => k_is)
    (case mk3 => k_is)
    (case ml4 => k_is)
    (case mc4 => k_is)
    (case mk4 => k_is)
    (case ml5 => k_is)
    (case mc5 => k_is)
    (case mk5 => k_is)
    (case ml6 => k_is)
    (case mc6 => k_is)
    (case mk6 => k_is)
    (case ml7 => k_is)
    (case mc7 => k_is)
    (case mk7 => k_is)
    (case eA => k_is)
    (case eW => k_is)
    (case eN => k_is)
    (case eS => k_is)
    (case eU => k_is)
    (case aeM => exact ⟨_, by k_is, by rfl⟩)
    (case aeT => k_is)
    (case xW => exact ⟨by k_is, by k_is, by k_is, by k_is, by k_is, by k_is, by k_is, by k_is⟩)
    (case nW => k_is)
    (case mW => exact ⟨_, by k_is, by rfl⟩)
    (case iW => exact ⟨⟨⟨_, _, _, _, _, _, _, _, _, _, _, _, _, _, _, by k_is, by decide +kernel⟩, by k_is, by k_is, by k_is, by k_is⟩, by k_is, by k_is, ⟨_, L2.fun_mk (by k_is) (by k_is) (by k_is)⟩⟩)
    (case xN => exact ⟨by k_is, by k_is, by k_is, by k_is, by k_is, by k_is, by k_is, by k_is⟩)
    (case nN => k_is)
    (case mN => exact ⟨_, by k_is, by rfl⟩)
    (case iN => exact ⟨⟨⟨_, _, _, _, _, _, _, _, _, _, _, _, _, _, _, by k_is, by decide +kernel⟩, by k_is, by k_is, by k_is, by k_is⟩, by k_is, by k_is, ⟨_, L2.fun_mk (by k_is) (by k_is) (by k_is)⟩⟩)
    (case nb => k_is)
    (case ni => k_is)
    (case ns => k_is)
    (case xS => exact ⟨by k_is, by k_is, by k_is, by k_is, by k_is, by k_is, by k_is, by k_is⟩)
    (case mS => exact ⟨_, by k_is, by rfl⟩)
    (case sx => k_exc)
    (case sk => k_is)
    (case sb => k_is)
    (case st => k_is)
    (case xU => exact ⟨by k_is, by k_is, by k_is, by k_is, by k_is, by k_is, by k_is, by k_is⟩)
    (case mU => exact ⟨_, by k_is, by rfl⟩)
    (case ux => k_exc)
    (case uk => k_is)
    (case ub => k_is)
    (case ut => k_is)
    (case dUN => decide)
    (case dSN => decide)
    (case dSU => decide)
    (case dAN => decide)
    (case dAU => decide)
    (case cL => k_is)
    (case cN => k_is)
    (case a0 => k_is)
    (case l0 => k_is)
    (case c0 => k_is)
    (case k0 => k_is)
    (case a1 => k_is)
    (case l1 => k_is)
    (case c1 => k_is)
    (case k1 => k_is)
    (case a2 => k_is)
    (case l2 => k_is)
    (case c2 => k_is)
    (case k2 => k_is)
    (case a3 => k_is)
    (case l3 => k_is)
    (case c3 => k_is)
    (case k3 => k_is)
    (case a4 => k_is)
    (case l4 => k_is)
    (case c4 => k_is)
    (case k4 => k_is)
    (case a5 => k_is)
    (case l5 => k_is)
    (case c5 => k_is)
    (case k5 => k_is)
    (case a6 => k_is)
    (case l6 => k_is)
    (case c6 => k_is)
    (case k6 => k_is)
    (case a7 => k_is)
    (case l7 => k_is)
    (case c7 => k_is)
    (case k7 => k_is)
    (case a8 => k_is)
    (case l8 => k_is)
    (case c8 => k_is)
    (case k8 => k_is)
    (case a9 => k_is)
    (case l9 => k_is)
    (case c9 => k_is)
    (case k9 => k_is)
    (case a10 => k_is)
    (case l10 => k_is)
    (case c10 => k_is)
    (case k10 => k_is)
    (case a11 => k_is)
    (case l11 => k_is)
    (case c11 => k_is)
    (case k11 => k_is)
    (case a12 => k_is)
    (case l12 => k_is)
    (case c12 => k_is)
    (case k12 => k_is)
    (case a13 => k_is)
    (case l13 => k_is)
    (case c13 => k_is)
    (case k13 => k_is)
    (case a14 => k_is)
    (case l14 => k_is)
    (case c14 => k_is)
    (case k14 => k_is)
    (case a15 => k_is)
    (case l15 => k_is)
    (case c15 => k_is)
    (case k15 => k_is)
    (case a16 => k_is)
    (case l16 => k_is)
    (case c16 => k_is)
    (case k16 => k_is)
    (case a17 => k_is)
    (case l17 => k_is)
    (case c17 => k_is)
    (case k17 => k_is)
    (case a18 => k_is)
    (case l18 => k_is)
    (case c18 => k_is)
    (case k18 => k_is)
    (case a19 => k_is)
    (case l19 => k_is)
    (case c19 => k_is)
    (case k19 => k_is)
    (case a20 => k_is)
    (case l20 => k_is)
    (case c20 => k_is)
    (case k20 => k_is)
    (case a21 => k_is)
    (case l21 => k_is)
    (case c21 => k_is)
    (case k21 => k_is)
    (case a22 => k_is)
    (case l22 => k_is)
    (case c22 => k_is)
    (case k22 => k_is)
    (case a23 => k_is)
    (case l23 => k_is)
    (case c23 => k_is)
    (case k23 => k_is)
    (case a24 => k_is)
    (case l24 => k_is)
    (case c24 => k_is)
    (case k24 => k_is)
    (case a25 => k_is)
    (case l25 => k_is)
    (case c25 => k_is)
    (case k25 => k_is)
    (case a26 => k_is)
    (case l26 => k_is)
    (case c26 => k_is)
    (case k26 => k_is)
    (case a27 => k_is)
    (case l27 => k_is)
    (case c27 => k_is)
    (case k27 => k_is)
    (case z0 => k_is)
    (case z1 => k_is)
    (case z2 => k_is)
    (case z3 => k_is)
    (case z4 => k_is)
    (case z5 => k_is)
    (case z6 => k_is)
    (case z7 => k_is)
    (case z8 => k_is)
    (case z9 => k_is)
    (case z10 => k_is)
    (case z11 => k_is)
    (case z12 => k_is)
    (case z13 => k_is)
    (case z14 => k_is)

