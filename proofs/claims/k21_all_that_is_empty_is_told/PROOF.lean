import PyProof.Rows.All
import Wide.All
import Wide.FinOn
import PyProof.EqAt
import PyProof.EqKinds
import PyProof.TupleCall
import PyProof.NeKinds
import PySem.Challenge.RW_lendrule_k21_all_that_is_empty_is_told
import KE.KLam
import KE.KNestM
import KE.KSortedM
import KE.KFromBytes
import KE.KIsAll
import KE.KDictOf
import KE.KDictSum
import KE.KStateDown
set_option maxHeartbeats 0
set_option Elab.async false
set_option linter.all false
set_option maxRecDepth 100000
noncomputable section
section
open PySem PySem.Spec PyProof.Rows
def Jf:=@List.findIdx?_eq_some_iff_getElem
def nI:=@PyProof.Rows.slot_tuple_getitem
def Jg:=@PyProof.Rows.callWith_builtin1
def lJ:=@List.eq_nil_of_length_eq_zero
def Jh:=@F.args_tuple_iterator_next_1
def Ji:=@PySem.F.slot_dict_setdefault
def Jj:=@F.entry_tuple_iterator_next
def jX:=@PyProof.Rows.callWith_type1
def wc:=@F.slot_tuple_iterator_next
def Jk:=@Calls.Name_function_global
def qP:=@Array.perm_iff_toList_perm
def Jl:=@wpAny_newFunctionEnv_cells
def we:=@List.getElem?_append_right
def qQ:=@List.drop_eq_getElem_cons
def qR:=@Array.getElem?_eq_getElem
def cf:=@List.getElem?_eq_some_iff
def lK:=@List.getElem?_eq_none_iff
def B0:=@Calls.call_function_entry
def B2:=@F.slot_tuple_getattribute
def iA:=@List.getElem?_append_left
def jY:=@AutoSeq1.wpAny_loadPart'
def cO:=@List.getElem?_eq_getElem
def B3:=@PySem.F.args_tuple_add_2
def jZ:=@wpAny_callSpecial?_slot
def wj:=@PySem.F.plainAttrs_list
def B4:=@PySem.F.entry_tuple_add
def qS:=@Option.bind_eq_some_iff
def B5:=@F.plain_set_update_loop
def B6:=@decide_eq_false_iff_not
def wm:=@Heap.get?_update_other
def nJ:=@List.getElem?_set_self
def nK:=@List.take_of_length_le
def B7:=@Nat.le_add_right_of_le
def nL:=@Option.map_eq_some_iff
def B8:=@PySem.F.slot_tuple_add
def aZ:=@Heap.get?_push_of_some
def qT:=@Heap.get?_update_self
def B9:=@builtinLookup_eq_fast
def dD:=@List.mem_append_right
def j0:=@List.getElem?_eq_none
def nM:=@List.mem_iff_getElem?
def Cc:=@Obj.isFreed_of_fields
def wq:=@List.perm_append_comm
def lL:=@Array.getElem?_toList
def Cd:=@List.take_append_drop
def dN:=@List.mem_of_getElem?
def fK:=@Bool.and_eq_true_iff
def aK:=@List.mem_cons_of_mem
def wt:=@List.mem_iff_getElem
def qU:=@List.pairwise_append
def qV:=@Around.under_plainId
def j4:=@List.getElem?_set_ne
def nN:=@Array.toList_extract
def iB:=@List.mem_append_left
def jm:=@Array.toList_append
def c6:=@Array.length_toList
def eH:=@PySem.mem_of_lookup
def jn:=@beq_eq_false_iff_ne
def wu:=@List.filterMap_cons
def cB:=@Heap.get?_push_size
def lM:=@Int.toNat_of_nonneg
def nQ:=@Heap.SameBut.update
def qW:=@List.getElem?_range
def qX:=@List.mem_filterMap
def iC:=@Nat.lt_of_le_of_lt
def aN:=@List.mem_cons_self
def Cf:=@wpAny_pyIter_tuple
def wx:=@Array.size_extract
def qY:=@Bool.false_eq_true
def wz:=@Nat.pos_of_ne_zero
def nR:=@Obj.data_mapFields
def bY:=@Nat.lt_of_lt_of_le
def j5:=@wpAny_Call_Name_kw
def bC:=@List.mem_singleton
def Cg:=@List.Pairwise.drop
def qZ:=@Nat.lt_of_le_of_ne
def d9:=@Bool.false_ne_true
def wA:=@Int.emod_lt_of_pos
def wB:=@List.pairwise_cons
def bu:=@List.length_append
def wC:=@tupleKind_room_in1
def j6:=@decide_eq_true_eq
def iD:=@List.flatMap_cons
def iE:=@wpAny_newObj_type
def Ci:=@List.take_add_one
def Cj:=@Option.isSome_map
def Ck:=@Obj.cls_mapFields
def cg:=@List.append_assoc
def wD:=@Bool.not_eq_true'
def j7:=@wpAny_setState_of
def lN:=@wpAny_truthy_bool
def eJ:=@of_decide_eq_true
def jo:=@List.length_range
def wF:=@List.reverse_cons
def wG:=@Array.toList_push
def lO:=@List.map_inj_left
def Cn:=@wpAny_pyIter_list
def bR:=@List.getElem?_map
def q8:=@List.nodup_append
def wH:=@Nat.lt_succ_of_lt
def Co:=@List.reverse_perm
def gg:=@Int.toNat_natCast
def e9:=@List.size_toArray
def wI:=@List.length_drop
def Cp:=@Option.getD_none
def Cq:=@wpAny_askSetting
def nU:=@beq_self_eq_true
def Cr:=@Nat.max_eq_right
def j8:=@List.lookup_cons
def nV:=@Nat.le_of_not_lt
def aO:=@Bool.and_eq_true
def wJ:=@List.isEmpty_iff
def Ct:=@Nat.lt_of_not_le
def dO:=@Option.bind_some
def wK:=@List.mem_reverse
def Cu:=@wpAny_isInstance
def eK:=@List.not_mem_nil
def wL:=@Around.in1_units
def aW:=@List.length_cons
def gW:=@List.all_eq_true
def fg:=@List.mem_flatMap
def q9:=@Nat.lt_succ_self
def rf:=@List.drop_length
def gX:=@wpAny_call_entry
def Cv:=@noFill_tuple_add
def fL:=@Nat.le_add_right
def jq:=@List.length_take
def bZ:=@List.mem_append
def ak:=@List.length_map
def iG:=@List.nodup_cons
def iH:=@Option.map_some
def Cw:=@List.cons.injEq
def wM:=@wpAny_execs_nil
def lP:=@wpAny_passesOwn
def cD:=@List.mem_filter
def lQ:=@Int.emod_nonneg
def Cy:=@wpAny_ite_split
def cG:=@List.map_append
def Cz:=@typeLookup_type
def rh:=@List.length_set
def wN:=@List.of_mem_zip
def j9:=@decide_eq_false
def CB:=@Bool.or_eq_true
def CD:=@Nat.not_lt_zero
def fj:=@List.nil_append
def cH:=@Option.some.inj
def nW:=@codeAny_builtin
def fq:=@List.append_nil
def rj:=@List.find?_cons
def wO:=@List.length_nil
def wQ:=@List.foldl_cons
def ee:=@List.mem_range
def nY:=@Heap.size_push
def rm:=@wpAny_setField
def nZ:=@List.nodup_nil
def dE:=@decide_eq_true
def wR:=@Bool.and_true
def rn:=@Prod.mk.injEq
def n6:=@Paired.length
def wU:=@wpAny_attempt
def wV:=@plainId_quiet
def aM:=@List.map_cons
def eP:=@wpAny_holding
def gY:=@List.all_cons
def gE:=@Nat.lt_irrefl
def jr:=@List.any_cons
def aU:=@List.mem_cons
def b6:=@List.map_map
def da:=@Int.le_trans
def oe:=@Int.zero_add
def ka:=@codeAny_mono
def og:=@List.map_nil
def oh:=@Nat.lt_trans
def gF:=@Nat.le_of_eq
def fu:=@Nat.zero_add
def bE:=@Nat.le_trans
def iI:=@Int.le_of_eq
def dP:=@Nat.le_of_lt
def rp:=@Nat.add_zero
def kc:=@Int.le_of_lt
def dQ:=@wpS_forRange
def aV:=@Heap.lt_size
def oi:=@wpAny_typeOf
def aF:=@List.mem_map
def bG:=@Nat.ne_of_lt
def rA:=@Nat.ne_of_gt
def rD:=@Nat.le_succ
def wW:=@sizeLine_eq
def dF:=@Nat.zero_le
def oj:=@Int.le_refl
def kf:=@wpAny_field
def ao:=@Nat.le_refl
def aj:=@wpAny_pure
def gh:=@wpS_modify
def lR:=@call_meets
def af:=@wpAny_bind
def gi:=@wpAny_rule
def rE:=@wpAny_call
def js:=@wpAny_mono
def bh:=@beq_iff_eq
def bj:=@eq_of_beq
def kh:=@wpS_lift
def ej:=@congrArg
def ai:=@wpS_bind
def jt:=@if_false
def aw:=@wpS_pure
def eQ:=@or_false
def dR:=@wpS_mono
def eS:=@wpS_get
def dn:=@Ne.symm
def iJ:=@if_true
end
namespace PSh
end PSh
section
namespace L2
open PySem PySem.Spec PyProof.Rows
abbrev bB:=Sum Int Str
inductive V where
 | bQ | bl (b:Bool) | int (i:Int) | str (x:Str) | WI (b:Array UInt8) | flt (b:UInt64) | ref (a:Addr) | ty (n:String)
 deriving DecidableEq
def RelV:V->Value->Prop
 | .bQ,u=>u=Value.none
 | .bl b,u=>u=Value.bool b
 | .int i,u=>∃t,u=Value.int i t
 | .str x,u=>∃t,u=Value.str x t
 | .WI b,u=>∃t,u=Value.bytes b t
 | .flt b,u=>∃t,u=Value.float b t
 | .ref a,u=>u=Value.ref a
 | .ty n,u=>u=Value.type n
abbrev Vals:List V->List Value->Prop:=Paired RelV
noncomputable def kV:bB->V
 | .inl i=>.int i
 | .inr x=>.str x
inductive HO where
 /-- a list -/
 | lst (xs:List V)
 /-- a tuple (never aaF) -/
 | ay (xs:List V)
 /-- a dict QH keys are ints and Xc;one QH keys are tuples of ints and Xc (QI empty one is af5) -/
 | dK (kvs:List (bB×V)) | dT (xs:List (List bB×Addr×Value))
 /-- a set of ints: aH aaG,aH size -/
 | set (S:Int->Bool) (n:Nat)
 /-- an instance of QI class at C,aH dict at dx,aH Sq -/
 | oX (C dx:Addr) (fs:List (Str×V))
 /-- QI dict of QI instance at x -/
 | own (x:Addr)
 /-- QI dict of an WJ -/
 | xd (fs:List (Str×V))
 /-- a bound method,f of x -/
 | met (f x:Addr)
 /-- a range Jm lo,lo+1,.. below hi -/
 | rng (lo hi:Int)
 /-- a Xd af6 is aew to QI Jm (QI abK;a dict while a loop aex it): af7,never written while it is so -/
 | oY (o:Obj) (u:HO)
 /-- a code Xe table -/
 | CF (q:Str)
 /-- any other Xd,by what is true of aH one Jm (a def of aey own: af8 a S n:=HO.ext λh=>..) -/
 | ext (φ:Heap->Prop)
abbrev Hp:=Addr->Option HO
def Rd(H:Hp)(a:Addr)(u:HO):Prop:=H a=some u\/∃o,H a=some (.oY o u)
noncomputable def dq:List Str:=["arrivals","empties","needs","held"]
def ip(K:W.Frag)(H:Hp)(a:Addr)(xs:List V):Prop :=
 Rd H a (.ay xs) \/
  ∃(o:Obj) (aH:Array Value) (n:Nat),K.lookup a=some o/\o.cls=.type "tuple"/\o.data=.seq aH n/\aH.size<=sizeLine/\Vals xs aH.toList
def kJ(K:W.Frag)(H:Hp)(a:Addr)(xs:List V):Prop :=
 Rd H a (.lst xs)\/∃(aH:List Value) (n:Nat),K.lookup a=some {cls:=.type "list",data:=.seq aH.toArray n}/\aH.length<=sizeLine/\Vals xs aH
structure GL (K:W.Frag) (C:Addr):Prop where
 pg:W.plainGet K C Str.empty=true
 hd:W.hasDictIn K C=true
 po:W.plainOver K C=true
 sa:W.findIn K (.ref C) "__setattr__"=some (some (.builtin "object.__setattr__"))
def ju(K:W.Frag)(C:Addr)(f:Str):Prop:=W.findIn K (.ref C) f=some none
section
variable {X:Cx} {CX:IZ} {k:Nat} {f C:Addr} {fd:FuncData} {ps:List Str} {sp:Sp} {QJ:List V} {ds:List Value} {E:XK} {x m:Str} {p pos rF:Pos} {e o:Expr} {es:List Expr} {ta:TE} {t:TA}
structure Mk (K:W.Frag) (C f:Addr):Prop where
 makes:W.makesIn K C=true
 init:W.findIn K (.ref C) "__init__"=some (some (.ref f))
 fn:W.isFn K (.ref f)=true
 kp:W.keepIn K (.ref C)=true
end
structure dG (N P:List Str) (sc:Scope):Prop where
 kind:sc.kind=.function
 co:sc.isCoroutine=false
 gen:sc.isGenerator=false
 nd:N.Nodup
 pre:N.take P.length=P
 par:∀x∈P,sc.names.lookup x=some .local\/sc.names.lookup x=some .cell
 nofree:∀y∈sc.names,y.2≠.free
noncomputable def iq(s:Stmt):Arguments:=match s with
 | .FunctionDef _ a _ _ _ _ _ _ _ _=>a
 | _=>{posonlyargs:=[],args:=[],vararg:=none,kwonlyargs:=[],kw_defaults:=[],kwarg:=none,defaults:=[]}
def dk(s:Stmt):List Stmt:=match s with
 | .FunctionDef _ _ b _ _ _ _ _ _ _=>b
 | _=>[]
def au(s:Stmt):Scope:=match s with
 | .FunctionDef _ _ _ _ _ _ sc _ _ _=>sc
 | _=>{kind:=.function,names:=[],isGenerator:=false,isCoroutine:=false}
structure CG (K:W.Frag) (x qual:Str) (st:Stmt) (f:Addr) (fd:FuncData):Prop where
 ex:∃(oc:Value) (od:Option Addr) (kV doc pm:Value) (an:Option Addr) (cZ ct:Value) (yV:Array (Option Value)),
  fd=W.fnOf x qual (iq st) (dk st) (au st) .none kV doc pm an cZ ct/\K.lookup f=some ⟨oc,od,.func fd,yV⟩/\W.codeIn K cZ qual=true
 kp:W.keepIn K (.ref f)=true
section
variable {P:Program} {w:World} {K:W.Frag} {mg:Str->Option Value} {base:Heap}
def Jn{st:Stmt}{oc:Value}{od an:Option Addr}{yV:Array (Option Value)}{kV doc pm cZ ct:Value}(l:K.lookup f=some ⟨oc,od,.func (W.fnOf x qual (iq st) (dk st) (au st) .none kV doc pm an cZ ct),yV⟩)
  (c:W.codeIn K cZ qual=true) (k:W.keepIn K (.ref f)=true):CG K x qual st f (W.fnOf x qual (iq st) (dk st) (au st) .none kV doc pm an cZ ct):=⟨⟨oc,od,kV,doc,pm,an,cZ,ct,yV,rfl,l,c⟩,k⟩
end
section
variable {X:Cx} {ae:List (Addr×Obj)} {σ:St} {H:Hp} {s:Shared} {a b:Addr} {k:List bB} {v:V} {r:Value} {A:Around} {E:Value->Shared->Prop} {xs:List (List bB×Addr×Value)}
def gG(K:W.Frag)(H:Hp)(xs:List (List bB×Addr×Value)):Prop:=∀x∈xs,ip K H x.2.1 (x.1.map kV)
end
end L2
namespace L2.U
open PySem PySem.Spec PyProof.Rows
inductive Kd where
 | ay | lst | oX (C:Str) (ns:List Str) | gR (t:Bool) (ks:List (List bB))
inductive PV where
 | bQ | bl (b:Bool) | int (i:Int) | str (x:Str) | ref (n:Nat) | fn (x:Str) | nd (k:Kd) (ps:List PV)
noncomputable abbrev PV.ay (ps:List PV):PV:=.nd .ay ps
structure Fz where
 F:Hp
 μ:List Addr
def ClsAt(K:W.Frag)(C:Str)(cls:Value):Prop:=W.nsIn K mainGlobals C=some (some cls)
def kX(K:W.Frag)(F H:Hp)(a:Addr)(x:Bool):Kd->List V->Prop
 | .ay,vs=>x=false/\ip K H a vs
 | .lst,vs=>if x=true then H a=some (.lst vs)else kJ K H a vs
 | .oX C ns,vs=>∃Ca dx fs,ClsAt K C (.ref Ca)/\GL K Ca/\(∀f∈ns,ju K Ca f)/\H a=some (.oX Ca dx fs)/\fs.map (·.1)=ns/\fs.map (·.2)=vs
 | .gR false ks,vs=>∃kvs:List (bB×V),H a=some (.dK kvs)/\kvs.map (λy=>[y.1])=ks/\kvs.map (·.2)=vs
 | .gR true ks,vs=>∃xs,H a=some (.dT xs)/\gG K F xs/\xs.map (·.1)=ks/\Vals vs (xs.map (·.2.2))
mutual
def bN(K:W.Frag)(F:Fz):PV->V->Prop
 | .bQ,v=>v=.bQ
 | .bl b,v=>v=.bl b
 | .int i,v=>v=.int i
 | .str x,v=>v=.str x
 | .ref n,v=>∃a,F.μ[n]?=some a/\v=.ref a
 | .fn x,v=>∃a,v=.ref a/\W.nsIn K mainGlobals x=some (some (.ref a))
 | .nd k ps,v=>∃a vs,v=.ref a/\kX K F.F F.F a false k vs/\aE K F ps vs
def aE(K:W.Frag)(F:Fz):List PV->List V->Prop
 | [],vs=>vs=[]
 | p::ps,vs=>∃v r,vs=v::r/\bN K F p v/\aE K F ps r
end
section
variable {K:W.Frag} {F F':Fz}
def aE.nil:aE K F [] []:=by simp[aE]
def aE.cons(h:bN K F p v)(t:aE K F ps vs):aE K F (p::ps) (v::vs):=by
 simp only[aE];exact⟨v,vs,rfl,h,t⟩
def dH:bN K F .bQ v↔v=.bQ:=by simp only[bN]
def cj:bN K F (.bl b) v↔v=.bl b:=by simp only[bN]
def aG:bN K F (.int i) v↔v=.int i:=by simp only[bN]
def cP:bN K F (.str i) v↔v=.str i:=by simp only[bN]
def jv:bN K F (.nd k ps) v↔∃a vs,v=.ref a/\kX K F.F F.F a false k vs/\aE K F ps vs:=by simp only[bN]
def cR:bN K F (.ay ps) v↔∃a vs,v=.ref a/\ip K F.F a vs/\aE K F ps vs :=
 jv.trans ⟨(by rintro⟨a,vs,h1,h2,h3⟩;exact⟨a,vs,h1,h2.2,h3⟩),(by rintro⟨a,vs,h1,h2,h3⟩;exact⟨a,vs,h1,⟨rfl,h2⟩,h3⟩)⟩
end
structure Pg where
 defs:List (Str×Stmt)
 cons:List (Str×PV):=[]
 dA:List Str:=[]
 tabs:List (Str×List (Str×Str)):=[]
 cls:List (Str×Stmt):=[]
 flds:List Str:=[]
 om:List Str:=[]
 Xf:List (Str×List (Str×Nat)):=[]
def params(st:Stmt):List Str:=(iq st).args.map λa=>a.arg
def Xg:NameKind->Bool
 | .local=>true
 | .cell=>true
 | _=>false
def cu(st:Stmt):List Str:=params st++((au st).names.filter λy=>Xg y.2&&!(params st).contains y.1).map λy=>y.1
structure Jo (K:W.Frag) (x:Str) (st:Stmt):Prop where
 ex:∃f fd,W.nsIn K mainGlobals x=some (some (.ref f))/\CG K x x st f fd/\∀us:List Value,us.length=(params st).length->bindArgs fd ⟨us,[]⟩=pure ((params st).zip us)
 sc:dG (cu st) (params st) (au st)
def GN(K:W.Frag)(P:Params)(T:Str)(rows:List (Str×Str)):Prop :=
 ∃a es n,W.nsIn K mainGlobals T=some (some (.ref a))/\K.lookup a=some ⟨.type "dict",none,.dict es n,#[]⟩/\W.KeysLit P es.toList/\∀d∈rows,∃f,W.nsIn K a d.1=some (some (.ref f))/\W.nsIn K mainGlobals d.2=some (some (.ref f))
def abL{K:W.Frag}{P:Params}{T:Str}{rows:List (Str×Str)}{a:Addr}{es:Array DictEntry}{n:Nat}(h1:W.nsIn K mainGlobals T=some (some (.ref a)))(h2:K.lookup a=some ⟨.type "dict",none,.dict es n,#[]⟩)(h3:W.KeysLit P es.toList)
  (h4:∀d∈rows,∃f,W.nsIn K a d.1=some (some (.ref f))/\W.nsIn K mainGlobals d.2=some (some (.ref f))):GN K P T rows:=⟨a,es,n,h1,h2,h3,h4⟩
noncomputable def QK:PV->Value->Bool
 | .int i,.int j _=>i==j
 | .str x,.str y _=>x==y
 | .bl a,.bool b=>a==b
 | .bQ,.none=>true
 | _,_=>false
def wX:List PV->List Value->Bool
 | [],[]=>true
 | p::r,u::q=>QK p u&&wX r q
 | _,_=>false
def Sr{K:W.Frag}{p:PV}{u:Value}(h:QK p u=true):∃v,RelV v u/\∀F,bN K F p v:=by
 cases p<;>cases u<;>first | exact absurd h d9 | skip
 ·exact⟨.bQ,rfl,λF=>dH.mpr rfl⟩
 ·cases bj h;exact⟨.bl _,rfl,λF=>cj.mpr rfl⟩
 ·cases bj h;exact⟨.int _,⟨_,rfl⟩,λF=>aG.mpr rfl⟩
 ·cases bj h;exact⟨.str _,⟨_,rfl⟩,λF=>cP.mpr rfl⟩
def Nh{K:W.Frag}{ps:List PV}{us:List Value}(h:wX ps us=true):∃vs,Vals vs us/\∀F,aE K F ps vs:=by
 induction ps generalizing us with
 | nil=>cases us;exact⟨[],.nil,λ_=>.nil⟩;cases h
 | cons p r ih =>
  cases us with
  | nil=>cases h
  | cons u q =>
   have h:=fK.mp h;obtain⟨v,a,b⟩:=Sr (K:=K) h.1;obtain⟨vs,h1,h2⟩:=ih h.2;exact⟨v::vs,.cons a h1,λF=>.cons (b F) (h2 F)⟩
def Ni{K:W.Frag}{g:Addr}{x:Str}{a:Addr}{ps:List PV}{us:List Value}{n:Nat}{dd:Option Addr}{sl:Array (Option Value)}(h1:W.nsIn K g x=some (some (.ref a)))(h2:K.lookup a=some ⟨.type "tuple",dd,.seq us.toArray n,sl⟩)(h3:wX ps us=true)(h4:us.length<=100) :
  ∃u v,W.nsIn K g x=some (some u)/\RelV v u/\∀F,bN K F (.ay ps) v:=by
 obtain⟨vs,r,b⟩:=Nh h3;exact⟨_,.ref a,h1,rfl,λF=>cR.mpr ⟨a,vs,rfl,.inr ⟨_,us.toArray,n,h2,rfl,rfl,by rw[e9];exact bE h4 (by decide),by grind⟩,b F⟩⟩
def Nj{K:W.Frag}{g:Addr}{x:Str}{y:Str}{t:Tok}(a:W.nsIn K g x=some (some (.str y t))):∃u v,W.nsIn K g x=some (some u)/\RelV v u/\∀F,bN K F (.str y) v:=⟨_,.str y,a,⟨t,rfl⟩,λF=>cP.mpr rfl⟩
def Nk{K:W.Frag}{g:Addr}{x:Str}{i:Int}{t:Tok}(a:W.nsIn K g x=some (some (.int i t))):∃u v,W.nsIn K g x=some (some u)/\RelV v u/\∀F,bN K F (.int i) v:=⟨_,.int i,a,⟨t,rfl⟩,λF=>aG.mpr rfl⟩
def Ss(K:W.Frag)(C:Str)(st:Stmt)(flds:List Str):Prop:=∃Ca f fd,W.nsIn K mainGlobals C=some (some (.ref Ca))/\Mk K Ca f/\GL K Ca/\(∀g∈flds,ju K Ca g)/\CG K "__init__" (C++".__init__") st f fd/\(∀us:List Value,us.length=(params st).length->bindArgs fd ⟨us,[]⟩=pure ((params st).zip us))/\dG (cu st) (params st) (au st)
def Su(K:W.Frag)(x:Str):Prop:=x∈dq/\∃c T,W.tabIn K x=some (c,T)/\W.codeHdIn K c T=true
def Jp(K:W.Frag):Prop:=∃bm o,W.nsIn K mainGlobals "__builtins__"=some (some (.ref bm))/\bm≠builtinsNs/\bm≠mainGlobals/\K.lookup bm=some o/\o.cls=.type "module"/\o.dict=some builtinsNs/\o.data=.plain
structure mw (K:W.Frag) (h:Heap):Prop where
 at_:∀x∈dq,∀c T,W.tabIn K x=some (c,T)->W.codeHdIn K c T=true/\h.get? T=some {cls:=.none,data:=.fields #[]}/\K.lookup T=none
 nd:(dq.filterMap λx=>(W.tabIn K x).map (·.2)).Nodup
def mw.keeps{K:W.Frag}{h h':Heap}(t:mw K h)(k:∀b o,h.get? b=some o->h'.get? b=some o):mw K h':=⟨λx hx c T e=>let ⟨h1,h2,h3⟩:=t.at_ x hx c T e;⟨h1,k _ _ h2,h3⟩,t.nd⟩
structure Jq (P:Pg) (w:World) (K:W.Frag):Prop where
 hd:∀d∈P.defs,Jo K d.1 d.2
 hc:∀d∈P.cons,∃u v,W.nsIn K mainGlobals d.1=some (some u)/\RelV v u/\∀F,bN K F d.2 v
 hb:∀x∈P.dA,W.nsIn K mainGlobals x=some none
 ht:∀d∈P.tabs,GN K w.params d.1 d.2
 hcl:∀d∈P.cls,Ss K d.1 d.2 P.flds
 hlm:∀x∈P.om,Su K x
 hbm:P.om≠[]->Jp K
noncomputable def Jr:Value->List Addr
 | .ref a=>[a]
 | _=>[]
def EF:Option Obj->List Addr
 | some ⟨_,_,.dict es _,_⟩=>es.toList.flatMap λe=>Jr e.val
 | some ⟨_,_,.func fd,_⟩=>Jr fd.code
 | some ⟨_,_,.cls cd,_⟩=>cd.ns::cd.mro.flatMap Jr
 | _=>[]
noncomputable def fragOf(h:Heap):List Addr->W.Frag
 | []=>[]
 | a::r=>match h.get? a with
  | some o=>(a,o)::fragOf h r
  | none=>fragOf h r
theorem oo(h:Heap):∀as:List Addr,(fragOf h as).In h
 | []=>λ_ _ e=>by cases e
 | a::r=>λb o e=>by
  unfold fragOf at e;split at e
  ·rename_i o' ho;rw[j8]at e;cases z:b==a with
   | true =>
    rw[z]at e;cases e;rw[bj z];exact ho
   | false =>
    rw[z]at e;exact oo h r b o e
  ·exact oo h r b o e
def nsO:Option Obj->List Addr
 | some ⟨_,_,.cls cd,_⟩=>[cd.ns]
 | _=>[]
def abN(h:Heap)(a:Addr):List Addr:=a::(EF (h.get? a)++(nsO (h.get? a)).flatMap λb=>(EF (h.get? b)).flatMap λc=>c::EF (h.get? c))
def fM(h:Heap):W.Frag:=fragOf h (mainGlobals::(EF (h.get? mainGlobals)).flatMap (abN h))
noncomputable def chFn(K:W.Frag)(x:Str):Option FuncData:=match W.nsIn K mainGlobals x with
 | some (some (.ref f))=>(match K.lookup f with
  | some ⟨_,_,.func fd,_⟩=>(match W.codeIn K fd.code x with
   | true=>some {fd with kwdefaults:=.none,doc:=.none,pyModule:=.none,annotations:=none,code:=.none,closureTuple:=.none}
   | false=>none)
  | _=>none)
 | _=>none
def jJ(x:Str)(st:Stmt):FuncData:=W.fnOf x x (iq st) (dk st) (au st) .none .none .none .none none .none .none
def Nl{K:W.Frag}{x:Str}{st:Stmt}(h:chFn K x=some (jJ x st)):∃f fd,W.nsIn K mainGlobals x=some (some (.ref f))/\CG K x x st f fd:=by
 unfold chFn at h;split at h
 ·rename_i f hf;split at h
  ·rename_i oc od fd yV hl;split at h
   ·rename_i hc;have h:=cH h;obtain⟨a1,a2,a3,a4,a5,a6,a7,a8,a9,WK,WL,WM,a13,a14,a15⟩:=fd;unfold jJ at h;simp only[FuncData.mk.injEq]at h;obtain⟨e1,e2,e3,e4,e5,e6,e7,e8,-,-,-,-,-,-,e15⟩:=h;subst e1 e2 e3 e4 e5 e6 e7 e8 e15;exact⟨f,_,hf,Jn hl hc (by unfold W.keepIn;dsimp only;rw[hl])⟩
   ·cases h
  ·cases h
 ·cases h
def zb(K:W.Frag)(g:Addr)(d:Str×PV):Bool:=match W.nsIn K g d.1 with
 | some (some (.int j _))=>(match d.2 with | .int i=>i==j | _=>false)
 | some (some (.str y _))=>(match d.2 with | .str x=>x==y | _=>false)
 | some (some (.ref a))=>(match K.lookup a with
  | some ⟨.type t,_,.seq us _,_⟩=>(match d.2 with | .nd .ay ps=>(t=="tuple")&&(wX ps us.toList&&decide (us.toList.length<=100)) | _=>false)
  | _=>false)
 | _=>false
def Js{K:W.Frag}{g:Addr}{x:Str}{p:PV}(h:zb K g (x,p)=true):∃u v,W.nsIn K g x=some (some u)/\RelV v u/\∀F,bN K F p v:=by
 unfold zb at h;dsimp only at h
 split at h
 ·rename_i j t hn;split at h
  ·obtain rfl:=bj h;exact Nk hn
  ·cases h
 ·rename_i y t hn;split at h
  ·obtain rfl:=bj h;exact Nj hn
  ·cases h
 ·rename_i a hn;split at h
  ·rename_i t dd us n sl hl;split at h
   ·rw[aO,aO]at h;obtain⟨h1,h2,h3⟩:=h;obtain rfl:=bj h1;obtain⟨us⟩:=us;exact Ni hn hl h2 (eJ h3)
   ·cases h
  ·cases h
 ·cases h
def zc(K:W.Frag)(x:Str):Bool:=match W.nsIn K mainGlobals x with
 | some none=>true
 | _=>false
def Jt{K:W.Frag}{x:Str}(h:zc K x=true):W.nsIn K mainGlobals x=some none:=by
 unfold zc at h;split at h
 ·assumption
 ·cases h
abbrev OV:=Option (Option Value)
noncomputable def Ju(e:DictEntry):Option Str×Int:=(match e.key with
 | .str x _=>some x
 | _=>none,e.hash)
noncomputable def Jv(K:W.Frag)(a:Addr)(d:Str×Str):Bool:=match W.nsIn K a d.1,W.nsIn K mainGlobals d.2 with
 | some (some (.ref f)),some (some (.ref g))=>f==g
 | _,_=>false
def zf(K:W.Frag)(T:Str)(rows:List (Str×Str)):Option (Value×Option Addr×Array (Option Value)×List (Option Str×Int)×Bool):=match W.nsIn K mainGlobals T with
 | some (some (.ref a))=>(match K.lookup a with
  | some ⟨c,dd,.dict es _,sl⟩=>some (c,dd,sl,es.toList.map Ju,rows.all (Jv K a))
  | _=>none)
 | _=>none
noncomputable def rG(P:Params)(rows:List (Str×Str)):Option (Value×Option Addr×Array (Option Value)×List (Option Str×Int)×Bool):=some (.type "dict",none,#[],rows.map (λd=>(some d.1,PyData.keyHash P d.1)),true)
theorem zg{β:Type}{P:Params}:∀{es:List DictEntry} {rows:List (Str×β)},es.map Ju=rows.map (λd=>(some d.1,PyData.keyHash P d.1))->W.KeysLit P es
 | [],_,_=>trivial
 | _::_,[],h=>by cases h
 | e::es,d::rows,h=>by
  rw[aM,aM,Cw]at h;obtain⟨h1,h2⟩:=h;refine⟨?_,zg h2⟩;unfold Ju at h1;rw[rn]at h1;obtain⟨h3,h4⟩:=h1;split at h3
  ·grind
  ·cases h3
def Jw{K:W.Frag}{a:Addr}{d:Str×Str}(h:Jv K a d=true):∃f,W.nsIn K a d.1=some (some (.ref f))/\W.nsIn K mainGlobals d.2=some (some (.ref f)):=by
 unfold Jv at h;split at h
 ·grind
 ·cases h
def Jx{K:W.Frag}{P:Params}{T:Str}{rows:List (Str×Str)}(h:zf K T rows=rG P rows):GN K P T rows:=by
 unfold zf rG at h;split at h
 ·rename_i a hn;split at h
  ·rename_i c dd es n sl hl;have h:=cH h;simp only[rn]at h;obtain⟨rfl,rfl,rfl,h4,h5⟩:=h;exact abL hn hl (zg h4) λd hd=>Jw (gW.mp h5 d hd)
  ·cases h
 ·cases h
abbrev abP:=Option (Value×Option Addr×Array (Option Value)×List (Option Str×Int)×Bool)
noncomputable def CH(K:W.Frag)(f:Addr)(qual:Str):Option FuncData:=match K.lookup f with
 | some ⟨_,_,.func fd,_⟩=>(match W.codeIn K fd.code qual with
  | true=>some {fd with kwdefaults:=.none,doc:=.none,pyModule:=.none,annotations:=none,code:=.none,closureTuple:=.none}
  | false=>none)
 | _=>none
def Jy(x qual:Str)(st:Stmt):FuncData:=W.fnOf x qual (iq st) (dk st) (au st) .none .none .none .none none .none .none
def GO{K:W.Frag}{x qual:Str}{st:Stmt}{f:Addr}(h:CH K f qual=some (Jy x qual st)):∃fd,CG K x qual st f fd:=by
 unfold CH at h;split at h
 ·rename_i oc od fd yV hl;split at h
  ·rename_i hc;have h:=cH h;obtain⟨a1,a2,a3,a4,a5,a6,a7,a8,a9,WK,WL,WM,a13,a14,a15⟩:=fd;unfold Jy at h;simp only[FuncData.mk.injEq]at h;obtain⟨e1,e2,e3,e4,e5,e6,e7,e8,-,-,-,-,-,-,e15⟩:=h;subst e1 e2 e3 e4 e5 e6 e7 e8 e15;exact⟨_,Jn hl hc (by unfold W.keepIn;dsimp only;rw[hl])⟩
  ·cases h
 ·cases h
abbrev Sv:=Option (Bool×OV×List OV×Option FuncData)
def zh(K:W.Frag)(flds:List Str)(C:Str):Sv:=match W.nsIn K mainGlobals C with
 | some (some (.ref a))=>(match W.findIn K (.ref a) "__init__" with
  | some (some (.ref f))=>some (W.makesIn K a&&(W.isFn K (.ref f)&&(W.keepIn K (.ref a)&&(W.plainGet K a Str.empty&&(W.hasDictIn K a&&W.plainOver K a)))),W.findIn K (.ref a) "__setattr__",flds.map (λg=>W.findIn K (.ref a) g),CH K f (C++".__init__"))
  | _=>none)
 | _=>none
def rH(flds:List Str)(C:Str)(st:Stmt):Sv:=some (true,some (some (.builtin "object.__setattr__")),flds.map (λ_=>some none),some (Jy "__init__" (C++".__init__") st))
def wY:List Str->Bool
 | []=>true
 | x::r=>!r.contains x&&wY r
theorem u3:∀{l:List Str},wY l=true->l.Nodup
 | [],_=>nZ
 | x::r,h=>by
  simp only[wY,aO,wD,List.contains_eq_mem,B6]at h;exact iG.mpr ⟨h.1,u3 h.2⟩
def abQ:Option NameKind->Bool
 | some .local=>true
 | some .cell=>true
 | _=>false
def Xh:NameKind->Bool
 | .free=>false
 | _=>true
def Xi:ScopeKind->Bool
 | .function=>true
 | _=>false
def Nm(st:Stmt):Bool:=Xi (au st).kind&&(!(au st).isCoroutine&&(!(au st).isGenerator&&(wY (cu st)&&((params st).all (λx=>abQ ((au st).names.lookup x))&&(au st).names.all λy=>Xh y.2))))
def Jz{st:Stmt}(h:Nm st=true):dG (cu st) (params st) (au st):=by
 unfold Nm at h;rw[aO,aO,aO,aO,aO]at h;obtain⟨h1,h2,h3,h4,h5,h6⟩:=h;refine⟨?_,by grind,by grind,u3 h4,?_,λx hx=>?_,λy hy=>?_⟩
 ·cases z:(au st).kind<;>rw[z]at h1<;>first | rfl | cases h1
 ·exact List.take_left
 ·have k:=gW.mp h5 x hx;cases z:(au st).names.lookup x with
  | none=>rw[z]at k;cases k
  | some b =>
   rw[z]at k;cases b<;>first | exact .inl rfl | exact .inr rfl | cases k
 ·have k:=gW.mp h6 y hy;intro z;rw[z]at k;cases k
def EG(P:Pg):Prop:=∀(kV doc pm:Value) (an:Option Addr) (cZ ct:Value) (u:Nat->Value),
 P.defs.map (λd=>bindArgs (W.fnOf d.1 d.1 (iq d.2) (dk d.2) (au d.2) .none kV doc pm an cZ ct) ⟨(List.range (params d.2).length).map u,[]⟩)=P.defs.map λd=>pure ((params d.2).zip ((List.range (params d.2).length).map u))
def zi{us:List Value}{n:Nat}(h:us.length=n):(List.range n).map (λi=>us.getD i .none)=us:=by
 subst h;apply List.ext_getElem
 ·simp
 ·intro i h1 h2;simp[h2]
def Sw{K:W.Frag}{x:Str}{st:Stmt}{f:Addr}{fd:FuncData}{P:Pg}(hb:EG P)(hd:(x,st)∈P.defs)(F:CG K x x st f fd)(us:List Value)(hl:us.length=(params st).length):bindArgs fd ⟨us,[]⟩=pure ((params st).zip us):=by
 obtain⟨oc,od,kV,doc,pm,an,cZ,ct,yV,rfl,lk,EH⟩:=F.ex;have k:=lO.mp (hb kV doc pm an cZ ct λi=>us.getD i .none) (x,st) hd
 dsimp only at k
 rw[zi hl]at k;exact k
def Nn(P:Pg):Prop:=∀(kV doc pm:Value) (an:Option Addr) (cZ ct:Value) (u:Nat->Value),
 P.cls.map (λd=>bindArgs (W.fnOf "__init__" (d.1++".__init__") (iq d.2) (dk d.2) (au d.2) .none kV doc pm an cZ ct) ⟨(List.range (params d.2).length).map u,[]⟩)=P.cls.map λd=>pure ((params d.2).zip ((List.range (params d.2).length).map u))
def JA{K:W.Frag}{P:Pg}{C:Str}{st:Stmt}(Sx:Nm st=true)(hb:Nn P)(hd:(C,st)∈P.cls)(h:zh K P.flds C=rH P.flds C st):Ss K C st P.flds:=by
 unfold zh rH at h;split at h
 ·rename_i a hn;split at h
  ·rename_i f hf;have h:=cH h;simp only[rn,aO]at h;obtain⟨⟨h1,h2,h3,h4,h5,h6⟩,h7,h8,h9⟩:=h;obtain⟨fd,F⟩:=GO h9;refine⟨a,f,fd,hn,⟨h1,hf,h2,h3⟩,⟨h4,h5,h6,h7⟩,λg hg=>lO.mp h8 g hg,F,λus hl=>?_,Jz Sx⟩
   obtain⟨oc,od,kV,doc,pm,an,cZ,ct,yV,rfl,lk,EH⟩:=F.ex;have k:=lO.mp (hb kV doc pm an cZ ct λi=>us.getD i .none) (C,st) hd
   dsimp only at k
   rw[zi hl]at k;exact k
  ·cases h
 ·cases h
noncomputable def CI(K:W.Frag)(h:Heap)(x:Str):Bool:=match W.tabIn K x with
 | none=>true
 | some (c,T)=>W.codeHdIn K c T&&((K.lookup T).isNone&&(match h.get? T with
  | some ⟨.none,none,.fields vs,sl⟩=>vs.isEmpty&&sl.isEmpty
  | _=>false))
noncomputable def Sy(K:W.Frag):Bool:=match W.nsIn K mainGlobals "__builtins__" with
 | some (some (.ref bm))=>!(bm==builtinsNs)&&(!(bm==mainGlobals)&&(match K.lookup bm with
  | some ⟨.type m,some d,.plain,_⟩=>(m=="module")&&(d==builtinsNs)
  | _=>false))
 | _=>false
def zj(P:Pg)(K:W.Frag)(h:Heap):Bool:=dq.all (CI K h)&&(decide (dq.filterMap λx=>(W.tabIn K x).map (·.2)).Nodup&&((P.om.isEmpty || Sy K)&&P.om.all λx=>dq.contains x&&(W.tabIn K x).isSome))
def u4{K:W.Frag}{h:Heap}{x:Str}{c T:Addr}(e:CI K h x=true)(t:W.tabIn K x=some (c,T)):W.codeHdIn K c T=true/\h.get? T=some {cls:=.none,data:=.fields #[]}/\K.lookup T=none:=by
 unfold CI at e;rw[t]at e;simp only[aO]at e;obtain⟨h1,h2,h3⟩:=e;refine⟨h1,?_,by simpa using h2⟩
 split at h3
 ·grind
 ·cases h3
def Np{K:W.Frag}(e:Sy K=true):Jp K:=by
 unfold Sy at e;split at e
 ·rename_i bm hb;simp only[aO]at e;obtain⟨h1,h2,h3⟩:=e;split at h3
  ·rename_i m d sl z;rw[aO]at h3;obtain rfl:=bj h3.1;obtain rfl:=bj h3.2;exact⟨bm,_,hb,by grind,by grind,z,rfl,rfl,rfl⟩
  ·cases h3
 ·cases e
def JB{P:Pg}{K:W.Frag}{h:Heap}(e:zj P K h=true):mw K h/\(∀x∈P.om,Su K x)/\(P.om≠[]->Jp K):=by
 unfold zj at e;simp only[aO]at e;obtain⟨h1,h2,h3,h4⟩:=e;have all:=gW.mp h1;refine⟨⟨λx hx c T t=>u4 (all x hx) t,eJ h2⟩,λx hx=>?_,λz=>?_⟩
 ·have:=gW.mp h4 x hx;rw[aO]at this;have hm:x∈dq:=by grind
  cases t:W.tabIn K x with
  | none=>rw[t]at this;cases this.2
  | some cT=>exact⟨hm,cT.1,cT.2,t,(u4 (all x hm) t).1⟩
 ·rcases Bool.or_eq_true_iff.mp h3 with y | y
  ·grind
  ·exact Np y
abbrev Sz:=List (Option FuncData)×List (Option FuncData)×Bool×List abP×List Sv
def CJ(P:Pg)(K:W.Frag)(hp:Heap):Sz:=((P.defs.take 26).map (λd=>chFn K d.1),(P.defs.drop 26).map (λd=>chFn K d.1),P.cons.all (zb K mainGlobals)&&(P.dA.all (zc K)&&zj P K hp),P.tabs.map (λd=>zf K d.1 d.2),P.cls.map (λd=>zh K P.flds d.1))
def CK(P:Pg)(w:World):Sz:=((P.defs.take 26).map (λd=>some (jJ d.1 d.2)),(P.defs.drop 26).map (λd=>some (jJ d.1 d.2)),true,P.tabs.map (λd=>rG w.params d.2),P.cls.map (λd=>rH P.flds d.1 d.2))
def GP{P:Pg}{w:World}{K:W.Frag}(Sx:P.defs.all (λd=>Nm d.2)=true)(Xj:EG P)(JC:P.cls.all (λd=>Nm d.2)=true)(JD:Nn P){hp:Heap}(h:CJ P K hp=CK P w):Jq P w K/\mw K hp:=by
 unfold CJ CK at h;simp only[rn]at h;obtain⟨h1,h0,h2,h5,h6⟩:=h;rw[aO,aO]at h2;obtain⟨l1,l2,l3⟩:=JB h2.2.2;refine⟨⟨λd hd=>?_,λd hd=>Js (gW.mp h2.1 d hd),λx hx=>Jt (gW.mp h2.2.1 x hx),λd hd=>Jx (lO.mp h5 d hd),λd hd=>JA (gW.mp JC d hd) JD hd (lO.mp h6 d hd),l2,l3⟩,l1⟩
 obtain⟨f,fd,a,F⟩:=Nl (by
  have wZ:=hd;rw[<-Cd 26 P.defs]at wZ;rcases bZ.mp wZ with z | z
  ·exact lO.mp h1 d z
  ·exact lO.mp h0 d z)
 exact⟨⟨f,fd,a,F,λus hl=>Sw Xj hd F us hl⟩,Jz (gW.mp Sx d hd)⟩
def iW{α β γ:Type}{o:Option α}{f:α->β}{g:α->γ}{a:β}{b:γ}(h1:o.map f=some a)(h2:o.map g=some b):o.map (λs=>(f s,g s))=some (a,b):=by
 cases o with
 | none=>cases h1
 | some s=>cases h1;cases h2;rfl
def Nq(P:Pg)(Sx:P.defs.all (λd=>Nm d.2)=true)(Xj:EG P)(JC:P.cls.all (λd=>Nm d.2)=true)(JD:Nn P):W.Hook :=
 ⟨Sz,λs=>CJ P (fM s.heap) s.heap,λw=>CK P w,λw h=>∃K:W.Frag,K.In h/\Jq P w K/\mw K h,λw s e=>⟨_,oo _ _,GP Sx Xj JC JD e⟩,λ_ _ _ ⟨K,a,b,c⟩ k=>⟨K,a.keeps k,b,c.keeps k⟩⟩
noncomputable def iX(p:Program)(row:String)(b:Bool)(N:Nat)(w:World):Option Shared:=(W.fencedOpening treeTable p w N).bind λs₀=>W.topFrom treeTable p (w.withFollow row b) N s₀
def GQ{p q:Program}{loose:List Str}{Xt:Shared->Bool}{α:Type}{Yf:Shared->α}{Ya:World->α}{N:Nat}{g0:Bool}(row:String)
  (h1:∀w,(iX p row false N w).map (W.openSeen q loose (importedModules p.main.body) Xt g0)=some (W.openGood q loose)) (h2:∀w,(iX p row true N w).map (W.openSeen q loose (importedModules p.main.body) Xt g0)=some (W.openGood q loose))
  (h3:∀w,(iX p row false N w).map Yf=some (Ya (w.withFollow row false))) (h4:∀w,(iX p row true N w).map Yf=some (Ya (w.withFollow row true))):W.LeftO p q loose Xt Yf Ya N g0:=by
 refine W.LeftO.of_split row λw=>?_
 obtain⟨sA,a1,a2⟩:=nL.mp (h1 w);obtain⟨sB,b1,b2⟩:=nL.mp (h2 w);obtain⟨sC,c1,c2⟩:=nL.mp (h3 w);obtain⟨sD,d1,d2⟩:=nL.mp (h4 w);rw[a1]at c1;rw[b1]at d1;cases c1;cases d1;obtain⟨s0,f0,tA⟩:=qS.mp a1;obtain⟨s1,f1,tB⟩:=qS.mp b1;rw[f0]at f1;cases f1;rw[f0,iH,tA,tB,iH,iH,a2,b2,c2,d2]
end L2.U
namespace c5
open PySem L2 L2.U
noncomputable def top(i:Nat):Stmt:=PySem.Challenge.pw_lendrule_k21_all_that_is_empty_is_told.main.body.getD i (.Pass ⟨0,0,0,0⟩)
noncomputable def jw:List (Str×Str):=[("put","put_acts"),("set","set_acts"),("fill","put_acts"),("copy","copy_acts"),("move","move_acts"),("drop","drop_acts"),("lend","lend_acts"),("sole","lend_acts"),("call","call_acts"),("if","if_acts"),("go","go_acts"),("say","say_acts"),("give","give_acts")]
def txt:Pg where
 defs:=([("leaves",5),("check_part",6),("part",7),("first",8),("is_copied",9),("kind_of",12),("is_holder",13),("shape_of",14),("spread",16),("tell_new",17),("row_nexts",28),("acts",29),("nexts",30),("come_to",31),("arrivals",32),("touched",33),("touches",34),("touch",35),("touch_whole",36),("at_acts",37),("operand_acts",38),("target_acts",39),("put_acts",40),("set_acts",41),("copy_acts",42),("move_acts",43),("drop_acts",44),("lend_acts",45),("call_acts",46),("arg_act",47),("owner_act",48),("if_acts",49),("go_acts",50),("say_acts",51),("give_acts",52),("empties",55),("empty_at_first",56),("emptied",57),("stays_empty",58),("fills",59),("_law_cell_at",61),("_law_mixed",62),("_law_names",63),("_law_shape",64),("_law_leaves",65),("_law_parts",66),("_law_lets",67),("_law_spots",68),("_law_numbers",69),("_law_operand",70),("_law_carried",71),("_law_lending",72),("_law_call",73),("_law_small_row",74),("_law_row",75),("_law_program",76),("_law_whole",77),("_law_is_fact",78),("_law_ends",79),("_law_begun",80),("_law_left",81),("law",82)]:List (String×Nat)).map λd=>(d.1,top d.2)
 cons:=[("HOLDER_WORDS",.ay [(.str "lent"),(.str "sole")]),("ROW",.int 0),("ACT",.int 1),("NAME",.int 2),("THROUGH",.int 3),("FIRST",.int 4),("MANY",.int 5),("TAKER",.int 6),("REST",.ay [(.str "rest"),(.str ""),(.bl false),(.int 0),(.int 0),(.str "")]),("HAND",.ay [(.str "hand"),(.str ""),(.bl false),(.int 0),(.int 0),(.str "")])]
 dA:=["bool","enumerate","int","isinstance","len","list","range","set","sorted","str","sum","tuple"]
 tabs:=[("MAKERS",jw)]
 cls:=[]
 flds:=[]
 om:=["arrivals","empties"]
 Xf:=[("leaves",[("told",1)]),("spread",[("known",10),("told",1)]),("tell_new",[("known",10),("told",1)]),("acts",[("told",1)]),("nexts",[("firsts",1),("told",1)]),("call_acts",[("told",1)]),("empties",[("firsts",1)]),("empty_at_first",[("told",1),("[return]",1)]),("emptied",[("told",1)]),("_law_names",[("_law_named",1)]),("_law_lets",[("_law_lets_here",1)]),("_law_spots",[("_law_found",1)]),("_law_numbers",[("_law_found",1)]),("_law_call",[("_law_args",1)]),("_law_program",[("_law_params",1),("_law_heads",1)]),("_law_begun",[("_law_known",10)]),("_law_left",[("_law_known",10)]),("law",[("_law_known",10),("_law_come",3)])]
section
end
theorem qo{α β γ:Type}{E:Option α}{l:List β}{f:α->β->γ}{g:β->γ}(n:Nat)(h1:E.map (λs=>(l.take n).map (f s))=some ((l.take n).map g))(h2:E.map (λs=>(l.drop n).map (f s))=some ((l.drop n).map g)):E.map (λs=>l.map (f s))=some (l.map g):=by
 cases E with
 | none=>cases h1
 | some s=>exact ej some (show l.map (f s)=l.map g by rw[<-Cd n l,cG,cG,show(l.take n).map (f s)=_ from cH h1,show(l.drop n).map (f s)=_ from cH h2])
theorem Sx:txt.defs.all (λd=>Nm d.2)=true:=by kernel_rfl
theorem Xj:EG txt:=by
 intro kV doc pm an cZ ct u;kernel_rfl
theorem JC:txt.cls.all (λd=>Nm d.2)=true:=by kernel_rfl
theorem JD:Nn txt:=by
 intro kV doc pm an cZ ct u;kernel_rfl
noncomputable def qv:Program:=W.view (W.OpenLaw.prog PySem.Challenge.rw_lendrule_k21_all_that_is_empty_is_told) [82]
noncomputable def lo:List Str:=(W.OpenLaw.prog PySem.Challenge.rw_lendrule_k21_all_that_is_empty_is_told).boundNames.filter (· != "law")
def Xt(s:Shared):Bool:=W.xlAt qv [] s&&W.recOk (W.RowW.records (W.OpenRow.toRowW (W.OpenLaw.row PySem.Challenge.rw_lendrule_k21_all_that_is_empty_is_told))) s
abbrev hk:W.Hook:=Nq txt Sx Xj JC JD
theorem kq1(w:World):(iX (W.OpenLaw.prog PySem.Challenge.rw_lendrule_k21_all_that_is_empty_is_told) "special-get-raises" false 5000 w).map (W.openSeen qv lo (importedModules (W.OpenLaw.prog PySem.Challenge.rw_lendrule_k21_all_that_is_empty_is_told).main.body) Xt true)=some (W.openGood qv lo):=by kernel_rfl
theorem kq2(w:World):(iX (W.OpenLaw.prog PySem.Challenge.rw_lendrule_k21_all_that_is_empty_is_told) "special-get-raises" true 5000 w).map (W.openSeen qv lo (importedModules (W.OpenLaw.prog PySem.Challenge.rw_lendrule_k21_all_that_is_empty_is_told).main.body) Xt true)=some (W.openGood qv lo):=by kernel_rfl
theorem Xk(w:World):(iX (W.OpenLaw.prog PySem.Challenge.rw_lendrule_k21_all_that_is_empty_is_told) "special-get-raises" false 5000 w).map (λs:Shared=>(txt.defs.take 26).map (λd=>chFn (fM s.heap) d.1))=some ((txt.defs.take 26).map (λd=>some (jJ d.1 d.2))):=by kernel_rfl
theorem SA(w:World):(iX (W.OpenLaw.prog PySem.Challenge.rw_lendrule_k21_all_that_is_empty_is_told) "special-get-raises" false 5000 w).map (λs:Shared=>((txt.defs.drop 26).take 15).map (λd=>chFn (fM s.heap) d.1))=some (((txt.defs.drop 26).take 15).map (λd=>some (jJ d.1 d.2))):=by kernel_rfl
theorem SD(w:World):(iX (W.OpenLaw.prog PySem.Challenge.rw_lendrule_k21_all_that_is_empty_is_told) "special-get-raises" false 5000 w).map (λs:Shared=>(((txt.defs.drop 26).drop 15).take 15).map (λd=>chFn (fM s.heap) d.1))=some ((((txt.defs.drop 26).drop 15).take 15).map (λd=>some (jJ d.1 d.2))):=by kernel_rfl
theorem SE(w:World):(iX (W.OpenLaw.prog PySem.Challenge.rw_lendrule_k21_all_that_is_empty_is_told) "special-get-raises" false 5000 w).map (λs:Shared=>(((txt.defs.drop 26).drop 15).drop 15).map (λd=>chFn (fM s.heap) d.1))=some ((((txt.defs.drop 26).drop 15).drop 15).map (λd=>some (jJ d.1 d.2))):=by kernel_rfl
theorem SF(w:World):(iX (W.OpenLaw.prog PySem.Challenge.rw_lendrule_k21_all_that_is_empty_is_told) "special-get-raises" false 5000 w).map (λs:Shared=>txt.cons.all (zb (fM s.heap) mainGlobals)&&(txt.dA.all (zc (fM s.heap))&&zj txt (fM s.heap) s.heap))=some true:=by kernel_rfl
theorem SG(w:World):(iX (W.OpenLaw.prog PySem.Challenge.rw_lendrule_k21_all_that_is_empty_is_told) "special-get-raises" false 5000 w).map (λs:Shared=>(txt.tabs.map (λd=>zf (fM s.heap) d.1 d.2),txt.cls.map (λd=>zh (fM s.heap) txt.flds d.1)))=some (txt.tabs.map (λd=>rG (w.withFollow "special-get-raises" false).params d.2),txt.cls.map (λd=>rH txt.flds d.1 d.2)):=by kernel_rfl
theorem kq3(w:World):(iX (W.OpenLaw.prog PySem.Challenge.rw_lendrule_k21_all_that_is_empty_is_told) "special-get-raises" false 5000 w).map (W.Hook.obs hk)=some (W.Hook.val hk (w.withFollow "special-get-raises" false)):=iW (Xk w) (iW (qo 15 (SA w) (qo 15 (SD w) (SE w))) (iW (SF w) (SG w)))
theorem Xl(w:World):(iX (W.OpenLaw.prog PySem.Challenge.rw_lendrule_k21_all_that_is_empty_is_told) "special-get-raises" true 5000 w).map (λs:Shared=>(txt.defs.take 26).map (λd=>chFn (fM s.heap) d.1))=some ((txt.defs.take 26).map (λd=>some (jJ d.1 d.2))):=by kernel_rfl
theorem SH(w:World):(iX (W.OpenLaw.prog PySem.Challenge.rw_lendrule_k21_all_that_is_empty_is_told) "special-get-raises" true 5000 w).map (λs:Shared=>((txt.defs.drop 26).take 15).map (λd=>chFn (fM s.heap) d.1))=some (((txt.defs.drop 26).take 15).map (λd=>some (jJ d.1 d.2))):=by kernel_rfl
theorem SJ(w:World):(iX (W.OpenLaw.prog PySem.Challenge.rw_lendrule_k21_all_that_is_empty_is_told) "special-get-raises" true 5000 w).map (λs:Shared=>(((txt.defs.drop 26).drop 15).take 15).map (λd=>chFn (fM s.heap) d.1))=some ((((txt.defs.drop 26).drop 15).take 15).map (λd=>some (jJ d.1 d.2))):=by kernel_rfl
theorem SK(w:World):(iX (W.OpenLaw.prog PySem.Challenge.rw_lendrule_k21_all_that_is_empty_is_told) "special-get-raises" true 5000 w).map (λs:Shared=>(((txt.defs.drop 26).drop 15).drop 15).map (λd=>chFn (fM s.heap) d.1))=some ((((txt.defs.drop 26).drop 15).drop 15).map (λd=>some (jJ d.1 d.2))):=by kernel_rfl
theorem SM(w:World):(iX (W.OpenLaw.prog PySem.Challenge.rw_lendrule_k21_all_that_is_empty_is_told) "special-get-raises" true 5000 w).map (λs:Shared=>txt.cons.all (zb (fM s.heap) mainGlobals)&&(txt.dA.all (zc (fM s.heap))&&zj txt (fM s.heap) s.heap))=some true:=by kernel_rfl
theorem SN(w:World):(iX (W.OpenLaw.prog PySem.Challenge.rw_lendrule_k21_all_that_is_empty_is_told) "special-get-raises" true 5000 w).map (λs:Shared=>(txt.tabs.map (λd=>zf (fM s.heap) d.1 d.2),txt.cls.map (λd=>zh (fM s.heap) txt.flds d.1)))=some (txt.tabs.map (λd=>rG (w.withFollow "special-get-raises" true).params d.2),txt.cls.map (λd=>rH txt.flds d.1 d.2)):=by kernel_rfl
theorem kq4(w:World):(iX (W.OpenLaw.prog PySem.Challenge.rw_lendrule_k21_all_that_is_empty_is_told) "special-get-raises" true 5000 w).map (W.Hook.obs hk)=some (W.Hook.val hk (w.withFollow "special-get-raises" true)):=iW (Xl w) (iW (qo 15 (SH w) (qo 15 (SJ w) (SK w))) (iW (SM w) (SN w)))
theorem ws:W.OpenLaw.wellSaid PySem.Challenge.rw_lendrule_k21_all_that_is_empty_is_told=true:=by kernel_rfl
end c5
open PySem PySem.W PyProof.Rows PySem.Calls
set_option maxRecDepth 100000 in
set_option maxHeartbeats 0 in
theorem c5.fin(hc:∀d:DefRec,d.name="law"->d.params.defaults=[]->W.WalkO c5.qv c5.lo (XL c5.qv []) (Hook.says c5.hk) (W.OpenRow.toRowW (W.OpenLaw.row PySem.Challenge.rw_lendrule_k21_all_that_is_empty_is_told)) d [] (λf vs=>PySem.call f vs)):PySem.Challenge.rw_lendrule_k21_all_that_is_empty_is_told.Holds:=by
 w_on;refine W.holds_law c5.ws λagh=>?_
 refine W.holds_open (q:=c5.qv) (loose:=c5.lo) (Xt:=c5.Xt) (XP:=XL c5.qv []) (Yf:=Hook.obs c5.hk) (Ya:=Hook.val c5.hk) (YP:=Hook.says c5.hk) (N:=5000) (L2.U.GQ "special-get-raises" c5.kq1 c5.kq2 c5.kq3 c5.kq4) (Hook.of _) (Hook.keeps _) (λs e=>xl_of s (fK.mp e).1) XL.keeps (by rfl) (by rfl) (by rfl) (λs e=>recFacts_of (fK.mp e).2) (by rfl) (by first | assumption | decide +kernel) (by decide +kernel) ⟨rfl,rfl,rfl,rfl,rfl,by decide +kernel⟩ ?hw (hc _ rfl rfl)
 case hw=>w_witness2
end
namespace L2
open PySem PySem.Spec PyProof.Rows
noncomputable def rJ:bB->Value->Bool
 | .inl k,v=>Value.isInt k v
 | .inr x,v=>Value.isStrOf x v
def abR(w:World):bB->Int
 | .inl k=>hashInt k
 | .inr x=>hashStr w x
theorem cW:∀{k:bB} {v:Value},rJ k v=true->(∃i t,k=Sum.inl i/\v=Value.int i t)\/(∃x t,k=Sum.inr x/\v=Value.str x t)
 | .inl i,v,h=>by
  obtain⟨t,e⟩:=Value.isInt_shape h;exact .inl ⟨i,t,rfl,e⟩
 | .inr x,v,h=>by
  obtain⟨t,e⟩:=Value.isStrOf_shape h;exact .inr ⟨x,t,rfl,e⟩
def GR(i:Int)(t:Tok):rJ (.inl i) (.int i t)=true:=by simp[rJ,Value.isInt]
def GS(x:Str)(t:Tok):rJ (.inr x) (.str x t)=true:=by simp[rJ,Value.isStrOf]
def SO(a b:Int):decide ((Sum.inl a:bB)=Sum.inl b)=(a==b):=by
 grind
def SQ(a b:Str):decide ((Sum.inr a:bB)=Sum.inr b)=decide (a=b):=by
 grind
def SR(a:Int)(b:Str):decide ((Sum.inl a:bB)=Sum.inr b)=false:=by grind
def SS(a:Str)(b:Int):decide ((Sum.inr a:bB)=Sum.inl b)=false:=by grind
def c9(prog:Program)(w:World):PySem.KeyKind prog w bB where
 is:=rJ
 hash:=abR w
 inj:=λv a b ha hb=>by
  rcases cW ha with⟨i,t,rfl,rfl⟩ | ⟨x,t,rfl,rfl⟩
  ·rcases cW hb with⟨j,u,rfl,e⟩ | ⟨y,u,rfl,e⟩
   ·injection e with e1 _;rw[e1]
   ·exact nomatch e
  ·rcases cW hb with⟨j,u,rfl,e⟩ | ⟨y,u,rfl,e⟩
   ·exact nomatch e
   ·injection e with e1 _;rw[e1]
 byValue:=λk v h=>by
  rcases cW h with⟨i,t,rfl,rfl⟩ | ⟨x,t,rfl,rfl⟩<;>rfl
 pyHash:=λhv h=>by
  rcases cW hv with⟨i,t,rfl,rfl⟩ | ⟨x,t,rfl,rfl⟩
  ·exact wpAny_pyHash_int h
  ·exact wpAny_pyHash_str h
 eqBool:=λhu hv h=>by
  rcases cW hu with⟨i,t,rfl,rfl⟩ | ⟨x,t,rfl,rfl⟩
  ·rcases cW hv with⟨j,u,rfl,rfl⟩ | ⟨y,u,rfl,rfl⟩
   ·rw[SO]at h;exact wpAny_eqBool_int h
   ·rw[SR]at h;exact SeqAt.EqAt.int_str i t y u _ _ _ _ h
  ·rcases cW hv with⟨j,u,rfl,rfl⟩ | ⟨y,u,rfl,rfl⟩
   ·rw[SS]at h;exact SeqAt.EqAt.str_int x t j u _ _ _ _ h
   ·rw[SQ]at h;exact wpAny_eqBool_str h
 «strs» := λk x t v h=>by
  rcases cW h with⟨i,u,rfl,e⟩ | ⟨y,u,rfl,e⟩
  ·exact nomatch e
  ·injection e with e1 _
   subst e1;cases v<;>rfl
def zm(prog:Program)(w:World)(i:Int)(t:Tok):(c9 prog w).is (.inl i) (.int i t)=true:=GR i t
def zq(prog:Program)(w:World)(x:Str)(t:Tok):(c9 prog w).is (.inr x) (.str x t)=true:=GS x t
def Vals.length(r:Vals xs us):xs.length=us.length:=n6 r
theorem Vals.get:∀{xs:List V} {us:List Value} {i:Nat} {x:V},Vals xs us->xs[i]?=some x->∃u,us[i]?=some u/\RelV x u
 | _,_,_,_,.nil,e=>by simp at e
 | _,_,0,_,.cons r _,e=>by grind
 | _,_,i+1,x,.cons _ t,e=>by
  obtain⟨u,h1,h2⟩:=Vals.get t (by simpa using e)
  exact⟨u,by grind,h2⟩
theorem Vals.set(r:RelV x u):∀{xs:List V} {us:List Value} (i:Nat),Vals xs us->Vals (xs.set i x) (us.set i u)
 | _,_,_,.nil=>.nil
 | _,_,0,.cons _ t=>.cons r t
 | _,_,i+1,.cons q t=>.cons q (Vals.set r i t)
theorem Vals.append:∀{xs ys:List V} {us ws:List Value},Vals xs us->Vals ys ws->Vals (xs++ys) (us++ws)
 | _,_,_,_,.nil,s=>s
 | _,_,_,_,.cons r t,s=>.cons r (Vals.append t s)
theorem Vals.take:∀{xs:List V} {us:List Value} (n:Nat),Vals xs us->Vals (xs.take n) (us.take n)
 | _,_,0,_=>.nil
 | _,_,_+1,.nil=>.nil
 | _,_,n+1,.cons r t=>.cons r (Vals.take n t)
theorem Vals.drop:∀{xs:List V} {us:List Value} (n:Nat),Vals xs us->Vals (xs.drop n) (us.drop n)
 | _,_,0,r=>r
 | _,_,_+1,.nil=>.nil
 | _,_,n+1,.cons _ t=>Vals.drop n t
def rK:Option V->Option Value->Prop
 | some v,some u=>RelV v u
 | none,none=>True
 | _,_=>False
def KV{κ:Type}:List (κ×V)->List (κ×Value)->Prop:=Paired fun(p:κ×V) (q:κ×Value)=>p.1=q.1/\RelV p.2 q.2
noncomputable def cw(H:Hp)(a:Addr)(o:HO):Hp:=λb=>if b=a then some o else H b
def aD:cw H a o a=some o:=by unfold cw;rw[if_pos rfl]
def aI(h:b≠a):cw H a o b=H b:=by unfold cw;rw[if_neg h]
def bU{H:Hp}{a b:Addr}{o:HO}(h:H a=some o)(h':H b=none):a≠b:=by
 grind
section
variable (P:Program) (w:World)
def fZ(H:Hp)(h:Heap)(a:Addr):HO->Prop
 | .lst xs=>xs.length<=sizeLine/\∃(aH:List Value) (n:Nat),Vals xs aH/\h.get? a=some {cls:=.type "list",data:=.seq aH.toArray n}
 | .ay xs=>xs.length<=sizeLine/\∃aH:List Value,Vals xs aH/\IsTup h a aH.toArray
 | .dK kvs=>kvs.length<=sizeLine/\(a==sysModules)=false/\∃vs,KV kvs vs/\h.DictOf (c9 P w) a vs
 | .dT xs=>xs.length<=sizeLine/\(a==sysModules)=false/\∃o es ep,h.get? a=some o/\o.ExactDict/\o.data=.dict es ep/\es.toList=xs.map (entryOfKey (tupleKind (c9 P w)))/\(xs.map (·.1)).Nodup
 | .set S n=>h.SetOf (intKind P w) a S n
 | .oX C dx fs=>H dx=some (.own a)/\fs.length<=1000/\dx≠a/\h.get? a=some (W.instObj C dx) /\
   ∃mA,h.Ns1 dx mA/\(∀f,rK (fs.lookup f) (mA f))/\PySem.Within mA (fs.map (·.1))
 | .own _=>∃o,h.get? a=some o
 | .xd fs=>∃mA,h.Ns1 a mA/\∀f,rK (fs.lookup f) (mA f)
 | .rng lo hi=>∃t u v,h.get? a=some {cls:=.type "range",data:=.fields #[.int lo t,.int hi u,.int 1 v]}
 | .oY o u=>h.get? a=some o/\fZ H h a u
 | .CF q=>∃ps:Array Value,h.get? a=some {cls:=.none,data:=.fields ps}/\TriplesOk ps.toList/\∀(pos:Pos) (cv:Value),codeAmong pos ps.toList=some cv ->
   ∃(c:Addr) (oc:Obj) (u:HO) (vs:Array Value) (t:Tok),cv=.ref c/\H c=some (.oY oc u)/\oc.data=.fields vs/\vs[1]?=some (.str q t)
 | .met f x=>h.get? a=some (W.methodObj (.ref f) (.ref x))
 | .ext φ=>φ h/\(∃o,h.get? a=some o)/\∀h1 h2:Heap,φ h1->(∀o,h1.get? a=some o->h2.get? a=some o)->φ h2
def lT(H:Hp)(h:Heap):Prop:=∀a o,H a=some o->fZ P w H h a o
end
section
variable {P:Program} {w:World} {H H':Hp} {h h':Heap} {a:Addr} {o:HO}
def fZ.lt(x:fZ P w H h a o):a<h.objs.size:=by
 cases o with
 | lst xs=>obtain⟨_,_,_,_,e⟩:=x;exact aV e
 | ay xs=>obtain⟨_,_,_,p⟩:=x;exact p.lt
 | dK kvs=>obtain⟨_,_,_,_,o,_,_,e,_⟩:=x;exact aV e
 | dT kvs=>obtain⟨_,_,o,_,_,e,_⟩:=x;exact aV e
 | set S n=>obtain⟨o,_,_,_,e,_⟩:=x;exact aV e
 | oX C dx fs=>obtain⟨_,_,_,e,_⟩:=x;exact aV e
 | own y=>obtain⟨_,e⟩:=x;exact aV e
 | xd fs=>obtain⟨_,⟨_,_,_,e,_⟩,_⟩:=x;exact aV e
 | rng lo hi=>obtain⟨_,_,_,e⟩:=x;exact aV e
 | oY ob u=>obtain⟨e,_⟩:=x;exact aV e
 | CF q=>obtain⟨_,e,_⟩:=x;exact aV e
 | met f y=>exact aV (x)
 | ext φ=>obtain⟨_,⟨_,e⟩,_⟩:=x;exact aV e
def fZ.w5(x:fZ P w H h a o)(k:∀b u,(b=a\/H b=some (.own a))->h.get? b=some u->h'.get? b=some u)
  (ho:∀b,H b=some (.own a)->H' b=some (.own a)) (ht:∀b xs,H b=some (.ay xs)->H' b=some (.ay xs)) (hz:∀b ob u,H b=some (.oY ob u)->H' b=some (.oY ob u)):fZ P w H' h' a o:=by
 induction o with
 | lst xs=>obtain⟨z,aH,n,r,e⟩:=x;exact⟨z,aH,n,r,k _ _ (.inl rfl) e⟩
 | ay xs=>obtain⟨z,aH,r,ob,e,c⟩:=x;exact⟨z,aH,r,ob,k _ _ (.inl rfl) e,c⟩
 | dK kvs=>obtain⟨z,y,vs,r,ob,es,ep,e,c⟩:=x;exact⟨z,y,vs,r,ob,es,ep,k _ _ (.inl rfl) e,c⟩
 | dT kvs=>obtain⟨z,y,ob,es,ep,e,c⟩:=x;exact⟨z,y,ob,es,ep,k _ _ (.inl rfl) e,c⟩
 | set S n=>obtain⟨ob,es,ep,t,e,c⟩:=x;exact⟨ob,es,ep,t,k _ _ (.inl rfl) e,c⟩
 | oX C dx fs =>
  obtain⟨d,z,ne,e,mA,⟨od,es,ep,e2,c⟩,r⟩:=x;exact⟨ho _ d,z,ne,k _ _ (.inl rfl) e,mA,⟨od,es,ep,k _ _ (.inr d) e2,c⟩,r⟩
 | own y=>obtain⟨ob,e⟩:=x;exact⟨ob,k _ _ (.inl rfl) e⟩
 | xd fs=>obtain⟨mA,⟨od,es,ep,e,c⟩,r⟩:=x;exact⟨mA,⟨od,es,ep,k _ _ (.inl rfl) e,c⟩,r⟩
 | rng lo hi=>obtain⟨t,u,v,e⟩:=x;exact⟨t,u,v,k _ _ (.inl rfl) e⟩
 | oY ob u ih=>obtain⟨e,q⟩:=x;exact⟨k _ _ (.inl rfl) e,ih q⟩
 | CF q =>
  obtain⟨ps,e,t,c⟩:=x;exact⟨ps,k _ _ (.inl rfl) e,t,λpos cv z=>let ⟨c,oc,u,vs,tk,h1,h2,h3⟩:=c pos cv z;⟨c,oc,u,vs,tk,h1,hz _ _ _ h2,h3⟩⟩
 | met f y =>
  have e:=x;exact k a _ (.inl rfl) e
 | ext φ=>obtain⟨p,⟨o,e⟩,st⟩:=x;exact⟨st _ _ p λo q=>k _ _ (.inl rfl) q,⟨o,k _ _ (.inl rfl) e⟩,st⟩
def lT.lt(x:lT P w H h)(e:H a=some o):a<h.objs.size:=(x a o e).lt
def lT.fresh(x:lT P w H h)(e:h.objs.size<=a):H a=none:=by
 cases q:H a with
 | none=>rfl
 | some u=>exact absurd (bY (x.lt q) e) (gE _)
def lT.kept(x:lT P w H h)(k:∀b u,h.get? b=some u->h'.get? b=some u):lT P w H h':=λa o e =>
 (x a o e).w5 (λb u _ q=>k b u q) (λ_ q=>q) (λ_ _ q=>q) λ_ _ _ q=>q
def lT.laid(x:lT P w H h)(k:∀b u,h.get? b=some u->h'.get? b=some u)(hp:h.objs.size<=a)(new:fZ P w (cw H a o) h' a o):lT P w (cw H a o) h':=λb u e=>by
 have hn:=x.fresh hp;by_cases hb:b=a
 ·subst hb;rw[aD]at e;cases e;exact new
 ·rw[aI hb]at e;exact(x b u e).w5 (λc v _ q=>k c v q) (λc q=>by rw[aI (bU q hn)];exact q) (λc xs q=>by rw[aI (bU q hn)];exact q) λc ob v q=>by rw[aI (bU q hn)];exact q
end
def Rd.ok(r:Rd H a u)(x:lT P w H h):fZ P w H h a u:=by
 rcases r with r | ⟨o,r⟩
 ·exact x a u r
 ·obtain⟨_,q⟩:=x a _ r;exact q
def Mut:Option HO->Prop
 | some (.lst _)=>True
 | some (.dK _)=>True
 | some (.dT _)=>True
 | some (.set _ _)=>True
 | some (.oX _ _ _)=>True
 | some (.ext _)=>True
 | _=>False
section
variable {P:Program} {w:World} {H:Hp} {h h':Heap} {x e:Addr} {o':HO}
def lT.write(ok:lT P w H h)(mu:Mut (H x))(he:e=x\/H e=some (.own x))(k:∀b u,b≠e->h.get? b=some u->h'.get? b=some u)(WN:∃u,h'.get? e=some u)
  (new:fZ P w (cw H x o') h' x o'):lT P w (cw H x o') h':=λb u q=>by
 have Xm:∀c y,H c=some (.own y)->c≠x:=λc y r z=>by subst z;rw[r]at mu;exact mu
 have abS:∀c xs,H c=some (.ay xs)->c≠x:=λc xs r z=>by subst z;rw[r]at mu;exact mu
 have abT:∀c ob v,H c=some (.oY ob v)->c≠x:=λc ob v r z=>by subst z;rw[r]at mu;exact mu
 by_cases hb:b=x
 ·subst hb;rw[aD]at q;cases q;exact new
 ·rw[aI hb]at q;by_cases SU:b=e
  ·have q':H b=some (.own x):=by
    rcases he with z | z
    ·exact absurd (SU.trans z) hb
    ·rw[SU];exact z
   rw[q]at q';cases q';obtain⟨v,hv⟩:=WN;exact⟨v,by rw[SU];exact hv⟩
  ·refine(ok b u q).w5 (λc v hc r=>k c v ?_ r) (λc r=>by rw[aI (Xm c b r)];exact r) (λc xs r=>by rw[aI (abS c xs r)];exact r) λc ob v r=>by rw[aI (abT c ob v r)];exact r
   rcases hc with rfl | hc
   ·exact SU
   ·rintro rfl
    rcases he with z | z
    ·exact Xm c b hc z
    ·rw[hc]at z;cases z;exact hb rfl
end
structure Un (fs ex:List Addr) (H H':Hp) (h h':Heap):Prop where
 keep:∀b o,h.get? b=some o->H b=none->b∉fs->b∉ex->h'.get? b=some o
 slot:∀b o,h.get? b=some o->H b=none->b∈fs->b∉ex->∃sl,h'.get? b=some {o with slots:=sl}
 free:∀b o,h.get? b=some o->H b=none->b∉ex->H' b=none
 there:∀b o,h.get? b=some o->b∉ex->∃o',h'.get? b=some o'
 tups:∀b xs,H b=some (.ay xs)->H' b=some (.ay xs)
 frzs:∀b o u,H b=some (.oY o u)->H' b=some (.oY o u)
 tbls:∀b q,H b=some (.CF q)->H' b=some (.CF q)
section
variable {fs SV ex ex':List Addr} {H H1 H2:Hp} {h h1 h2 h':Heap} {a x e:Addr} {o:HO}
def Un.any(u:Un fs ex H H1 h h1)(q:h.get? b=some ob)(n:H b=none)(hx:b∉ex):∃sl,h1.get? b=some {ob with slots:=sl}:=by
 by_cases hb:b∈fs
 ·exact u.slot b ob q n hb hx
 ·exact⟨ob.slots,u.keep b ob q n hb hx⟩
def Un.trans(a:Un fs ex H H1 h h1)(b:Un fs ex H1 H2 h1 h2):Un fs ex H H2 h h2 where
 keep:=λc ob q n hc hx=>b.keep c ob (a.keep c ob q n hc hx) (a.free c ob q n hx) hc hx
 slot:=λc ob q n hc hx=>by
  obtain⟨sl,e1⟩:=a.slot c ob q n hc hx;obtain⟨Xn,e2⟩:=b.slot c _ e1 (a.free c ob q n hx) hc hx;exact⟨Xn,e2⟩
 free:=λc ob q n hx=>by
  obtain⟨o',e1⟩:=a.there c ob q hx;exact b.free c o' e1 (a.free c ob q n hx) hx
 there:=λc ob q hx=>by
  obtain⟨o',e1⟩:=a.there c ob q hx;exact b.there c o' e1 hx
 tups:=λc xs q=>b.tups c xs (a.tups c xs q)
 frzs:=λc ob xs q=>b.frzs c ob xs (a.frzs c ob xs q)
 tbls:=λc q e=>b.tbls c q (a.tbls c q e)
def Un.kept(k:∀b u,h.get? b=some u->h'.get? b=some u):Un fs ex H H h h' :=
 ⟨λb ob q _ _ _=>k b ob q,λb ob q _ _ _=>⟨ob.slots,k b ob q⟩,λ_ _ _ n _=>n,λb ob q _=>⟨ob,k b ob q⟩,λ_ _ q=>q,λ_ _ _ q=>q,λ_ _ q=>q⟩
def Un.refl:Un fs ex H H h h:=Un.kept λ_ _ q=>q
def Un.laid(k:∀b u,h.get? b=some u->h'.get? b=some u)(hp:h.objs.size<=a)(hn:H a=none):Un fs ex H (cw H a o) h h' where
 keep:=λb u q _ _ _=>k b u q
 slot:=λb u q _ _ _=>⟨u.slots,k b u q⟩
 free:=λb u q n _=>by rw[aI (bG (bY (aV q) hp))];exact n
 there:=λb u q _=>⟨u,k b u q⟩
 tups:=λb xs q=>by rw[aI (bU q hn)];exact q
 frzs:=λb u xs q=>by rw[aI (bU q hn)];exact q
 tbls:=λb ps q=>by rw[aI (bU q hn)];exact q
def Un.write(mu:Mut (H x))(he:e=x\/H e=some (.own x))(k:∀b u,b≠e->h.get? b=some u->h'.get? b=some u)(WN:∃u,h'.get? e=some u):Un fs ex H (cw H x o) h h':=by
 have hx:∀b,H b=none->b≠x:=λb n z=>by subst z;rw[n]at mu;exact mu
 have hb:∀b,H b=none->b≠e:=λb n z=>by
  subst z;rcases he with r | r
  ·exact hx b n r
  ·rw[n]at r;cases r
 have hm:∀b u,H b=some u->¬Mut (some u)->b≠x:=λb u q nm z=>by subst z;rw[q]at mu;exact nm mu
 refine⟨λb u q n _ _=>k b u (hb b n) q,λb u q n _ _=>⟨u.slots,k b u (hb b n) q⟩,λb u q n _=>by rw[aI (hx b n)];exact n,λb u q _=>?_,
  λb xs q=>by rw[aI (hm b _ q λz=>z)];exact q,λb u xs q=>by rw[aI (hm b _ q λz=>z)];exact q,λb ps q=>by rw[aI (hm b _ q λz=>z)];exact q⟩
 by_cases SU:b=e
 ·subst SU;exact WN
 ·exact⟨u,k b u SU q⟩
end
noncomputable def trk(h:Heap)(H:Hp):List Addr:=(List.range h.objs.size).filter λa=>(H a).isSome
def zu(h:Heap)(H:Hp):Heap:=W.hideAll h (trk h H)
def GU(h:Heap)(H:Hp):(zu h H).objs.size=h.objs.size:=W.hideAll_size _ _
def hidT_get(e:h.get? b=some o)(n:H b=none):(zu h H).get? b=some o :=
 W.hideAll_get _ e λhm=>by
  have q:=(cD.mp hm).2;rw[n]at q;simp at q
def of_hidT(e:(zu h H).get? b=some o):h.get? b=some o/\H b=none:=by
 have e':=W.of_hideAll (trk h H) e;refine⟨e',?_⟩;cases q:H b with
 | none=>rfl
 | some x =>
  have hm:b∈trk h H:=cD.mpr ⟨ee.mpr (aV e'),by simp[q]⟩
  have z:(zu h H).get? b=none:=W.hideAll_none (trk h H) hm;rw[z]at e;cases e
structure Mod (K:W.Frag) (mg:Str->Option Value) (base:Heap):Prop where
 kin:K.In base
 glob:base.Ns mainGlobals mg
 blt:∃mb,base.Ns builtinsNs mb/\∀x:Str,x≠"__name__"->mb x=bootBuiltins x
 nolimit:base.NoLimit
structure Cx where
 prog:Program
 w:World
 K:W.Frag
 mg:Str->Option Value
 base:Heap
 A:Around
 N:List Str
 s₀:Shared
 aa:Hp
 env:Env
 aA:List Env
 stack:List Env
 ex:List Addr
 fn:Str->Bool
 calm:Bool
 pn:List (Addr×Obj)
 xe:Value->Shared->Prop
noncomputable def oq(l:List Env):List Addr:=l.filterMap (·.frame)
abbrev Cx.fs(X:Cx):List Addr:=oq X.aA
def Xo(sc:Scope)(x:Str):Prop:=sc.names.lookup x=some .local\/sc.names.lookup x=some .cell\/sc.names.lookup x=some .free
def QL(sc:Scope)(x:Str):Prop:=sc.names.lookup x=some .local\/sc.names.lookup x=some .cell
def abU(env:Env)(h:Heap)(m:Str->Option Value)(x:Str)(u:Value):Prop :=
 (env.kindOf x=some .local/\m x=some u)\/((env.kindOf x=some .cell\/env.kindOf x=some .free)/\∃c,env.cells.lookup x=some c/\h.IsCell c (some u))
def zw(x:Str):Str:=x++".<locals>."++"<lambda>"
def rL(K:W.Frag)(H:Hp):Prop:=∀x∈dq,∀c T,W.tabIn K x=some (c,T)->H T=some (.CF (zw x))
structure Cx.Ok (X:Cx):Prop where
 mod:Mod X.K X.mg X.base
 kind:X.env.scope.kind=.function
 glob:X.env.globals=mainGlobals
 blt:X.env.builtins=builtinsNs
 above:X.s₀.heap.objs.size<=X.env.locals
 inj:∀x y c,X.env.cells.lookup x=some c->X.env.cells.lookup y=some c->x=y
 has:∀x,(X.env.kindOf x=some .cell\/X.env.kindOf x=some .free)->∃c,X.env.cells.lookup x=some c
 cab:∀x c,X.fn x=true->X.env.cells.lookup x=some c->X.s₀.heap.objs.size<=c
 hd:X.calm=true->X.A.handled=none
 frames:X.A.frames=some X.stack
 stk:X.stack=X.aA\/(X.stack=X.env::X.aA/\X.env.frame=some X.env.locals)
 exf:∀b∈X.ex,b≠X.env.locals/\∀x c,X.env.cells.lookup x=some c->c≠b
 bs:∀b o,X.base.get? b=some o->X.s₀.heap.get? b=some o/\X.aa b=none
 bsz:X.base.objs.size<=X.s₀.heap.objs.size
 noex:∀b o,X.base.get? b=some o->b∉X.ex
 exfs:∀b∈X.ex,b∉X.fs
 funs:X.s₀.heap.FunFrames X.base X.aA
 frf:∀b∈X.fs,X.aa b=none
 tabs:rL X.K X.aa
structure Inv (X:Cx) (ae:List (Addr×Obj)) (σ:List (Option V)) (H:Hp) (s:Shared):Prop where
 ok:X.Ok
 os:s.os=X.s₀.os
 bare:AllBare s.gens
 base:Un X.fs X.ex X.aa H X.s₀.heap s.heap
 loc:∃m,s.heap.Ns X.env.locals m/\∀(i:Nat) (x:Str) (v:V),X.N[i]?=some x->σ[i]?=some (some v)->Xo X.env.scope x->∃u,RelV v u/\abU X.env s.heap m x u
 cell:∀x c,X.env.cells.lookup x=some c->∃v,s.heap.IsCell c v
 free:H X.env.locals=none
 freeC:∀x c,X.env.cells.lookup x=some c->H c=none
 pin:∀p∈X.pn++ae,s.heap.get? p.1=some p.2/\H p.1=none/\p.1≠X.env.locals/\p.1∉X.fs/\∀v,p.2.data≠.cell v
 hok:lT X.prog X.w H s.heap
 len:σ.length=X.N.length
section
variable {X:Cx} {ae:List (Addr×Obj)} {σ:List (Option V)} {H H':Hp} {s:Shared} {h':Heap}
def Cx.Ok.abV(ok:X.Ok)(e:X.base.get? b=some o):b∉X.fs:=λhb=>by
 have:=(ok.funs.mem hb).1;rw[e]at this;cases this
def Inv.bs(I:Inv X ae σ H s):∀b o,X.base.get? b=some o->s.heap.get? b=some o/\H b=none:=λb o e =>
 ⟨I.base.keep b o (I.ok.bs b o e).1 (I.ok.bs b o e).2 (I.ok.abV e) (I.ok.noex b o e),I.base.free b o (I.ok.bs b o e).1 (I.ok.bs b o e).2 (I.ok.noex b o e)⟩
def Inv.bk(I:Inv X ae σ H s):∀b o,X.base.get? b=some o->s.heap.get? b=some o:=λb o e=>(I.bs b o e).1
def Inv.mod(I:Inv X ae σ H s):Mod X.K X.mg X.base:=I.ok.mod
def Inv.rM(I:Inv X ae σ H s):X.K.In s.heap:=I.ok.mod.kin.keeps I.bk
def Inv.lt(I:Inv X ae σ H s):X.env.locals<s.heap.objs.size:=let ⟨_,hn,_⟩:=I.loc;hn.lt
def Inv.sz(I:Inv X ae σ H s):X.s₀.heap.objs.size<=s.heap.objs.size:=bE I.ok.above (dP I.lt)
def Inv.abW(I:Inv X ae σ H s){a:Addr}(h:s.heap.objs.size<=a):a∉X.fs:=λhb=>by
 obtain⟨_,o,ho,_⟩:=I.ok.funs.mem hb;exact absurd (bY (aV ho) (bE I.sz h)) (gE _)
def Inv.SW(I:Inv X ae σ H s):∀x c,X.env.cells.lookup x=some c->c≠X.env.locals:=λx c e z=>by
 obtain⟨v,o,ho,hd⟩:=I.cell x c e;obtain⟨m,⟨o',es,ep,nC,wZ,_⟩,_⟩:=I.loc;rw[z,nC]at ho;cases ho;rw[wZ]at hd;cases hd
def Inv.funs(I:Inv X ae σ H s):s.heap.FunFrames X.base X.aA:=by
 have all:∀l,(∀b∈oq l,b∈X.fs)->X.s₀.heap.FunFrames X.base l->s.heap.FunFrames X.base l:=by
  intro l;induction l with
  | nil=>intro _ _;trivial
  | cons env r ih =>
   intro hs hl;obtain⟨hk,⟨L,o,hf,hn,ho,hd⟩,hr⟩:=hl;have hL:=hs L (by unfold oq;rw[wu,hf];exact aN)
   obtain⟨sl,e⟩:=I.base.slot L o ho (I.ok.frf L hL) hL λz=>I.ok.exfs L z hL
   exact⟨hk,⟨L,_,hf,hn,e,hd⟩,ih (λb hb=>hs b (by unfold oq;rw[wu,hf];exact aK _ hb)) hr⟩
 exact all X.aA (λ_ hb=>hb) I.ok.funs
def Inv.stack(I:Inv X ae σ H s):s.heap.FunFrames X.base X.stack:=by
 rcases I.ok.stk with e | ⟨e,hf⟩
 ·rw[e];exact I.funs
 ·rw[e];obtain⟨m,hn,_⟩:=I.loc;refine .cons (by rw[I.ok.kind];decide) hf hn ?_ I.funs
  exact Heap.get?_none_of_le (bE I.ok.bsz I.ok.above)
def Inv.w6(I:Inv X ae σ H s):∀b∈oq X.stack,b∈X.env.locals::X.fs:=λb hb=>by
 rcases I.ok.stk with e | ⟨e,hf⟩
 ·rw[e]at hb;exact aK _ hb
 ·rw[e]at hb;unfold oq at hb;rw[wu,hf]at hb;exact hb
def Inv.w9(I:Inv X ae σ H s):∀b∈oq X.stack,H b=none:=λb hb=>by
 rcases aU.mp (I.w6 b hb)with e | hb
 ·rw[e];exact I.free
 ·obtain⟨_,o,ho,_⟩:=I.ok.funs.mem hb;exact I.base.free b o ho (I.ok.frf b hb) λz=>I.ok.exfs b z hb
def Inv.tabs(I:Inv X ae σ H s):rL X.K H:=λx hx c T e=>I.base.tbls T _ (I.ok.tabs x hx c T e)
def Inv.step{g':Array GenState}{t':Nat}{d':Drawn}{ch:List Addr}(I:Inv X ae σ H s)
  (QM:∀b∈ch,(b∈X.ex\/X.s₀.heap.objs.size<=b)/\b≠X.env.locals/\(∀x c,X.env.cells.lookup x=some c->c≠b)/\∀p∈X.pn++ae,p.1≠b)
  (keep:∀b o,b≠X.env.locals->b∉X.fs->b∉ch->s.heap.get? b=some o->H b=none->h'.get? b=some o)
  (slot:∀b o,b≠X.env.locals->b∈X.fs->b∉ch->s.heap.get? b=some o->H b=none->∃sl,h'.get? b=some {o with slots:=sl}) (free:∀b o,b∉ch->s.heap.get? b=some o->H b=none->H' b=none)
  (there:∀b o,b∉ch->s.heap.get? b=some o->∃o',h'.get? b=some o')
  (tups:∀b xs,H b=some (.ay xs)->H' b=some (.ay xs)) (frzs:∀b o u,H b=some (.oY o u)->H' b=some (.oY o u)) (tbls:∀b q,H b=some (.CF q)->H' b=some (.CF q))
  (ns:∀m,s.heap.Ns X.env.locals m->h'.Ns X.env.locals m) (hok:lT X.prog X.w H' h') (hg:AllBare g') :
  Inv X ae σ H' {s with heap:=h',gens:=g',drawn:=d',toks:=t'}:=by
 have neL:∀b o,X.s₀.heap.get? b=some o->b≠X.env.locals:=λb o e=>bG (bY (aV e) I.ok.above)
 have neC:∀b o,X.s₀.heap.get? b=some o->b∉X.ex->b∉ch:=λb o e hx hb=>by
  rcases(QM b hb).1 with z | z
  ·exact hx z
  ·exact absurd (bY (aV e) z) (gE _)
 have cellK:∀x c,X.env.cells.lookup x=some c->∀v,s.heap.IsCell c v->h'.IsCell c v:=by
  rintro x c e v ⟨o,ho,hd⟩
  have Xp:c∉ch:=by grind
  by_cases hc:c∈X.fs
  ·obtain⟨sl,q⟩:=slot c o (I.SW x c e) hc Xp ho (I.freeC x c e);exact⟨_,q,hd⟩
  ·exact⟨o,keep c o (I.SW x c e) hc Xp ho (I.freeC x c e),hd⟩
 refine⟨I.ok,I.os,hg,⟨λb o e n hb hx=>?_,λb o e n hb hx=>?_,λb o e n hx=>?_,λb o e hx=>?_,λb xs e=>tups b xs (I.base.tups b xs e),λb o xs e=>frzs b o xs (I.base.frzs b o xs e),λb ps e=>?_⟩,?_,λx c e=>?_,?_,λx c e=>?_,λp hp=>?_,hok,I.len⟩
 ·exact keep b o (neL b o e) hb (neC b o e hx) (I.base.keep b o e n hb hx) (I.base.free b o e n hx)
 ·obtain⟨sl,e1⟩:=I.base.slot b o e n hb hx;obtain⟨Xn,e2⟩:=slot b _ (neL b o e) hb (neC b o e hx) e1 (I.base.free b o e n hx);exact⟨Xn,e2⟩
 ·obtain⟨o',e1⟩:=I.base.there b o e hx;exact free b o' (neC b o e hx) e1 (I.base.free b o e n hx)
 ·obtain⟨o',e1⟩:=I.base.there b o e hx;exact there b o' (neC b o e hx) e1
 ·exact tbls b ps (I.base.tbls b ps e)
 ·obtain⟨m,hn,hl⟩:=I.loc;refine⟨m,ns m hn,λi x v e1 e2 e3=>?_⟩
  obtain⟨u,r,l⟩:=hl i x v e1 e2 e3;refine⟨u,r,?_⟩;rcases l with l | ⟨k,c,e,z⟩
  ·exact .inl l
  ·exact .inr ⟨k,c,e,cellK x c e _ z⟩
 ·obtain⟨v,z⟩:=I.cell x c e;exact⟨v,cellK x c e v z⟩
 ·obtain⟨m,⟨o,_,_,ho,_⟩,_⟩:=I.loc;exact free _ o (λz=>(QM _ z).2.1 rfl) ho I.free
 ·obtain⟨v,o,ho,hd⟩:=I.cell x c e;exact free c o (λz=>(QM c z).2.2.1 x c e rfl) ho (I.freeC x c e)
 ·obtain⟨e,n,ne,nf,d⟩:=I.pin p hp;have Xp:p.1∉ch:=by grind
  exact⟨keep p.1 p.2 ne nf Xp e n,free p.1 p.2 Xp e n,ne,nf,d⟩
def Inv.un{t':Nat}(I:Inv X ae σ H s)(u:Un X.fs [] H H' s.heap h')(hok:lT X.prog X.w H' h'):Inv X ae σ H' {s with heap:=h',toks:=t'}:=by
 obtain⟨m,⟨o,es,ep,ho,r⟩,_⟩:=id I.loc;obtain⟨sl,hL⟩:=u.any ho I.free (by simp)
 exact I.step (ch:=[]) (λ_ z=>nomatch z) (λb o _ hb _ e n=>u.keep b o e n hb (by simp)) (λb o _ hb _ e n=>u.slot b o e n hb (by simp)) (λb o _ e n=>u.free b o e n (by simp)) (λb o _ e=>u.there b o e (by simp)) u.tups u.frzs u.tbls (λm' hm=>by
  obtain⟨o',SX,ep',nC,r'⟩:=hm;rw[ho]at nC;cases nC;exact⟨_,SX,ep',hL,r'⟩) hok I.bare
def Inv.call{g':Array GenState}{t':Nat}{d':Drawn}{ch:List Addr}(I:Inv X ae σ H s)(u:Un (oq X.stack) ch H H' s.heap h')(hok:lT X.prog X.w H' h')(hg:AllBare g')
  (QM:∀b∈ch,(b∈X.ex\/X.s₀.heap.objs.size<=b)/\b≠X.env.locals/\(∀x c,X.env.cells.lookup x=some c->c≠b)/\∀p∈X.pn++ae,p.1≠b) :
  Inv X ae σ H' {s with heap:=h',gens:=g',drawn:=d',toks:=t'}:=by
 obtain⟨m,⟨o,es,ep,ho,r⟩,_⟩:=id I.loc;obtain⟨sl,hL⟩:=u.any ho I.free λz=>(QM _ z).2.1 rfl
 exact I.step QM (λb o hL hb hc e n=>u.keep b o e n (λz=>(aU.mp (I.w6 b z)).elim hL hb) hc) (λb o _ _ hc e n=>u.any e n hc) (λb o hc e n=>u.free b o e n hc) (λb o hc e=>u.there b o e hc) u.tups u.frzs u.tbls (λm' hm=>by
  obtain⟨o',SX,ep',nC,r'⟩:=hm;rw[ho]at nC;cases nC;exact⟨_,SX,ep',hL,r'⟩) hok hg
def Inv.turned{t':Nat}(I:Inv X ae σ H s)(k:∀b o,b≠it->s.heap.get? b=some o->h'.get? b=some o)(hn:H it=none)(hL:it≠X.env.locals)
  (h1:it∈X.ex\/X.s₀.heap.objs.size<=it) (h2:∀x c,X.env.cells.lookup x=some c->c≠it) (h3:∀p∈X.pn++ae,p.1≠it):Inv X ae σ H {s with heap:=h',toks:=t'}:=by
 have Xq:∀b u,H b=some u->b≠it:=λb u e z=>by rw[z,hn]at e;cases e
 refine I.step (ch:=[it]) (λb hb=>?_) (λb o _ _ hc e _=>k b o (λz=>hc (by simp[z])) e) (λb o _ _ hc e _=>⟨o.slots,k b o (λz=>hc (by simp[z])) e⟩) (λ_ _ _ _ n=>n)
  (λb o hc e=>⟨o,k b o (λz=>hc (by simp[z])) e⟩) (λ_ _ e=>e) (λ_ _ _ e=>e) (λ_ _ e=>e) (λm hm=>?_) (λb u e=>?_) I.bare
 ·have e:b=it:=by simpa using hb
  subst e;exact⟨h1,hL,h2,h3⟩
 ·obtain⟨o,es,ep,ho,r⟩:=hm;exact⟨o,es,ep,k _ o (dn hL) ho,r⟩
 ·refine(I.hok b u e).w5 (λc v hc q=>k c v ?_ q) (λ_ q=>q) (λ_ _ q=>q) λ_ _ _ q=>q
  rcases hc with z | z
  ·rw[z];exact Xq b u e
  ·exact Xq c _ z
def Inv.tok(I:Inv X ae σ H s)(t:Nat):Inv X ae σ H {s with toks:=t}:=I.un Un.refl I.hok
def Inv.kept(I:Inv X ae σ H s)(k:∀b u,s.heap.get? b=some u->h'.get? b=some u):Inv X ae σ H {s with heap:=h',toks:=t'}:=I.un (Un.kept k) (I.hok.kept k)
def Inv.laid{a:Addr}{o:HO}{t':Nat}(I:Inv X ae σ H s)(k:∀b u,s.heap.get? b=some u->h'.get? b=some u)(hp:s.heap.objs.size<=a)(new:fZ X.prog X.w (cw H a o) h' a o) :
  Inv X ae σ (cw H a o) {s with heap:=h',toks:=t'}:=I.un (Un.laid k hp (I.hok.fresh hp)) (I.hok.laid k hp new)
def Inv.write(I:Inv X ae σ H s)(mu:Mut (H x))(he:e=x\/H e=some (.own x))(k:∀b u,b≠e->s.heap.get? b=some u->h'.get? b=some u)(WN:∃u,h'.get? e=some u)
  (new:fZ X.prog X.w (cw H x o) h' x o):Inv X ae σ (cw H x o) {s with heap:=h',toks:=t'}:=I.un (Un.write mu he k WN) (I.hok.write mu he k WN new)
def Inv.mx(I:Inv X ae σ H s)(h:∀p∈Xr,s.heap.get? p.1=some p.2/\H p.1=none/\p.1≠X.env.locals/\p.1∉X.fs/\∀v,p.2.data≠.cell v):Inv X Xr σ H s :=
 ⟨I.ok,I.os,I.bare,I.base,I.loc,I.cell,I.free,I.freeC,λp hp=>(bZ.mp hp).elim (λz=>I.pin p (iB _ z)) (h p),I.hok,I.len⟩
def zA{N:List Str}(hN:N.Nodup){i j:Nat}(a:N[i]?=some x)(b:N[j]?=some x):i=j:=by
 obtain⟨h1,e1⟩:=cf.mp a;obtain⟨h2,e2⟩:=cf.mp b;exact(List.getElem_inj hN).mp (e1.trans e2.symm)
def store_ok2{M:Model}{A:Around}{E:Value->Shared->Prop}{i:Nat}{v:V}{u:Value}{Q:Unit->Shared->Prop}(I:Inv X ae σ H s)(hN:X.N.Nodup)(hi:X.N[i]?=some x)(hx:QL X.env.scope x)(r:RelV v u)
  (h:∀s',Inv X ae (σ.set i (some v)) H s'->(∃a,Heap.SameBut a s.heap s'.heap/\(a=X.env.locals\/X.env.cells.lookup x=some a))->Q () s') (hf:X.fn x=true\/X.env.scope.names.lookup x=some .local:=by first | exact .inl rfl | exact .inr rfl | assumption):wpAny M A (storeName X.env x u) Q E s:=by
 obtain⟨m,hn,hl⟩:=id I.loc;have abY:(X.env.scope.kind==.class || (X.env.scope.kind==.module&&X.env.locals != X.env.globals))=false:=by rw[I.ok.kind];rfl
 have Xs:i<σ.length:=by rw[I.len];exact(cf.mp hi).1
 have SW:=I.SW;have EI:∀{a:Addr} {h':Heap},(∃o,s.heap.get? a=some o/\H a=none)->Heap.SameBut a s.heap h'->lT X.prog X.w H h':=λ{a h'} ha hs b ob e=>by
  obtain⟨_,_,zB⟩:=ha;refine(I.hok b ob e).w5 (λc w' hc q=>(hs.2 c ?_).trans q) (λ_ q=>q) (λ_ _ q=>q) λ_ _ _ q=>q
  rintro rfl
  rcases hc with rfl | hc
  ·grind
  ·grind
 rcases hx with hk | hk
 ·refine wpAny_storeName_local hk hn (λh' Xu hs=>?_) abY
  obtain⟨oL,_,_,QN,_⟩:=id hn;refine h _ ⟨I.ok,I.os,I.bare,⟨λb o e n hb hx=>?_,λb o e n hb hx=>?_,I.base.free,λb o e hx=>?_,I.base.tups,I.base.frzs,I.base.tbls⟩,⟨_,Xu,λj y v' e1 e2 e3=>?_⟩,λy c e=>?_,I.free,I.freeC,λp hp=>?_,EI ⟨oL,QN,I.free⟩ hs,by simpa using I.len⟩ ⟨_,hs,.inl rfl⟩
  ·exact(hs.2 b (bG (bY (aV e) I.ok.above))).trans (I.base.keep b o e n hb hx)
  ·obtain⟨sl,e1⟩:=I.base.slot b o e n hb hx;exact⟨sl,(hs.2 b (bG (bY (aV e) I.ok.above))).trans e1⟩
  ·obtain⟨o',e1⟩:=I.base.there b o e hx;exact⟨o',(hs.2 b (bG (bY (aV e) I.ok.above))).trans e1⟩
  ·by_cases hj:j=i
   ·subst hj;rw[hi]at e1;cases e1;rw[nJ Xs]at e2;cases e2;exact⟨u,r,.inl ⟨hk,by simp⟩⟩
   ·rw[j4 (dn hj)]at e2;obtain⟨u',r',q⟩:=hl j y v' e1 e2 e3;refine⟨u',r',?_⟩;rcases q with⟨k,e⟩ | ⟨k,c,e,z⟩
    ·refine .inl ⟨k,?_⟩;have:y≠x:=λe=>hj (zA hN e1 (e▸hi))
     simp[this,e]
    ·exact .inr ⟨k,c,e,z.sameBut hs (SW y c e)⟩
  ·obtain⟨w',z⟩:=I.cell y c e;exact⟨w',z.sameBut hs (SW y c e)⟩
  ·obtain⟨e,n,ne,nf,d⟩:=I.pin p hp;exact⟨(hs.2 p.1 ne).trans e,n,ne,nf,d⟩
 ·have EJ:X.fn x=true:=by
   grind
  obtain⟨c,hc⟩:=I.ok.has x (.inl hk);obtain⟨w',z⟩:=I.cell x c hc;refine wpAny_storeName_cell I.ok.kind hk hc z (λh' EK hs=>?_)
  obtain⟨oc,hoc,agi⟩:=id z;refine h {s with heap:=h'} ⟨I.ok,I.os,I.bare,⟨λb o e n hb hx=>?_,λb o e n hb hx=>?_,I.base.free,λb o e hx=>?_,I.base.tups,I.base.frzs,I.base.tbls⟩,⟨m,hn.sameBut hs (dn (SW x c hc)),λj y v' e1 e2 e3=>?_⟩,λy c' e=>?_,I.free,I.freeC,λp hp=>?_,EI ⟨oc,hoc,I.freeC x c hc⟩ hs,by simpa using I.len⟩ ⟨c,hs,.inr hc⟩
  ·exact(hs.2 b (bG (bY (aV e) (I.ok.cab x c EJ hc)))).trans (I.base.keep b o e n hb hx)
  ·obtain⟨sl,e1⟩:=I.base.slot b o e n hb hx;exact⟨sl,(hs.2 b (bG (bY (aV e) (I.ok.cab x c EJ hc)))).trans e1⟩
  ·obtain⟨o',e1⟩:=I.base.there b o e hx;exact⟨o',(hs.2 b (bG (bY (aV e) (I.ok.cab x c EJ hc)))).trans e1⟩
  ·by_cases hj:j=i
   ·subst hj;rw[hi]at e1;cases e1;rw[nJ Xs]at e2;cases e2;exact⟨u,r,.inr ⟨.inl hk,c,hc,EK⟩⟩
   ·rw[j4 (dn hj)]at e2;obtain⟨u',r',q⟩:=hl j y v' e1 e2 e3;refine⟨u',r',?_⟩;rcases q with q | ⟨k,c',e,z'⟩
    ·exact .inl q
    ·refine .inr ⟨k,c',e,z'.sameBut hs ?_⟩
     rintro rfl
     exact hj (zA hN e1 (I.ok.inj _ _ _ e hc▸hi))
  ·by_cases hcc:c'=c
   ·grind
   ·obtain⟨w2,z2⟩:=I.cell y c' e;exact⟨w2,z2.sameBut hs hcc⟩
  ·obtain⟨e,n,ne,nf,d⟩:=I.pin p hp;refine⟨(hs.2 p.1 ?_).trans e,n,ne,nf,d⟩;intro q;rw[q,hoc]at e;have q':=cH e;exact d w' (by grind)
def rN(I:Inv X ae σ H s)(hN:X.N.Nodup)(hi:X.N[i]?=some x)(hx:QL X.env.scope x)(r:RelV v u)
  (h:∀s',Inv X ae (σ.set i (some v)) H s'->Q () s') (hf:X.fn x=true\/X.env.scope.names.lookup x=some .local:=by first | exact .inl rfl | exact .inr rfl | assumption):wpAny M A (storeName X.env x u) Q E s :=
 store_ok2 I hN hi hx r (λs' I' _=>h s' I') hf
def Inv.QO(I:Inv X ae σ H s)(ho:s'.os=s.os)(u:Un (oq X.stack) ch H H' s.heap s'.heap)(hok:lT X.prog X.w H' s'.heap)(hg:AllBare s'.gens)
  (QM:∀b∈ch,(b∈X.ex\/X.s₀.heap.objs.size<=b)/\b≠X.env.locals/\(∀x c,X.env.cells.lookup x=some c->c≠b)/\∀p∈X.pn++ae,p.1≠b):Inv X ae σ H' s':=by
 obtain⟨h',g',d',t',o'⟩:=s';have e:=ho;subst e;exact I.call u hok hg QM
end
abbrev XK:=Value->Option Addr->Hp->Prop
abbrev St:=List (Option V)
abbrev VK:=V->Hp->Prop
abbrev TE:=St->Hp->VK->Prop
abbrev TT:=St->Hp->(Bool->Hp->Prop)->Prop
abbrev TA:=St->Hp->(List V->Hp->Prop)->Prop
structure uu where
 nx:St->Hp->Prop
 rt:VK
 bk:St->Hp->Prop:=λ_ _=>False
 ct:St->Hp->Prop:=λ_ _=>False
abbrev TS:=uu->St->Hp->Prop
def EP(X:Cx)(ae:List (Addr×Obj))(σ:St)(Q:VK)(u:Value)(s':Shared):Prop:=∃v H',Inv X ae σ H' s'/\RelV v u/\Q v H'
def TP(X:Cx)(ae:List (Addr×Obj))(σ:St)(Q:Bool->Hp->Prop)(b:Bool)(s':Shared):Prop:=∃H',Inv X ae σ H' s'/\Q b H'
def AP(X:Cx)(ae:List (Addr×Obj))(σ:St)(Q:List V->Hp->Prop)(us:List Value)(s':Shared):Prop:=∃vs H',Inv X ae σ H' s'/\Vals vs us/\Q vs H'
def SP(X:Cx)(ae:List (Addr×Obj))(D:uu)(f:Flow)(s':Shared):Prop :=
 match f with
 | .next=>∃bH H',Inv X ae bH H' s'/\D.nx bH H'
 | .brk=>∃bH H',Inv X ae bH H' s'/\D.bk bH H'
 | .cont=>∃bH H',Inv X ae bH H' s'/\D.ct bH H'
 | .ret u=>∃v bH H',Inv X ae bH H' s'/\RelV v u/\D.rt v H'
def PE(X:Cx)(e:Expr)(t:TE):Prop :=
 ∀(ae:List (Addr×Obj)) (s:Shared) (σ:St) (H:Hp) (Q:VK),Inv X ae σ H s->t σ H Q->wpAny (model X.prog X.w) X.A (eval e X.env) (EP X ae σ Q) X.xe s
def PT(X:Cx)(e:Expr)(t:TT):Prop :=
 ∀(ae:List (Addr×Obj)) (s:Shared) (σ:St) (H:Hp) (Q:Bool->Hp->Prop),Inv X ae σ H s->t σ H Q->wpAny (model X.prog X.w) X.A (isTrue e X.env (eval e X.env)) (TP X ae σ Q) X.xe s
def PW(X:Cx)(e:Expr)(t:TT):Prop :=
 ∀(jK:Sem Value) (ae:List (Addr×Obj)) (s:Shared) (σ:St) (H:Hp) (Q:Bool->Hp->Prop),Inv X ae σ H s->t σ H Q->wpAny (model X.prog X.w) X.A (isTrue e X.env jK) (TP X ae σ Q) X.xe s
def PW.pt(h:PW X e t):PT X e t:=h _
def PA(X:Cx)(es:List Expr)(t:TA):Prop :=
 ∀(pos:Pos) (ae:List (Addr×Obj)) (s:Shared) (σ:St) (H:Hp) (Q:List V->Hp->Prop),Inv X ae σ H s->t σ H Q->wpAny (model X.prog X.w) X.A (spliced (backTo pos (starEach es X.env))) (AP X ae σ Q) X.xe s
def PS(X:Cx)(st:Stmt)(t:TS):Prop :=
 ∀(ae:List (Addr×Obj)) (s:Shared) (σ:St) (H:Hp) (D:uu),Inv X ae σ H s->t D σ H->wpAny (model X.prog X.w) X.A (exec st X.env) (SP X ae D) X.xe s
def PSs(X:Cx)(st:List Stmt)(t:TS):Prop :=
 ∀(ae:List (Addr×Obj)) (s:Shared) (σ:St) (H:Hp) (D:uu),Inv X ae σ H s->t D σ H->wpAny (model X.prog X.w) X.A (execs st X.env) (SP X ae D) X.xe s
def thn{α:Type}{t:Sem α}{Q Q':α->Shared->Prop}{M:Model}{A:Around}{E:Value->Shared->Prop}(h:wpAny M A t Q E s)(hQ:∀a s,Q a s->Q' a s):wpAny M A t Q' E s:=js h hQ λ_ _ x=>x
section
variable {X:Cx}
def bin{a b:Expr}{ta tb:TE}(ha:PE X a ta)(hb:PE X b tb){ae:List (Addr×Obj)}{s:Shared}{σ:St}{H:Hp}{R:V->V->Hp->Prop}(I:Inv X ae σ H s)(h:ta σ H λx H1=>tb σ H1 λy H2=>R x y H2)
  {α:Type} {Q:α->Shared->Prop} {f:Value->Value->Sem α}
  (hf:∀v u s2 x y H2,Inv X ae σ H2 s2->RelV x v->RelV y u->R x y H2->wpAny (model X.prog X.w) X.A (f v u) Q X.xe s2) :
  wpAny (model X.prog X.w) X.A (eval a X.env) (λv s₁=>wpAny (model X.prog X.w) X.A (eval b X.env) (λu zC=>wpAny (model X.prog X.w) X.A (f v u) Q X.xe zC) X.xe s₁) X.xe s:=by
 refine thn (ha ae s σ H _ I h) λv s1 ⟨x,H1,I1,r1,q1⟩=>?_
 refine thn (hb ae s1 σ H1 _ I1 q1) λu s2 ⟨y,H2,I2,r2,q2⟩=>?_
 exact hf v u s2 x y H2 I2 r1 r2 q2
def Nr(i:Nat):TE:=λσ H Q=>∃v,σ[i]?=some (some v)/\Q v H
def tC(v:V):TE:=λ_ H Q=>Q v H
def pe_var{i:Nat}{x:Str}{pos:Pos}(hN:X.N[i]?=some x)(hv:Xo X.env.scope x)(hd:(x==("__debug__":Str))=false:=by decide)(EH:(x==("__classdict__":Str))=false:=by decide):PE X (.Name x pos) (Nr i):=by
 intro ae s σ H Q I h;obtain⟨v,e,h⟩:=h;obtain⟨m,hn,hl⟩:=I.loc;obtain⟨u,r,l⟩:=hl i x v hN e hv;have fin:EP X ae σ Q u s:=⟨v,H,I,r,h⟩;rcases l with⟨hk,hm⟩ | ⟨hk,c,hc,ki⟩
 ·exact wpAny_Name (wpAny_loadName_local I.ok.kind hk hn hm fin) hd
 ·rcases hk with hk | hk
  ·exact wpAny_Name (wpAny_loadName_cell I.ok.kind hk hc ki fin) hd
  ·exact wpAny_Name (wpAny_loadName_free I.ok.kind hk hc ki fin EH) hd
def SY{i j pos}:PE X (.Constant (.int i) j pos) (tC (.int i)):=λ_ _ _ H _ I h=>wpAny_Constant_int ⟨.int i,H,I.tok _,⟨_,rfl⟩,h⟩
def Xv{b j pos}:PE X (.Constant (.bool b) j pos) (tC (.bl b)):=λ_ _ _ H _ I h=>Constant_bool ⟨.bl b,H,I,rfl,h⟩
def S2{j pos}:PE X (.Constant .none j pos) (tC .bQ):=λ_ _ _ H _ I h=>Constant_none ⟨.bQ,H,I,rfl,h⟩
def S3{x j pos}:PE X (.Constant (.str x) j pos) (tC (.str x)):=λ_ _ _ H _ I h=>Calls.Constant_str ⟨.str x,H,I.tok _,⟨_,rfl⟩,h⟩
def Gl(X:Cx)(x:Str):Prop:=X.env.kindOf x=some .globalImplicit
def ld_glob{E:Value->Shared->Prop}{ae:List (Addr×Obj)}{s:Shared}{σ:St}{H:Hp}{x:Str}{u:Value}{pos:Pos}{Q:Value->Shared->Prop}(I:Inv X ae σ H s)(hg:Gl X x)(hm:X.mg x=some u)(h:Q u s)
  (hd:(x==("__debug__":Str))=false:=by decide):wpAny (model X.prog X.w) X.A (eval (.Name x pos) X.env) Q E s :=
 Jk I.ok.kind hg (Calls.loadGlobal_global (by rw[I.ok.glob];exact I.mod.glob.keeps I.bk) hm h) hd
def ld_blt{E:Value->Shared->Prop}{ae:List (Addr×Obj)}{s:Shared}{σ:St}{H:Hp}{x:Str}{u:Value}{pos:Pos}{Q:Value->Shared->Prop}(I:Inv X ae σ H s)(hg:Gl X x)(hm:X.mg x=none)(hv:bootBuiltins x=some u)(h:Q u s)
  (hn:x≠"__name__":=by decide) (hd:(x==("__debug__":Str))=false:=by decide):wpAny (model X.prog X.w) X.A (eval (.Name x pos) X.env) Q E s:=by
 obtain⟨mb,h1,h2⟩:=I.mod.blt;exact Jk I.ok.kind hg (Calls.loadGlobal_builtin (by rw[I.ok.glob];exact I.mod.glob.keeps I.bk) hm (by rw[I.ok.blt];exact h1.keeps I.bk) ((h2 x hn).trans hv) h) hd
def EL(hg:Gl X x)(hm:X.mg x=some u)(r:RelV v u)(hd:(x==("__debug__":Str))=false:=by decide):PE X (.Name x pos) (tC v) :=
 λ_ _ _ H _ I h=>ld_glob I hg hm ⟨v,H,I,r,h⟩ hd
def Nt{x:Str}{v:V}{u:Value}{pos:Pos}(hg:Gl X x)(hm:X.mg x=none)(hv:bootBuiltins x=some u)(r:RelV v u)(hn:x≠"__name__":=by decide)(hd:(x==("__debug__":Str))=false:=by decide):PE X (.Name x pos) (tC v) :=
 λ_ _ _ H _ I h=>ld_blt I hg hm hv ⟨v,H,I,r,h⟩ hn hd
variable {a b:Expr} {ta tb:TE} {pos:Pos}
variable {tA tB':TT} {rest:List Expr}
def ab0(t u:TT):TT:=λσ H Q=>t σ H λc H1=>if c=true then u σ H1 Q else Q false H1
def tOr(t u:TT):TT:=λσ H Q=>t σ H λc H1=>if c=true then Q true H1 else u σ H1 Q
def ab1(t:TT):TT:=λσ H Q=>t σ H λc H1=>Q (!c) H1
def Nu(ha:PT X a tA):PW X (.BoolOp .And [a] pos) tA:=by
 intro wh ae s σ H Q I h;refine isTrue_and (thn (ha ae s σ H Q I h) λc s1 e=>?_)
 cases c with
 | true=>exact isTrue_and_nil e
 | false=>exact e
def S4(ha:PT X a tA):PW X (.BoolOp .Or [a] pos) tA:=by
 intro wh ae s σ H Q I h;refine isTrue_or (thn (ha ae s σ H Q I h) λc s1 e=>?_)
 cases c with
 | false=>exact isTrue_or_nil e
 | true=>exact e
def S5(ha:PT X a tA)(hb:PW X (.BoolOp .And (b::rest) pos) tB'):PW X (.BoolOp .And (a::b::rest) pos) (ab0 tA tB'):=by
 intro wh ae s σ H Q I h;refine isTrue_and (thn (ha ae s σ H _ I h) λc s1 ⟨H1,I1,q1⟩=>?_)
 cases c with
 | true=>exact hb wh ae s1 σ H1 Q I1 q1
 | false=>exact⟨H1,I1,q1⟩
def Xw(ha:PT X a tA)(hb:PW X (.BoolOp .Or (b::rest) pos) tB'):PW X (.BoolOp .Or (a::b::rest) pos) (tOr tA tB'):=by
 intro wh ae s σ H Q I h;refine isTrue_or (thn (ha ae s σ H _ I h) λc s1 ⟨H1,I1,q1⟩=>?_)
 cases c with
 | true=>exact⟨H1,I1,q1⟩
 | false=>exact hb wh ae s1 σ H1 Q I1 q1
def S6(ha:PT X a tA):PT X (.UnaryOp .Not a pos) (ab1 tA):=by
 intro ae s σ H Q I h;exact isTrue_not (ha ae s σ H (λc H1=>Q (!c) H1) I h)
def Xx(ta:TE):TE:=λσ H Q=>ta σ H λx H1=>∃c,x=.bl c/\Q (.bl (!c)) H1
def JE{op}(h:PE X a t):PE X (.BoolOp op [a] pos) t:=λae s σ H Q I hw=>BoolOp_one (h ae s σ H Q I hw)
def S7(ha:PE X a ta):PE X (.UnaryOp .Not a pos) (Xx ta):=by
 intro ae s σ H Q I h;refine UnaryOp_ (thn (ha ae s σ H _ I h) λv s1 ⟨x,H1,I1,r1,q1⟩=>?_)
 obtain⟨c,rfl,q1⟩:=q1;cases r1;exact not_of (lN ⟨.bl (!c),H1,I1,rfl,q1⟩)
def tIf(t:TT)(ta tb:TE):TE:=λσ H Q=>t σ H λc H1=>if c=true then ta σ H1 Q else tb σ H1 Q
def JF(hc:PT X c tA)(ha:PE X a ta)(hb:PE X b tb):PE X (.IfExp c a b pos) (tIf tA ta tb):=by
 intro ae s σ H Q I h;refine wpAny_IfExp (thn (hc ae s σ H _ I h) λd s1 ⟨H1,I1,q1⟩=>?_)
 cases d with
 | true=>exact ha ae s1 σ H1 Q I1 q1
 | false=>exact hb ae s1 σ H1 Q I1 q1
end
def xb(K:W.Frag)(H:Hp)(a:Addr)(xs:List V):Prop :=
 Rd H a (.lst xs) \/
  ∃(o:Obj) (aH:Array Value) (n:Nat),K.lookup a=some o/\o.cls=.type "list"/\o.dict=none/\o.data=.seq aH n/\aH.size<=sizeLine/\Vals xs aH.toList
def kJ.sq{K:W.Frag}{H:Hp}{a:Addr}{xs:List V}(h:kJ K H a xs):xb K H a xs:=by
 rcases h with h | ⟨aH,n,e,z,r⟩
 ·exact .inl h
 ·exact .inr ⟨_,aH.toArray,n,e,rfl,rfl,rfl,by grind,by grind⟩
noncomputable def ab2:Value->Option V
 | .none=>some .bQ
 | .bool b=>some (.bl b)
 | .int i _=>some (.int i)
 | .str x _=>some (.str x)
 | .bytes b _=>some (.WI b)
 | .float b _=>some (.flt b)
 | .ref a=>some (.ref a)
 | .type n=>some (.ty n)
 | _=>none
def RelV.abs(r:RelV x u):ab2 u=some x:=by
 cases x with
 | bQ=>cases r;rfl
 | bl _=>cases r;rfl
 | int _=>obtain⟨t,rfl⟩:=r;rfl
 | str _=>obtain⟨t,rfl⟩:=r;rfl
 | WI _=>obtain⟨t,rfl⟩:=r;rfl
 | flt _=>obtain⟨t,rfl⟩:=r;rfl
 | ref _=>cases r;rfl
 | ty _=>cases r;rfl
def RelV.inj(r:RelV x u)(q:RelV y u):x=y:=cH (r.abs.symm.trans q.abs)
theorem Vals.inj:∀{xs ys:List V} {us:List Value},Vals xs us->Vals ys us->xs=ys
 | _,_,_,.nil,.nil=>rfl
 | _,_,_,.cons r t,.cons r' t'=>by rw[r.inj r',Vals.inj t t']
section
variable {X:Cx} {ae:List (Addr×Obj)} {σ:St} {H:Hp} {s:Shared} {a:Addr} {xs ys:List V}
def ip.of{K:W.Frag}(h:H a=some (.ay xs)):ip K H a xs:=.inl (.inl h)
def Inv.list(I:Inv X ae σ H s)(h:xb X.K H a xs):∃aH:List Value,Vals xs aH/\PlainL s.heap a aH.toArray/\xs.length<=sizeLine:=by
 rcases h with h | ⟨o,aH,n,hk,hc,hd,hs,hz,r⟩
 ·obtain⟨z,aH,n,r,e⟩:=h.ok I.hok;exact⟨aH,r,⟨_,n,e,rfl,rfl,rfl⟩,z⟩
 ·refine⟨aH.toList,r,⟨o,n,I.rM a o hk,hc,hd,by simp_all⟩,?_⟩
  have e:=r.length;simp only[c6]at e
  lia
def Inv.tuple(I:Inv X ae σ H s)(h:ip X.K H a xs):∃aH:List Value,Vals xs aH/\IsTup s.heap a aH.toArray/\xs.length<=sizeLine:=by
 rcases h with h | ⟨o,aH,n,hk,hc,hs,hz,r⟩
 ·obtain⟨z,aH,r,p⟩:=h.ok I.hok;exact⟨aH,r,p,z⟩
 ·refine⟨aH.toList,r,⟨o,I.rM a o hk,hc,n,by simp_all⟩,?_⟩
  have e:=r.length;simp only[c6]at e
  lia
def Inv.my(I:Inv X ae σ H s)(h:xb X.K H a xs)(h':xb X.K H a ys):xs=ys:=by
 obtain⟨aH,r,⟨o,n,e,_,_,d⟩,_⟩:=I.list h;obtain⟨pU,r',⟨o',n',e',_,_,d'⟩,_⟩:=I.list h';rw[e]at e';cases e';rw[d]at d';injection d' with d1 _
 have:aH=pU:=by grind
 subst this;exact r.inj r'
def Inv.kK(I:Inv X ae σ H s)(h:ip X.K H a xs)(h':ip X.K H a ys):xs=ys:=by
 obtain⟨aH,r,⟨o,e,_,n,d⟩,_⟩:=I.tuple h;obtain⟨pU,r',⟨o',e',_,n',d'⟩,_⟩:=I.tuple h';rw[e]at e';cases e';rw[d]at d';injection d' with d1 _
 have:aH=pU:=by grind
 subst this;exact r.inj r'
end
section
variable {X:Cx} {st:Stmt} {rest:List Stmt} {t u:TS} {e:Expr} {te:TE} {pos:Pos}
def QP:TS:=λD σ H=>D.nx σ H
def ab3(t u:TS):TS:=λD σ H=>t {D with nx:=u D} σ H
def Nv:PSs X [] QP:=λ_ _ σ H _ I h=>wM ⟨σ,H,I,h⟩
def JG(h1:PS X st t)(h2:PSs X rest u):PSs X (st::rest) (ab3 t u):=by
 intro ae s σ H D I h;refine wpAny_execs_cons (thn (h1 ae s σ H {D with nx:=u D} I h) λf s1 q=>?_)
 cases f with
 | next =>
  obtain⟨bH,H',I',q⟩:=q;exact h2 ae s1 bH H' D I' q
 | ret v=>exact q
 | brk=>exact q
 | cont=>exact q
def Nw(h1:PS X st t):PSs X [st] t:=by
 intro ae s σ H D I h;refine wpAny_execs_cons (thn (h1 ae s σ H D I h) λf s1 q=>?_)
 cases f with
 | next=>exact wM q
 | ret v=>exact q
 | brk=>exact q
 | cont=>exact q
def S8:TS:=λD σ H=>D.bk σ H
def Xy:TS:=λD σ H=>D.ct σ H
def Nx:PS X (.Pass pos) QP:=λ_ _ σ H _ I h=>wpAny_Pass ⟨σ,H,I,h⟩
def JH:PS X (.Break pos) S8:=λ_ _ σ H _ I h=>wpAny_Break ⟨σ,H,I,h⟩
def zD:PS X (.Continue pos) Xy:=λ_ _ σ H _ I h=>wpAny_Continue ⟨σ,H,I,h⟩
def Inv.quiet{ae:List (Addr×Obj)}{σ:St}{H:Hp}{s:Shared}(I:Inv X ae σ H s):interactive X.env=false:=by simp[interactive,I.ok.kind]
def Xz(te:TE):TS:=λD σ H=>te σ H λ_ H1=>D.nx σ H1
def Ny(he:PE X e te)(hs:swapsWith e none pos.line X.env=pure false:=by rfl):PS X (.Expr e pos) (Xz te):=by
 intro ae s σ H D I h;exact wpAny_Expr_any (thn (he ae s σ H _ I h) (by rintro v s1 ⟨x,H1,I1,r1,q1⟩;exact⟨σ,H1,I1,q1⟩)) I.quiet hs
def ab4(te:TE):TS:=λD σ H=>te σ H D.rt
def S9(he:PE X e te):PS X (.Return (some e) pos) (ab4 te):=by
 intro ae s σ H D I h;exact wpAny_Return_some (thn (he ae s σ H _ I h) (by rintro v s1 ⟨x,H1,I1,r1,q1⟩;exact⟨x,σ,H1,I1,r1,q1⟩))
def XA:TS:=λD _ H=>D.rt .bQ H
def Nz:PS X (.Return none pos) XA:=λ_ _ σ H _ I h=>wpAny_Return_none ⟨.bQ,σ,H,I,rfl,h⟩
def ab5(c:TT)(t u:TS):TS:=λD σ H=>c σ H λb H1=>if b=true then t D σ H1 else u D σ H1
def XB(hc:PT X c tc)(ha:PSs X a t)(hb:PSs X b u):PS X (.If c a b pos) (ab5 tc t u):=by
 intro ae s σ H D I h;refine wpAny_If (thn (hc ae s σ H _ I h) λd s1 ⟨H1,I1,q1⟩=>?_)
 cases d with
 | true=>exact ha ae s1 σ H1 D I1 q1
 | false=>exact hb ae s1 σ H1 D I1 q1
end
abbrev TG:=V->St->Hp->(St->Hp->Prop)->Prop
abbrev Ta:=List V->St->Hp->(St->Hp->Prop)->Prop
def PG(X:Cx)(target:Expr)(t:TG):Prop :=
 ∀(ae:List (Addr×Obj)) (s:Shared) (σ:St) (H:Hp) (v:V) (u:Value) (Q:St->Hp->Prop),Inv X ae σ H s->RelV v u->t v σ H Q ->
  wpAny (model X.prog X.w) X.A (assign target X.env u) (λ_ s'=>∃bH H',Inv X ae bH H' s'/\Q bH H') X.xe s
def PGs(X:Cx)(ts:List Expr)(t:Ta):Prop :=
 ∀(ae:List (Addr×Obj)) (s:Shared) (σ:St) (H:Hp) (vs:List V) (us:List Value) (Q:St->Hp->Prop),Inv X ae σ H s->Vals vs us->t vs σ H Q ->
  wpAny (model X.prog X.w) X.A (assignInOrder ((assignEach ts X.env).map (·.2)) us) (λ_ s'=>∃bH H',Inv X ae bH H' s'/\Q bH H') X.xe s
abbrev JI:=V->V->V->Hp->(Hp->Prop)->Prop
def JJ(X:Cx)(t:JI):Prop :=
 ∀(ae:List (Addr×Obj)) (s:Shared) (σ:St) (H:Hp) (o i v:V) (ov iv u:Value) (Q:Hp->Prop),Inv X ae σ H s->RelV o ov->RelV i iv->RelV v u->t o i v H Q ->
  wpAny (model X.prog X.w) X.A (setItem ov iv u) (λ_ s'=>∃H',Inv X ae σ H' s'/\Q H') X.xe s
abbrev TIp:=V->V->Hp->VK->Prop
def PIp(X:Cx)(op:Operator)(t:TIp):Prop :=
 ∀(ae:List (Addr×Obj)) (s:Shared) (σ:St) (H:Hp) (x y:V) (v u:Value) (Q:VK),Inv X ae σ H s->RelV x v->RelV y u->t x y H Q ->
  wpAny (model X.prog X.w) X.A (inplaceOp op v u) (EP X ae σ Q) X.xe s
section
variable {X:Cx} {pos:Pos}
def gName(i:Nat):TG:=λv σ H Q=>Q (σ.set i (some v)) H
def NA(hN:X.N.Nodup)(hi:X.N[i]?=some x)(hx:QL X.env.scope x)(hf:X.fn x=true\/X.env.scope.names.lookup x=some .local:=by first | exact .inl rfl | exact .inr rfl | assumption):PG X (.Name x pos) (gName i):=by
 intro ae s σ H v u Q I r h;exact wpAny_assign_Name (rN I hN hi hx r (λs' I'=>⟨_,H,I',h⟩) hf)
def ab6:Ta:=λvs σ H Q=>vs=[]/\Q σ H
def XC(t:TG)(u:Ta):Ta:=λvs σ H Q=>∃v r,vs=v::r/\t v σ H λbH H'=>u r bH H' Q
def NB:PGs X [] ab6:=by
 intro ae s σ H vs us Q I r h;obtain⟨e,h⟩:=h;subst e;cases r;exact assignInOrder_nil ⟨σ,H,I,h⟩
def JK(h1:PG X e t)(h2:PGs X es u)
  (hs:(assignEach (e::es) X.env).map (·.2)=assign e X.env::(assignEach es X.env).map (·.2):=by rfl):PGs X (e::es) (XC t u):=by
 intro ae s σ H vs us Q I r h;obtain⟨v,vr,e1,h⟩:=h;subst e1;cases r with
 | cons r rr =>
  rw[hs];refine assignInOrder_cons (thn (h1 ae s σ H _ _ _ I r h) λ_ s1 ⟨jx,H1,I1,q1⟩=>?_)
  exact h2 ae s1 jx H1 _ _ Q I1 rr q1
def ab7(K:W.Frag)(n:Nat)(t:Ta):TG:=λv σ H Q=>∃a xs,v=.ref a/\ip K H a xs/\xs.length=n/\t xs σ H Q
def Tb{es:List Expr}{k:Nat}{t:Ta}{n:Nat}(hc:X.calm=true)(h:PGs X es t)
  (hn:(assignEach es X.env).length=n:=by rfl) (ui:(assignEach es X.env).findIdx? (·.1)=none:=by rfl):PG X (.Tuple es k pos) (ab7 X.K n t):=by
 intro ae s σ H v u Q I r hw;obtain⟨a,xs,e1,hq,hl,hw⟩:=hw;subst e1;cases r;obtain⟨aH,rv,ht,hz⟩:=I.tuple hq;refine assign_Tuple_tuple (I.ok.hd hc) ht (by simp[hn,<-hl,rv.length]) ui λh' hx=>?_
 have I1:=I.kept (t':=s.toks) λb o e=>hx b o (bG (aV e)) e
 exact h ae _ σ H xs _ Q I1 (by grind) hw
def ab8(to ti:TE)(t:JI):TG:=λv σ H Q=>to σ H λo H1=>ti σ H1 λi H2=>t o i v H2 λH3=>Q σ H3
def Tc(ho:PE X o to)(hi:PE X i ti)(hs:JJ X t)
  (ha:∀v,assign (.Subscript o i pos) X.env v=(do
   let ov <-holding [v] (eval o X.env)
   let iv <-holding [v,ov] (eval i X.env)
   standAt pos
   holding [v,ov,iv] (setItem ov iv v)
   release [v,ov,iv] []):=by intro _;rfl):PG X (.Subscript o i pos) (ab8 to ti t):=by
 intro ae s σ H v u Q I r h;rw[ha];refine af (eP (thn (ho ae s σ H _ I h) λov s1 ⟨x,H1,I1,r1,q1⟩=>?_))
 refine af (eP (thn (hi ae s1 σ H1 _ I1 q1) λiv s2 ⟨y,H2,I2,r2,q2⟩=>?_))
 refine af (wpAny_standAt (af (eP (thn (hs ae s2 σ H2 x y v ov iv u _ I2 r1 r2 r q2) λ_ s3 ⟨H3,I3,q3⟩=>?_))))
 exact wpAny_release ⟨σ,H3,I3,q3⟩
def NC(te:TE)(g:TG):TS:=λD σ H=>te σ H λx H1=>g x σ H1 D.nx
def JL(he:PE X e te)(hg:PG X tg g)(hs:swapsWithSole [tg] e pos.line X.env=pure false:=by rfl)(hw:swappedStores [tg] e X.env=pure none:=by rfl)
  (h1:(assignEach [tg] X.env).map (·.2)=[assign tg X.env]:=by rfl):PS X (.Assign [tg] e pos) (NC te g):=by
 intro ae s σ H D I h;refine wpAny_Assign_stores (thn (he ae s σ H _ I h) λv s1 ⟨x,H1,I1,r1,q1⟩=>?_) hs hw
 rw[h1];exact thn (hg ae s1 σ H1 x v _ I1 r1 q1) λ_ s2 q=>q
def Td(hN:X.N.Nodup)(hi:X.N[i]?=some x)(hx:QL X.env.scope x)(he:PE X e te)(hs:swapsWith e (some (.Name x uv)) pos.line X.env=pure false:=by rfl)(hf:X.fn x=true\/X.env.scope.names.lookup x=some .local:=by first | exact .inl rfl | exact .inr rfl | assumption) :
  PS X (.Assign [.Name x uv] e pos) (NC te (gName i)):=by
 intro ae s σ H D I h;refine wpAny_Assign_Name (thn (he ae s σ H _ I h) λv s1 ⟨y,H1,I1,r1,q1⟩=>?_) hs
 exact rN I1 hN hi hx r1 (λs2 I2=>⟨_,H1,I2,q1⟩) hf
def ab9(i:Nat)(te:TE)(ti:TIp):TS:=λD σ H=>∃x,σ[i]?=some (some x)/\te σ H λy H1=>ti x y H1 λz H2=>D.nx (σ.set i (some z)) H2
def Te(hN:X.N.Nodup)(hi:X.N[i]?=some x)(hx:QL X.env.scope x)(he:PE X e te)(ho:PIp X op ti)(hf:X.fn x=true\/X.env.scope.names.lookup x=some .local:=by first | exact .inl rfl | exact .inr rfl | assumption) :
  PS X (.AugAssign (.Name x uv) op e pos) (ab9 i te ti):=by
 intro ae s σ H D I h;obtain⟨v,e1,h⟩:=h;obtain⟨m,hn,hl⟩:=I.loc;have ND:Xo X.env.scope x:=by rcases hx with k | k;exact .inl k;exact .inr (.inl k)
 obtain⟨u,r,l⟩:=hl i x v hi e1 ND;refine wpAny_AugAssign_Name ?_;have go:wpAny (model X.prog X.w) X.A (eval e X.env) (λw zC=>wpAny (model X.prog X.w) X.A (inplaceOp op u w) (λr aca=>wpAny (model X.prog X.w) X.A (storeName X.env x r) (λ_=>SP X ae D .next) X.xe aca) X.xe zC) X.xe s:=by
  refine thn (he ae s σ H _ I h) λw s1 ⟨y,H1,I1,r1,q1⟩=>?_
  refine thn (ho ae s1 σ H1 v y u w _ I1 r r1 q1) λz s2 ⟨zv,H2,I2,r2,q2⟩=>?_
  exact rN I2 hN hi hx r2 (λs3 I3=>⟨_,H2,I3,q2⟩) hf
 rcases l with⟨hk,hm⟩ | ⟨hk,c,hc,ki⟩
 ·exact wpAny_loadName_local I.ok.kind hk hn hm go
 ·rcases hk with hk | hk
  ·exact wpAny_loadName_cell I.ok.kind hk hc ki go
  ·rcases hx with k | k
   ·have:X.env.scope.names.lookup x=some .free:=hk;rw[k]at this;cases this
   ·have:X.env.scope.names.lookup x=some .free:=hk;rw[k]at this;cases this
end
section
variable {X:Cx} {pos:Pos}
def Tf(c:TT)(tb:TS):TS:=λD σ H=>∃W:Nat->St->Hp->Prop,(∃m,W m σ H)/\∀m σ H,W m σ H ->
 c σ H λb H1=>if b=true then ∃N:St->Hp->Prop,(∀bH H',N bH H'->∃m',m'<m/\W m' bH H')/\tb {D with nx:=N,ct:=N,bk:=D.nx} σ H1 else D.nx σ H1
def JM(hp:PassesOwn (model X.prog X.w) X.A X.env X.xe)(hc:PT X c tc)(hb:PSs X body tb):PS X (.While c body [] pos) (Tf tc tb):=by
 intro ae s σ H D I h;obtain⟨W,⟨m0,w0⟩,lU⟩:=h;refine wpAny_While (codeAny_whileLoop (λn s'=>∃bH H',Inv X ae bH H' s'/\W n bH H') ?_ m0 ⟨σ,H,I,w0⟩)
 rintro n s1 ⟨jx,H1,I1,w1⟩
 refine lP hp (thn (hc ae s1 jx H1 _ I1 (lU n jx H1 w1)) λb s2 ⟨H2,I2,q2⟩=>?_)
 cases b with
 | true =>
  obtain⟨N,hN,q2⟩:=q2;rw[if_pos rfl];refine lP hp (thn (hb ae s2 jx H2 _ I2 q2) λf s3 q3=>?_)
  cases f with
  | next =>
   obtain⟨oZ,H3,I3,n3⟩:=q3;obtain⟨m',hm,w3⟩:=hN oZ H3 n3;exact⟨m',hm,oZ,H3,I3,w3⟩
  | cont =>
   obtain⟨oZ,H3,I3,n3⟩:=q3;obtain⟨m',hm,w3⟩:=hN oZ H3 n3;exact⟨m',hm,oZ,H3,I3,w3⟩
  | brk=>exact q3
  | ret v=>exact q3
 | false =>
  rw[if_neg d9];exact wM ⟨jx,H2,I2,q2⟩
end
structure It where
 go:Nat->Hp->Prop
 yld:Nat->Hp->V->Hp->Prop
 stop:Nat->Hp->Prop
def xc(X:Cx)(ae:List (Addr×Obj))(H:Hp)(b:Addr):Prop :=
 H b=none/\b≠X.env.locals/\b∉X.fs/\(b∈X.ex\/X.s₀.heap.objs.size<=b)/\(∀x c,X.env.cells.lookup x=some c->c≠b)/\∀p∈X.pn++ae,p.1≠b
def Inv.GV{X:Cx}{ae:List (Addr×Obj)}{σ:St}{H H':Hp}{s:Shared}{b:Addr}(I:Inv X ae σ H s)(hb:s.heap.objs.size<=b)(hn:H' b=none):xc X ae H' b:=by
 refine⟨hn,rA (bY I.lt hb),I.abW hb,.inr (bE I.sz hb),λx c e z=>?_,λp hp z=>?_⟩
 ·obtain⟨v,q⟩:=I.cell x c e;exact absurd (bY q.lt (by grind)) (gE _)
 ·exact absurd (bY (aV (I.pin p hp).1) (by grind)) (gE _)
structure Turn (P:Program) (w:World) (K:W.Frag) (tg:Expr) (J:It) (fp:List Addr) (it:Addr) (tn:Nat->Heap->Prop):Prop where
 mem:it∈fp
 obj:∀i h,tn i h->∀b∈fp,∃o,h.get? b=some o/\∀v,o.data≠.cell v
 keep:∀i h h',tn i h->(∀b∈fp,∀o,h.get? b=some o->h'.get? b=some o)->tn i h'
 item:∀(X:Cx),X.prog=P->X.w=w->X.K=K->X.calm=true->∀(i:Nat) (ae:List (Addr×Obj)) (s:Shared) (σ:St) (H:Hp) (E:Value->Shared->Prop),Inv X ae σ H s->(∀b∈fp,xc X ae H b)->tn i s.heap->J.go i H ->
  wpAny (model P w) X.A (pyNext (.ref it)) (λr s1=>∃u,r=some u /\
   wpAny (model P w) X.A (letOwnedTupleGo tg (.ref it) u) (λ_ s2=>∃x H',Inv X ae σ H' s2/\RelV x u/\J.yld i H x H'/\tn (i+1) s2.heap/\∀b∈fp,H' b=none) E s1) E s
 done:∀(X:Cx),X.prog=P->X.w=w->X.K=K->X.calm=true->∀(i:Nat) (ae:List (Addr×Obj)) (s:Shared) (σ:St) (H:Hp) (E:Value->Shared->Prop),Inv X ae σ H s->(∀b∈fp,xc X ae H b)->tn i s.heap->J.stop i H ->
  wpAny (model P w) X.A (pyNext (.ref it)) (λr s1=>r=none/\Inv X ae σ H s1) E s
 self:∀(A:Around) (i:Nat) (s:Shared) (Q:Value->Shared->Prop) (E:Value->Shared->Prop),tn i s.heap->Q (.ref it) s->wpAny (model P w) A (pyIter (.ref it)) Q E s
abbrev TI:=St->Hp->(It->Hp->Prop)->Prop
def PIE(X:Cx)(ae:List (Addr×Obj))(σ:St)(tg:Expr)(R:It->Hp->Prop)(itv:Value)(s2:Shared):Prop :=
 ∃(it:Addr) (fp:List Addr) (tn:Nat->Heap->Prop) (J:It) (H':Hp),itv=.ref it/\Inv X ae σ H' s2/\Turn X.prog X.w X.K tg J fp it tn/\tn 0 s2.heap/\(∀b∈fp,xc X ae H' b)/\R J H'
def PI(X:Cx)(tg iter:Expr)(wi:TI):Prop :=
 ∀(ae:List (Addr×Obj)) (s:Shared) (σ:St) (H:Hp) (R:It->Hp->Prop),Inv X ae σ H s->wi σ H R ->
  wpAny (model X.prog X.w) X.A (eval iter X.env) (λv s1=>wpAny (model X.prog X.w) X.A (pyIter v) (PIE X ae σ tg R) X.xe s1) X.xe s
def EM(ho:s.heap.get? it=some o)(hc:o.cls=.type n)(hd:o.data=.fields vs)
  (hn:["enumerate","zip","dict_itemiterator","dict_reverseitemiterator","odict_iterator","itertools.zip_longest","itertools.pairwise"].contains n=false) (hQ:Q () s):wpAny M A (letOwnedTupleGo tg (.ref it) u) Q E s:=by
 unfold letOwnedTupleGo;cases tg<;>first
  | exact aj hQ
  | (cases u<;>first
    | exact aj hQ
    | (refine af (wpAny_load ho ?_)
       rw[hc,hd];show wpAny M A (if(["enumerate","zip","dict_itemiterator","dict_reverseitemiterator","odict_iterator","itertools.zip_longest","itertools.pairwise"].contains n&&vs[0]?==some (rawInt _))=true then _ else _) Q E s
       rw[if_neg (by grind)]
       exact aj hQ))
def Itl(K:W.Frag)(a:Addr):It :=
 ⟨λi H=>∃xs x,xb K H a xs/\xs[i]?=some x,λi H x H'=>H'=H/\∀xs,xb K H a xs->xs[i]?=some x,λi H=>∃xs,xb K H a xs/\xs.length<=i⟩
def Itt(K:W.Frag)(a:Addr):It :=
 ⟨λi H=>∃xs x,ip K H a xs/\xs[i]?=some x,λi H x H'=>H'=H/\∀xs,ip K H a xs->xs[i]?=some x,λi H=>∃xs,ip K H a xs/\xs.length<=i⟩
def XD(lo:Int)(n:Nat):It:=⟨λi _=>i<n,λi H x H'=>H'=H/\x=.int (lo+i),λi _=>n<=i⟩
def GW{P:Program}{w:World}{K:W.Frag}{tg:Expr}(a it:Addr):Turn P w K tg (Itl K a) [it] it (λi h=>h.IsListIter it a i) where
 mem:=by simp
 obj:=λi h st b hb=>by
  have e:b=it:=by grind
  subst e;obtain⟨o,e,c,d⟩:=st;exact⟨o,e,λv z=>by grind⟩
 keep:=λi h h' st k=>st.at λo e=>k it (by simp) o e
 item:=by
  intro X hP hw hK hc i ae s σ H E I hf st hg;subst hP hw hK;obtain⟨xs,x,hq,hx⟩:=hg;obtain⟨aH,rv,p,hz⟩:=I.list hq;obtain⟨u,hu,ru⟩:=rv.get hx;obtain⟨f0,f1,f2,f3,f4,f5⟩:=hf it (by simp)
  refine wpAny_pyNext_list_item st p.isList (by simpa using hu) λh' aB sb=>?_
  have I1:=I.turned (t':=s.toks) (λb o hb e=>(sb.2 b hb).trans e) f0 f1 f3 f4 f5
  obtain⟨o,e,c,d⟩:=id aB;exact⟨u,rfl,EM e c d (by decide) ⟨x,H,I1,ru,⟨rfl,λys hy=>by rw[I.my hy hq];exact hx⟩,aB,λb hb=>(hf b hb).1⟩⟩
 done:=by
  intro X hP hw hK hc i ae s σ H E I hf st hg;subst hP hw hK;obtain⟨xs,hq,hx⟩:=hg;obtain⟨aH,rv,p,hz⟩:=I.list hq;obtain⟨f0,f1,f2,f3,f4,f5⟩:=hf it (by simp)
  have hl:=rv.length;exact wpAny_pyNext_list_end (I.ok.hd hc) st p.isList (by simp;lia) λh' eb=>⟨rfl,I.turned (λb o hb e=>eb b o hb e) f0 f1 f3 f4 f5⟩
 self:=λ_ _ _ _ _ st h=>wpAny_pyIter_listiter st h
def CL{P:Program}{w:World}{K:W.Frag}{tg:Expr}(a it:Addr):Turn P w K tg (Itt K a) [it] it (λi h=>h.IsTupleIter it a i) where
 mem:=by simp
 obj:=λi h st b hb=>by
  have e:b=it:=by grind
  subst e;obtain⟨o,e,c,d⟩:=st;exact⟨o,e,λv z=>by grind⟩
 keep:=λi h h' st k=>st.at λo e=>k it (by simp) o e
 item:=by
  intro X hP hw hK hc i ae s σ H E I hf st hg;subst hP hw hK;obtain⟨xs,x,hq,hx⟩:=hg;obtain⟨aH,rv,p,hz⟩:=I.tuple hq;obtain⟨u,hu,ru⟩:=rv.get hx;obtain⟨f0,f1,f2,f3,f4,f5⟩:=hf it (by simp)
  refine wpAny_pyNext_tuple_item st (p) (by simpa using hu) λh' aB sb=>?_
  have I1:=I.turned (t':=s.toks) (λb o hb e=>(sb.2 b hb).trans e) f0 f1 f3 f4 f5
  obtain⟨o,e,c,d⟩:=id aB;exact⟨u,rfl,EM e c d (by decide) ⟨x,H,I1,ru,⟨rfl,λys hy=>by rw[I.kK hy hq];exact hx⟩,aB,λb hb=>(hf b hb).1⟩⟩
 done:=by
  intro X hP hw hK hc i ae s σ H E I hf st hg;subst hP hw hK;obtain⟨xs,hq,hx⟩:=hg;obtain⟨aH,rv,p,hz⟩:=I.tuple hq;obtain⟨f0,f1,f2,f3,f4,f5⟩:=hf it (by simp)
  have hl:=rv.length;exact wpAny_pyNext_tuple_end (I.ok.hd hc) st (p) (by simp;lia) λh' eb=>⟨rfl,I.turned (λb o hb e=>eb b o hb e) f0 f1 f3 f4 f5⟩
 self:=λ_ _ _ _ _ st h=>wpAny_pyIter_tupleiter st h
def CM{P:Program}{w:World}{K:W.Frag}{tg:Expr}(it:Addr)(lo:Int)(n:Nat):Turn P w K tg (XD lo n) [it] it (λi h=>IsRangeIter h it (lo+(i:Nat)*1) ((n:Int)-(i:Nat)) 1) where
 mem:=by simp
 obj:=λi h st b hb=>by
  grind
 keep:=λi h h' st k=>k it (by simp) _ st
 item:=by
  intro X hP hw hK hc i ae s σ H E I hf st hg;subst hP hw hK;obtain⟨f0,f1,f2,f3,f4,f5⟩:=hf it (by simp)
  have W:=Walks.range (prog:=X.prog) (w:=X.w) (I.ok.hd hc) it lo 1 n;refine W.item i s _ _ hg st λv h' tk hv aB kk=>?_
  obtain⟨t,rfl⟩:=hv;have I1:Inv X ae σ H {s with heap:=h',toks:=tk}:=I.turned (λb o hb e=>kk b o (by grind) e) f0 f1 f3 f4 f5
  refine⟨_,rfl,EM aB rfl rfl (by decide) ⟨.int (lo+i),H,I1,⟨t,?_⟩,⟨rfl,rfl⟩,aB,λb hb=>(hf b hb).1⟩⟩
  rw[Int.mul_one]
 done:=by
  intro X hP hw hK hc i ae s σ H E I hf st hg;subst hP hw hK;obtain⟨f0,f1,f2,f3,f4,f5⟩:=hf it (by simp)
  exact wpAny_pyNext_range_end (I.ok.hd hc) st (by have:n<=i:=hg;lia) λh' eb=>⟨rfl,I.turned (λb o hb e=>eb b o hb e) f0 f1 f3 f4 f5⟩
 self:=λ_ _ _ _ _ st h=>wpAny_pyIter_rangeiter st h
section
variable {X:Cx} {tg:Expr}
def XE(K:W.Frag)(tl:TE):TI:=λσ H R=>tl σ H λx H1=>∃a,x=.ref a/\(∃xs,xb K H1 a xs)/\R (Itl K a) H1
def ace(K:W.Frag)(tl:TE):TI:=λσ H R=>tl σ H λx H1=>∃a,x=.ref a/\(∃xs,ip K H1 a xs)/\R (Itt K a) H1
def EN{l:Expr}{tl:TE}(hl:PE X l tl):PI X tg l (XE X.K tl):=by
 intro ae s σ H R I h;refine thn (hl ae s σ H _ I h) λv s1 ⟨x,H1,I1,r1,q1⟩=>?_
 obtain⟨a,e,⟨xs,hq⟩,q⟩:=q1;subst e;cases r1;obtain⟨aH,rv,p,hz⟩:=I1.list hq;refine Cn p.isList ?_;refine⟨s1.heap.objs.size,[s1.heap.objs.size],_,_,H1,rfl,I1.kept λb o e=>aZ _ e,GW a _,⟨_,cB _ rfl,rfl,rfl⟩,λb hb=>?_,q⟩
 have e:b=s1.heap.objs.size:=by grind
 subst e;exact I1.GV (ao _) (I1.hok.fresh (ao _))
def JN{l:Expr}{tl:TE}(hl:PE X l tl):PI X tg l (ace X.K tl):=by
 intro ae s σ H R I h;refine thn (hl ae s σ H _ I h) λv s1 ⟨x,H1,I1,r1,q1⟩=>?_
 obtain⟨a,e,⟨xs,hq⟩,q⟩:=q1;subst e;cases r1;obtain⟨aH,rv,p,hz⟩:=I1.tuple hq;refine Cf (p) ?_;refine⟨s1.heap.objs.size,[s1.heap.objs.size],_,_,H1,rfl,I1.kept λb o e=>aZ _ e,CL a _,⟨_,cB _ rfl,rfl,rfl⟩,λb hb=>?_,q⟩
 have e:b=s1.heap.objs.size:=by grind
 subst e;exact I1.GV (ao _) (I1.hok.fresh (ao _))
def zE{ae:List (Addr×Obj)}{σ:St}{H:Hp}{s:Shared}{R:It->Hp->Prop}{E:Value->Shared->Prop}{lo hi:Int}{t u v:Tok}{tk:Nat}(I:Inv X ae σ H s)(h1:-(2^62)<=lo)(h2:lo<2^62)(h3:-(2^62)<=hi)(h4:hi<2^62)
  (q:R (XD lo (hi-lo).toNat) H):wpAny (model X.prog X.w) X.A (pyIter (.ref s.heap.objs.size)) (PIE X ae σ tg R) E {s with heap:=s.heap.push {cls:=.type "range",data:=.fields #[.int lo t,.int hi u,.int 1 v]},toks:=tk}:=by
 refine wpAny_pyIter_range (IsRange.new ..) (small_one h1 h2 h3 h4) ?_;have I1:Inv X ae σ H {s with heap:=s.heap.push {cls:=.type "range",data:=.fields #[.int lo t,.int hi u,.int 1 v]},toks:=tk}:=I.kept λb o e=>aZ _ e
 refine⟨(s.heap.push {cls:=.type "range",data:=.fields #[.int lo t,.int hi u,.int 1 v]}).objs.size,[(s.heap.push {cls:=.type "range",data:=.fields #[.int lo t,.int hi u,.int 1 v]}).objs.size],_,_,H,rfl,
  I1.kept λb o e=>aZ _ e,CM _ lo (hi-lo).toNat,?_,λb hb=>?_,q⟩
 ·have e1:lo+(0:Nat)*1=lo:=by simp
  have e2:(((hi-lo).toNat:Nat):Int)-(0:Nat)=Builtin.Range.rangeSize lo hi 1:=by rw[rangeSize_one];split<;>lia
  rw[e1,e2];exact cB _ rfl
 ·have e:b=(s.heap.push {cls:=.type "range",data:=.fields #[.int lo t,.int hi u,.int 1 v]}).objs.size:=by grind
  subst e;exact I1.GV (ao _) (I1.hok.fresh (ao _))
def XF(ta:TA):TI:=λσ H R=>ta σ H λvs H1=>∃j:Int,vs=[.int j] /\ -(2^62)<=j/\j<2^62/\R (XD 0 j.toNat) H1
def XG(ta:TA):TI:=λσ H R=>ta σ H λvs H1=>∃i j:Int,vs=[.int i,.int j]/\(-(2^62)<=i/\i<2^62 /\ -(2^62)<=j/\j<2^62)/\R (XD i (j-i).toNat) H1
def GX{a:Expr}{ta:TA}{p pos:Pos}(hg:Gl X "range")(hm:X.mg "range"=none)(ha:PA X [a] ta)(hs:starEach [a] X.env=[(false,eval a X.env)]:=by rfl):PI X tg (.Call (.Name "range" p) [a] [] pos) (XF ta):=by
 intro ae s σ H R I h;refine Call_ (ld_blt I hg hm boot_range (jX (thn (ha pos ae s σ H _ I h) λus s1 ⟨vs,H1,I1,r1,q1⟩=>?_) hs rfl))
 obtain⟨j,e,q1,q2,q⟩:=q1;subst e;cases r1 with
 | cons r rr =>
  cases rr;obtain⟨t,rfl⟩:=r;exact call_range_1 (zE I1 (by lia) (by lia) q1 q2 (by grind))
def GY{a b:Expr}{ta:TA}{p pos:Pos}(hg:Gl X "range")(hm:X.mg "range"=none)(ha:PA X [a,b] ta)(hs:starEach [a,b] X.env=[(false,eval a X.env),(false,eval b X.env)]:=by rfl)(M3:starEach [b] X.env=[(false,eval b X.env)]:=by rfl) :
  PI X tg (.Call (.Name "range" p) [a,b] [] pos) (XG ta):=by
 intro ae s σ H R I h;refine Call_ (ld_blt I hg hm boot_range (jX (thn (ha pos ae s σ H _ I h) λus s1 ⟨vs,H1,I1,r1,q1⟩=>?_) (by grind) (by rw[M3];rfl)))
 obtain⟨i,j,e,⟨q1,q2,q3,q4⟩,q⟩:=q1;subst e;cases r1 with
 | cons r rr =>
  cases rr with
  | cons r' rr =>
   cases rr;obtain⟨t,rfl⟩:=r;obtain⟨t',rfl⟩:=r';exact call_range_2 (zE I1 q1 q2 q3 q4 q)
def acf(wi:TI)(g:TG)(tb:TS):TS:=λD σ H=>wi σ H λJ H1=>∃W:Nat->Nat->St->Hp->Prop,(∃m,W 0 m σ H1)/\∀i m σ H,W i m σ H ->
 (J.stop i H/\D.nx σ H)\/(J.go i H/\∃N:St->Hp->Prop,(∀bH H',N bH H'->∃m',m'<m/\W (i+1) m' bH H')/\∀x H',J.yld i H x H'->g x σ H' λzF H2=>tb {D with nx:=N,ct:=N,bk:=D.nx} zF H2)
def rO(fp:List Addr)(h:Heap):List (Addr×Obj):=fp.filterMap λb=>(h.get? b).map λo=>(b,o)
def jy(hb:b∈fp)(e:h.get? b=some o):(b,o)∈rO fp h:=qX.mpr ⟨b,hb,by rw[e];rfl⟩
def GZ(hp:p∈rO fp h):p.1∈fp/\h.get? p.1=some p.2:=by
 obtain⟨b,hb,e⟩:=qX.mp hp;cases q:h.get? b with
 | none=>rw[q]at e;cases e
 | some o =>
  rw[q]at e;have e':=cH e;subst e';exact⟨hb,q⟩
def Inv.pinned{ae:List (Addr×Obj)}{σ:St}{H:Hp}{s:Shared}{fp:List Addr}(I:Inv X ae σ H s)(hf:∀b∈fp,xc X ae H b)(ho:∀b∈fp,∃o,s.heap.get? b=some o/\∀v,o.data≠.cell v):Inv X (ae++rO fp s.heap) σ H s :=
 I.mx λp hp=>(bZ.mp hp).elim (λz=>I.pin p (dD _ z)) λz=>by
  obtain⟨hb,e⟩:=GZ z;obtain⟨f0,f1,f2,_⟩:=hf p.1 hb;obtain⟨o,e',d⟩:=ho p.1 hb;rw[e]at e';cases e';exact⟨e,f0,f1,f2,d⟩
def Inv.rP{ae pl:List (Addr×Obj)}{σ:St}{H:Hp}{s:Shared}(I:Inv X (ae++pl) σ H s):Inv X ae σ H s:=I.mx λp hp=>I.pin p (dD _ (iB _ hp))
def JO(hp:PassesOwn (model X.prog X.w) X.A X.env X.xe)(hc:X.calm=true)(hi:PI X tg iter wi)(hg:PG X tg g)(hb:PSs X body tb)
  (hs:∀x,foldedSetIterable iter X.env x=pure x:=by intro _;rfl):PS X (.For tg iter body [] pos) (acf wi g tb):=by
 intro ae s σ H D I h;refine wpAny_For (thn (hi ae s σ H _ I h) λv s1 h1=>thn h1 λitv s2 h2=>?_) hs
 obtain⟨it,fp,tn,J,H2,e,I2,T,st2,f2,W,⟨m0,w0⟩,lU⟩:=h2;subst e;have CN:∀{H':Hp},(∀b∈fp,H' b=none)->∀b∈fp,xc X ae H' b:=λhn b hb=>⟨hn b hb,(f2 b hb).2⟩
 refine codeAny_forLoop_any (λn s'=>∃i bH H',Inv X ae bH H' s'/\tn i s'.heap/\(∀b∈fp,H' b=none)/\W i n bH H') ?_ m0 ⟨0,σ,H2,I2,st2,λb hb=>(f2 b hb).1,w0⟩
 rintro n s3 ⟨i,oZ,H3,I3,uw,fr3,w3⟩
 rcases lU i n oZ H3 w3 with⟨stop,qn⟩ | ⟨go,N,hN,step⟩
 ·refine lP hp (thn (T.done X rfl rfl rfl hc i ae s3 oZ H3 X.xe I3 (CN fr3) uw stop) λr s4 ⟨hr,I4⟩=>?_)
  subst hr;exact wM ⟨oZ,H3,I4,qn⟩
 ·refine lP hp (thn (T.item X rfl rfl rfl hc i ae s3 oZ H3 X.xe I3 (CN fr3) uw go) λr s4 ⟨u,hr,h4⟩=>?_)
  subst hr;refine lP hp (thn h4 λ_ s5 z9=>?_)
  obtain⟨x,H5,I5,r5,y5,Th,fr5⟩:=z9;have I5':=I5.pinned (CN fr5) (T.obj _ _ Th);refine lP hp (thn (hg _ s5 oZ H5 x u _ I5' r5 (step x H5 y5)) λ_ s6 ⟨σ6,H6,I6,q6⟩=>?_)
  refine lP hp (thn (hb _ s6 σ6 H6 _ I6 q6) λf s7 q7=>?_)
  have again:∀{JP:St} {H7:Hp},Inv X (ae++rO fp s5.heap) JP H7 s7->N JP H7->∃m,m<n/\∃i bH H',Inv X ae bH H' s7/\tn i s7.heap/\(∀b∈fp,H' b=none)/\W i m bH H':=λ{JP H7} I7 n7=>by
   obtain⟨m',hm,w7⟩:=hN JP H7 n7;refine⟨m',hm,i+1,JP,H7,I7.rP,T.keep _ _ _ Th λb hb o e=>(I7.pin (b,o) (dD _ (dD _ (jy hb e)))).1,λb hb=>?_,w7⟩
   obtain⟨o,e,d⟩:=T.obj _ _ Th b hb;exact(I7.pin (b,o) (dD _ (dD _ (jy hb e)))).2.1
  cases f with
  | next=>obtain⟨JP,H7,I7,n7⟩:=q7;exact again I7 n7
  | cont=>obtain⟨JP,H7,I7,n7⟩:=q7;exact again I7 n7
  | brk=>obtain⟨JP,H7,I7,q7⟩:=q7;exact⟨JP,H7,I7.rP,q7⟩
  | ret v=>obtain⟨x7,JP,H7,I7,r7,q7⟩:=q7;exact⟨x7,JP,H7,I7.rP,r7,q7⟩
end
abbrev R2:=V->V->Hp->VK->Prop
def OpR(X:Cx)(f:Value->Value->Sem Value)(r:R2):Prop :=
 ∀(ae:List (Addr×Obj)) (s:Shared) (σ:St) (H:Hp) (x y:V) (v u:Value) (Q:VK),Inv X ae σ H s->RelV x v->RelV y u->r x y H Q ->
  wpAny (model X.prog X.w) X.A (f v u) (EP X ae σ Q) X.xe s
def UnR(X:Cx)(f:Value->Sem Value)(r:V->Hp->VK->Prop):Prop :=
 ∀(ae:List (Addr×Obj)) (s:Shared) (σ:St) (H:Hp) (x:V) (v:Value) (Q:VK),Inv X ae σ H s->RelV x v->r x H Q ->
  wpAny (model X.prog X.w) X.A (f v) (EP X ae σ Q) X.xe s
def mz(X:Cx)(f:Value)(r:List V->Hp->VK->Prop):Prop :=
 ∀(ae:List (Addr×Obj)) (s:Shared) (σ:St) (H:Hp) (xs:List V) (us:List Value) (Q:VK),Inv X ae σ H s->Vals xs us->r xs H Q ->
  wpAny (model X.prog X.w) X.A (call f us) (EP X ae σ Q) X.xe s
def aci(X:Cx)(r:V->Hp->(Bool->Hp->Prop)->Prop):Prop :=
 ∀(ae:List (Addr×Obj)) (s:Shared) (σ:St) (H:Hp) (x:V) (v:Value) (Q:Bool->Hp->Prop),Inv X ae σ H s->RelV x v->r x H Q ->
  wpAny (model X.prog X.w) X.A (truthy v) (TP X ae σ Q) X.xe s
def WO(r:R2)(ta tb:TE):TE:=λσ H Q=>ta σ H λx H1=>tb σ H1 λy H2=>r x y H2 Q
def tUn(r:V->Hp->VK->Prop)(ta:TE):TE:=λσ H Q=>ta σ H λx H1=>r x H1 Q
def rI(C:Int->Int->Prop)(g:Int->Int->V):R2:=λx y H Q=>∃i j,x=.int i/\y=.int j/\C i j/\Q (g i j) H
def NF(g:Int->Int->V):R2:=λx y H Q=>∃i j,x=.int i/\y=.int j/\Q (g i j) H
def rU(g:Int->V):V->Hp->VK->Prop:=λx H Q=>∃i,x=.int i/\Q (g i) H
section
variable {X:Cx} {a b c:Expr} {ta tb tc:TE} {pos:Pos}
def NG(ha:PE X a ta)(hb:PE X b tb){ae:List (Addr×Obj)}{s:Shared}{σ:St}{H:Hp}{R:V->V->Hp->Prop}(I:Inv X ae σ H s)
  (h:ta σ H λx H1=>tb σ H1 λy H2=>R x y H2) {Q:Value->Shared->Prop} {f:Value->Value->Sem Value}
  (hf:∀v u s2 x y H2,Inv X ae σ H2 s2->RelV x v->RelV y u->R x y H2->wpAny (model X.prog X.w) X.A (f v u) Q X.xe s2) :
  wpAny (model X.prog X.w) X.A (eval a X.env) (λv s₁=>wpAny (model X.prog X.w) X.A (eval b X.env) (λu zC=>wpAny (model X.prog X.w) X.A (f v u) Q X.xe zC) X.xe s₁) X.xe s:=by
 refine thn (ha ae s σ H _ I h) λv s1 ⟨x,H1,I1,r1,q1⟩=>?_
 refine thn (hb ae s1 σ H1 _ I1 q1) λu s2 ⟨y,H2,I2,r2,q2⟩=>?_
 exact hf v u s2 x y H2 I2 r1 r2 q2
def XH(ho:OpR X (binaryOp op) r)(ha:PE X a ta)(hb:PE X b tb):PE X (.BinOp a op b pos) (WO r ta tb):=by
 intro ae s σ H Q I h;exact wpAny_BinOp (NG ha hb I h λv u s2 x y H2 I2 rx ry q=>ho ae s2 σ H2 x y v u Q I2 rx ry q)
def XI{r:V->Hp->VK->Prop}(ho:UnR X (unaryOp op) r)(ha:PE X a ta):PE X (.UnaryOp op a pos) (tUn r ta):=by
 intro ae s σ H Q I h;exact UnaryOp_ (thn (ha ae s σ H _ I h) (by rintro v s1 ⟨x,H1,I1,r1,q1⟩;exact ho ae s1 σ H1 x v Q I1 r1 q1))
def opI{f:Value->Value->Sem Value}{C:Int->Int->Prop}{g:Int->Int->Int}
  (rule:∀(i j:Int) (t u:Tok) (s:Shared) (Q:Value->Shared->Prop) (E:Value->Shared->Prop),C i j->Q (.int (g i j) s.toks) {s with toks:=s.toks+1}->wpAny (model X.prog X.w) X.A (f (.int i t) (.int j u)) Q E s) :
  OpR X f (rI C λi j=>.int (g i j)):=by
 intro ae s σ H x y v u Q I rx ry h;obtain⟨i,j,rfl,rfl,hc,q⟩:=h;obtain⟨t,rfl⟩:=rx;obtain⟨t',rfl⟩:=ry;exact rule i j t t' s _ _ hc ⟨.int (g i j),H,I.tok _,⟨_,rfl⟩,q⟩
def Ti{f:Value->Value->Sem Value}{g:Int->Int->Int}
  (rule:∀(i j:Int) (t u:Tok) (s:Shared) (Q:Value->Shared->Prop) (E:Value->Shared->Prop),Q (.int (g i j) s.toks) {s with toks:=s.toks+1}->wpAny (model X.prog X.w) X.A (f (.int i t) (.int j u)) Q E s) :
  OpR X f (NF λi j=>.int (g i j)):=by
 intro ae s σ H x y v u Q I rx ry h;obtain⟨i,j,rfl,rfl,q⟩:=h;obtain⟨t,rfl⟩:=rx;obtain⟨t',rfl⟩:=ry;exact rule i j t t' s _ _ ⟨.int (g i j),H,I.tok _,⟨_,rfl⟩,q⟩
def Tj{f:Value->Value->Sem Value}{g:Int->Int->Bool}
  (rule:∀(i j:Int) (t u:Tok) (s:Shared) (Q:Value->Shared->Prop) (E:Value->Shared->Prop),Q (.bool (g i j)) s->wpAny (model X.prog X.w) X.A (f (.int i t) (.int j u)) Q E s) :
  OpR X f (NF λi j=>.bl (g i j)):=by
 intro ae s σ H x y v u Q I rx ry h;obtain⟨i,j,rfl,rfl,q⟩:=h;obtain⟨t,rfl⟩:=rx;obtain⟨t',rfl⟩:=ry;exact rule i j t t' s _ _ ⟨.bl (g i j),H,I,rfl,q⟩
def acj(i j:Int):Prop:=0<j/\j<1073741824
def ack(i j:Int):Prop:=0<=j/\j<=1000000/\i.natAbs<2^64
def Tn(i j:Int):Prop:=(-(2^64)<i/\i<2^64)\/(-(2^64)<j/\j<2^64)
def Tn.ok(h:Tn i j):IntMulOk i j:=by
 rcases h with⟨h1,h2⟩ | ⟨h1,h2⟩
 ·exact .of_left (intBits_le_64 h1 h2)
 ·exact .of_right (intBits_le_64 h1 h2)
def To:OpR X (binaryOp .Add) (NF λi j=>.int (i+j)):=Ti λ_ _ _ _ _ _ _ q=>add_int q
def Tp:OpR X (binaryOp .Sub) (NF λi j=>.int (i-j)):=Ti λ_ _ _ _ _ _ _ q=>sub_int q
def Tq:OpR X (binaryOp .Mult) (rI Tn λi j=>.int (i*j)):=opI λ_ _ _ _ _ _ _ hc q=>mul_int q hc.ok
def NH:OpR X (binaryOp .FloorDiv) (rI acj λi j=>.int (i/j)):=opI λi j _ _ _ _ _ hc q=>by
 have h1:=hc.1;have h2:=hc.2;exact floordiv_int (by lia) (by rw[Int.fdiv_eq_ediv_of_nonneg i (by lia)];exact q) (.inl (PyProof.noPylong_small (by lia)))
def Ts:OpR X (binaryOp .Mod) (rI (λ_ j=>0<j) λi j=>.int (i%j)):=opI λi j _ _ _ _ _ hc q=>by
 have h1:=hc;exact mod_int' (by lia) (by rw[Int.fmod_eq_emod_of_nonneg i (by lia)];exact q)
def Tt:OpR X (binaryOp .Pow) (rI ack λi j=>.int (i^j.toNat)):=opI λ_ _ _ _ _ _ _ hc q=>pow_int_small hc.1 hc.2.1 hc.2.2 q
def NI:OpR X (inplaceOp .Add) (NF λi j=>.int (i+j)):=Ti λ_ _ _ _ _ _ _ q=>iadd_int q
def unI{f:Value->Sem Value}{g:Int->Int}
  (rule:∀(i:Int) (t:Tok) (s:Shared) (Q:Value->Shared->Prop) (E:Value->Shared->Prop),Q (.int (g i) s.toks) {s with toks:=s.toks+1}->wpAny (model X.prog X.w) X.A (f (.int i t)) Q E s) :
  UnR X f (rU λi=>.int (g i)):=by
 intro ae s σ H x v Q I rx h;obtain⟨i,rfl,q⟩:=h;obtain⟨t,rfl⟩:=rx;exact rule i t s _ _ ⟨.int (g i),H,I.tok _,⟨_,rfl⟩,q⟩
def Tu:UnR X (unaryOp .USub) (rU λi=>.int (-i)):=unI λ_ _ _ _ _ q=>neg_int q
end
section
variable {X:Cx} {a b c:Expr} {ta tb tc:TE} {pos:Pos}
def Tv{ae:List (Addr×Obj)}{σ:St}{H:Hp}{s:Shared}{Q:VK}{k k':Bool}(I:Inv X ae σ H s)(q:Q (.bl k) H)(e:k=k'):EP X ae σ Q (.bool k') s:=by
 subst e;exact⟨.bl k,H,I,rfl,q⟩
def XJ:OpR X (compareOp .Lt) (NF λi j=>.bl (decide (i<j))):=Tj λ_ _ _ _ _ _ _ q=>lt_int q
def XM:OpR X (compareOp .LtE) (NF λi j=>.bl (decide (i<=j))):=Tj λ_ _ _ _ _ _ _ q=>le_int q
def XN:OpR X (compareOp .GtE) (NF λi j=>.bl (decide (j<=i))):=Tj λ_ _ _ _ _ _ _ q=>ge_int q
def Tw:OpR X (compareOp .Is) (λx y H Q=>y=.bQ/\Q (.bl (decide (x=.bQ))) H):=by
 intro ae s σ H x y v u Q I rx ry h;obtain⟨rfl,q⟩:=h;cases ry;refine is_none_gen (Tv I q ?_);cases x<;>first
  | (cases rx;rfl)
  | (obtain⟨t,rfl⟩:=rx;rfl)
def NJ(ho:OpR X (compareOp op) r)(ha:PE X a ta)(hb:PE X b tb)(hm:behindInMarks op b=false):PE X (.Compare a [op] [b] pos) (WO r ta tb):=by
 intro ae s σ H Q I h;exact wpAny_Compare1 (NG ha hb I h λv u s2 x y H2 I2 rx ry q=>ho ae s2 σ H2 x y v u Q I2 rx ry q) hm
def QQ(t:TE):TT:=λσ H Q=>t σ H λx H'=>∃k,x=.bl k/\Q k H'
def NK(ho:OpR X (compareOp op) r)(ha:PE X a ta)(hb:PE X b tb)(hm:behindInMarks op b=false):PT X (.Compare a [op] [b] pos) (QQ (WO r ta tb)):=by
 intro ae s σ H Q I h;refine wpAny_isTrue_Compare1 (thn (ha ae s σ H _ I h) λv s1 ⟨x,H1,I1,r1,q1⟩=>thn (hb ae s1 σ H1 _ I1 q1) λu s2 ⟨y,H2,I2,r2,q2⟩ =>
  thn (ho ae s2 σ H2 x y v u _ I2 r1 r2 q2) λc s3 ⟨z,H3,I3,r3,k,e,q3⟩=>?_) hm
 subst e;cases r3;exact lN ⟨H3,I3,q3⟩
def CP(r r':R2)(ta tb tc:TE):TE:=λσ H Q=>ta σ H λx H1=>tb σ H1 λy H2=>r x y H2 λz H3=>∃k,z=.bl k /\
 (if k=true then tc σ H3 λw' H4=>r' y w' H4 Q else Q (.bl false) H3)
def JQ(ho:OpR X (compareOp op) r)(nC:OpR X (compareOp yW) r')(ha:PE X a ta)(hb:PE X b tb)(hc:PE X c tc)
  (hm:lastMarks [op,yW] [b,c]=false:=by with_unfolding_all rfl):PE X (.Compare a [op,yW] [b,c] pos) (CP r r' ta tb tc):=by
 intro ae s σ H Q I h;refine Compare_chain (thn (ha ae s σ H _ I h) λv s1 ⟨x,H1,I1,r1,q1⟩=>chain_link (thn (hb ae s1 σ H1 _ I1 q1) λu s2 ⟨y,H2,I2,r2,q2⟩ =>
  thn (ho ae s2 σ H2 x y v u _ I2 r1 r2 q2) λd s3 ⟨z,H3,I3,r3,k,e,q3⟩=>?_)) hm
 subst e;cases r3;refine lN ?_;cases k with
 | false=>exact ite_ff ⟨.bl false,H3,I3,rfl,q3⟩
 | true=>exact ite_tt (chain_last (thn (hc ae s3 σ H3 _ I3 q3) (by rintro w' s4 ⟨z',H4,I4,r4,q4⟩;exact nC ae s4 σ H4 y z' u w' Q I4 r2 r4 q4)))
def JR(ho:OpR X (compareOp op) r)(nC:OpR X (compareOp yW) r')(ha:PE X a ta)(hb:PE X b tb)(hc:PE X c tc)
  (hm:lastMarks [op,yW] [b,c]=false:=by with_unfolding_all rfl):PT X (.Compare a [op,yW] [b,c] pos) (QQ (CP r r' ta tb tc)):=by
 intro ae s σ H Q I h;refine isTrue_chain (thn (ha ae s σ H _ I h) λv s1 ⟨x,H1,I1,r1,q1⟩=>test_link (thn (hb ae s1 σ H1 _ I1 q1) λu s2 ⟨y,H2,I2,r2,q2⟩ =>
  thn (ho ae s2 σ H2 x y v u _ I2 r1 r2 q2) λd s3 ⟨z,H3,I3,r3,k,e,q3⟩=>?_)) hm
 subst e;cases r3;refine lN ?_;cases k with
 | false =>
  obtain⟨k',e',q'⟩:=q3;cases e';exact ite_ff ⟨H3,I3,q'⟩
 | true =>
  refine ite_tt (test_last (thn (hc ae s3 σ H3 _ I3 q3) λw' s4 ⟨z',H4,I4,r4,q4⟩=>thn (nC ae s4 σ H4 y z' u w' _ I4 r2 r4 q4) λd' s5 z9=>?_))
  obtain⟨z2,H5,I5,r5,k2,e2,q5⟩:=z9;subst e2;cases r5;exact lN ⟨H5,I5,q5⟩
def NL(K:W.Frag)(x:V)(H:Hp)(k:Bool):Prop :=
 match x with
 | .bQ=>k=false
 | .bl b=>k=b
 | .int i=>k=(i != 0)
 | .str y=>y.length<=sizeLine/\k=((y.length:Int) != 0)
 | .WI y=>y.size<=sizeLine/\k=((y.size:Int) != 0)
 | .ref p=>(∃xs,xb K H p xs/\k = !xs.isEmpty)\/(∃xs,ip K H p xs/\k = !xs.isEmpty)\/∃kvs,H p=some (.dK kvs)/\k = !kvs.isEmpty
 | _=>False
def CQ{κ:Type}{kvs:List (κ×V)}{vs:List (κ×Value)}(r:KV kvs vs):(!vs.isEmpty) = !kvs.isEmpty:=by
 cases r<;>rfl
def rQ(r:Vals xs aH):(!aH.toArray.isEmpty) = !xs.isEmpty:=by
 cases r<;>simp
def lV:(sizeLine:Nat)<2^63:=by rw[wW];decide
def JS:aci X (λx H Q=>∃k,NL X.K x H k/\Q k H):=by
 intro ae s σ H x v Q I rx h;obtain⟨k,e,q⟩:=h;have hl:=lV;have hs:=wW;cases x with
 | bQ =>
  cases rx;have e':=e;subst e';exact truthy_none ⟨H,I,q⟩
 | bl b =>
  cases rx;have e':=e;subst e';exact lN ⟨H,I,q⟩
 | int i =>
  obtain⟨t,rfl⟩:=rx;have e':=e;subst e';exact PySem.P.truthy_int ⟨H,I,q⟩
 | str y =>
  obtain⟨t,rfl⟩:=rx;obtain⟨hy,e'⟩:y.length<=sizeLine/\k=((y.length:Int) != 0):=e;subst e';exact PySem.P.truthy_str (by lia) ⟨H,I.tok _,q⟩
 | WI y =>
  obtain⟨t,rfl⟩:=rx;obtain⟨hy,e'⟩:y.size<=sizeLine/\k=((y.size:Int) != 0):=e;subst e';exact W.truthy_bytes (by lia) ⟨H,I.tok _,q⟩
 | ref p =>
  cases rx;have e':=e;rcases e' with⟨xs,hx,e'⟩ | ⟨xs,hx,e'⟩ | ⟨kvs,hx,e'⟩
  ·subst e';obtain⟨aH,r,pl,hz⟩:=I.list hx;have eA:=r.length;exact wpAny_truthy_list pl.isList (by grind) ⟨H,I.tok _,by rw[rQ r];exact q⟩
  ·subst e';obtain⟨aH,r,pl,hz⟩:=I.tuple hx;have eA:=r.length;exact truthy_tuple pl (by grind) ⟨H,I.tok _,by rw[rQ r];exact q⟩
  ·subst e';obtain⟨hz,hS,vs,r,m⟩:kvs.length<=sizeLine/\(p==sysModules)=false/\∃vs,KV kvs vs/\s.heap.DictOf (c9 X.prog X.w) p vs:=I.hok p _ hx
   have eA:=n6 r;exact wpAny_truthy_dict hS m (by lia) ⟨H,I.tok _,by rw[CQ r];exact q⟩
 | _=>exact(e).elim
def JT(ha:PE X a ta)(he:∀jK,isTrue a X.env jK=(do let v <-jK;standAt a.pos;holding [v] (truthy v))) :
  PT X a (λσ H Q=>ta σ H λx H'=>∃k,NL X.K x H' k/\Q k H'):=by
 intro ae s σ H Q I h;exact isTrue_plain (thn (ha ae s σ H _ I h) (by rintro v s1 ⟨x,H1,I1,r1,q1⟩;exact JS ae s1 σ H1 x v Q I1 r1 q1)) (he _)
def CS:OpR X (binaryOp .Add) (λx y H Q=>∃i j,x=.str i/\y=.str j/\i.length+j.length<=sizeLine/\Q (.str (i++j)) H):=by
 intro ae s σ H x y v u Q I rx ry h;obtain⟨i,j,rfl,rfl,hz,q⟩:=h;obtain⟨t,rfl⟩:=rx;obtain⟨t',rfl⟩:=ry;exact add_str (λt' tk=>⟨.str (i++j),H,I.tok _,⟨_,rfl⟩,q⟩) hz
def jL(r:Vals [x] us):∃u,us=[u]/\RelV x u:=by
 cases r with
 | cons r1 r2=>cases r2;exact⟨_,rfl,r1⟩
def QR(r:Vals [x,y] us):∃u w',us=[u,w']/\RelV x u/\RelV y w':=by
 cases r with
 | cons r1 r2 =>
  cases r2 with
  | cons r3 r4=>cases r4;exact⟨_,_,rfl,r1,r3⟩
def u5:mz X (.type "int") (λxs H Q=>(∃i,xs=[.int i]/\Q (.int i) H)\/∃k,xs=[.bl k]/\Q (.int (if k then 1 else 0)) H):=by
 intro ae s σ H xs us Q I r h;rcases h with⟨i,rfl,q⟩ | ⟨k,rfl,q⟩
 ·obtain⟨u,rfl,t,rfl⟩:=jL r;exact call_int_int ⟨.int i,H,I,⟨_,rfl⟩,q⟩
 ·obtain⟨u,rfl,r1⟩:=jL r;cases r1;exact call_int_bool ⟨.int (if k then 1 else 0),H,I.tok _,⟨_,rfl⟩,q⟩
def xf:mz X (.type "str") (λxs H Q=>∃i,xs=[.int i]/\i.natAbs.log2<1920/\Q (.str (toString i)) H):=by
 intro ae s σ H xs us Q I r h;obtain⟨i,rfl,hz,q⟩:=h;obtain⟨u,rfl,t,rfl⟩:=jL r;exact PySem.P.str_of_int hz ⟨.str _,H,I.tok _,⟨_,rfl⟩,q⟩
end
structure G0 (h:Heap) (x dx C:Addr) (mA:Str->Option Value):Prop where
 obj:h.get? x=some (W.instObj C dx)
 ns:h.Ns1 dx mA
 ne:dx≠x
def G1{h:Heap}{mA:Str->Option Value}(n:h.Ns1 dx mA):∃od,h.get? dx=some od/\∀name,W.lookIn name od=some (mA name):=by
 obtain⟨o,es,ep,ho,hd,hk,_,hm⟩:=n;refine⟨o,ho,λname=>?_⟩
 have e:=hm name;unfold nsFind findBy at e;rw[<-Array.find?_toList]at e;unfold W.lookIn;rw[hd];dsimp only
 split
 ·grind
 ·rename_i q;rw[q]at e;have a:es.toList.any (·.refKey)=false:=by
   rw[List.any_eq_false];intro y hy;obtain⟨z,t,Tz⟩:=hk y (Array.mem_toList_iff.mp hy);simp[DictEntry.refKey,Tz]
  have a':¬es.toList.any (·.refKey)=true:=by grind
  rw[if_neg a'];exact ej some e
def G0.NO(I:G0 h x dx C mA):∃od,W.InstAt h x (W.instObj C dx) C (some od)/\∀name,W.lookIn name od=some (mA name) :=
 let ⟨od,ho,hl⟩:=G1 I.ns
 ⟨od,⟨I.obj,rfl,rfl,ho⟩,hl⟩
section
variable {prog:Program} {w:World} {A:Around} {E:Value->Shared->Prop} {s:Shared} {K:W.Frag} {x dx C f:Addr} {mA:Str->Option Value} {name:Str} {v:Value}
def NP(X:K.In s.heap)(I:G0 s.heap x dx C mA)(hg:W.plainGet K C name=true)(hh:W.hasDictIn K C=true)
  (ha:W.findIn K (.ref C) name=some none) (hv:mA name=some v) (hv':W.handedIn v=true) (h:Q v {s with toks:=s.toks+1}) :
  wpAny (model prog w) A (getAttr (.ref x) name expr) Q E s:=by
 obtain⟨od,J,hl⟩:=I.NO;exact W.get_value X J (W.plainGet_of hg).1 (W.findObj_own hh ha rfl (by rw[hl,hv])) hv' h
def NQ(X:K.In s.heap)(I:G0 s.heap x dx C mA)
  (hs:W.findIn K (.ref C) "__setattr__"=some (some (.builtin "object.__setattr__"))) (hp:W.plainOver K C=true) (ht:W.takerIn K C name=some none) (hh:W.hasDictIn K C=true)
  (hw:PySem.Within mA ns) (hsz:ns.length<=sizeLine)
  (h:∀h',G0 h' x dx C (λy=>if y=name then some v else mA y)->Heap.SameBut dx s.heap h'->Q () {s with heap:=h',toks:=s.toks+2}) :
  wpAny (model prog w) A (setAttr (.ref x) name v) Q E s:=by
 obtain⟨od,J,hl⟩:=I.NO;refine W.set_plain X J hs (W.osa_open X J hp ht λb=>?_)
 obtain⟨cd,hc,wZ⟩:=W.any_some hh;have hx:=I.obj;refine af (aj (af (af (wpAny_loadPart hx (af (W.Looks.here (W.looks_clsIn X hc) ?_))))));rw[wZ];refine aj (af (aj (af ?_)));refine wpAny_nsSet1 I.ns λh' hn2 M3=>?_
 obtain⟨oD,esD,epD,hoD,hdD,hcD⟩:=hn2.count (PySem.Within.cons name v hw);refine af (wpAny_lookBehind hoD (by rw[hdD];exact pastItsLine_dict (bE hcD (by grind))) ?_)
 exact aj (h _ ⟨(M3.2 _ (dn I.ne)).trans I.obj,hn2,I.ne⟩ M3)
def JU(X:K.In s.heap)(hm:W.makesIn K C=true)
  (hi:W.findIn K (.ref C) "__init__"=some (some (.ref f))) (hf:W.typeIn K (.ref f)=some (.type "function"))
  (h:codeAny (model prog w) (A.under (.builtin "type.__call__" ⟨.ref C::vs,kw⟩)) (.call (.ref f) ⟨.ref (s.heap.objs.size+1)::vs,kw⟩) (W.InitBack (s.heap.objs.size+1) R)
   {s with heap:=(s.heap.push W.emptyDict).push (W.instObj C s.heap.objs.size)}) :
  codeAny (model prog w) A (.call (.ref C) ⟨vs,kw⟩) R s:=by
 obtain⟨hh,g,d,t,os⟩:=s;exact W.make_core (W.makes_of X hm) (W.looks_findIn X hi) (λself=>W.bind_fn X self hf) (.inl rfl) h
end
noncomputable def iY(f:Str)(v:V):List (Str×V)->List (Str×V)
 | []=>[(f,v)]
 | (g,x)::r=>if g=f then(g,v)::r else(g,x)::iY f v r
theorem o8(f g:Str)(v:V):∀fs:List (Str×V),(iY f v fs).lookup g=if g=f then some v else fs.lookup g
 | []=>by
  show List.lookup g [(f,v)]=_;by_cases h:g=f
  ·grind
  ·grind
 | (k,x)::r=>by
  have ih:=o8 f g v r;rw[show iY f v ((k,x)::r)=(if k=f then(k,v)::r else(k,x)::iY f v r)from rfl]
  by_cases hk:k=f
  ·grind
  ·grind
theorem ou(f:Str)(v:V):∀fs:List (Str×V),f∈(iY f v fs).map (·.1)/\∀g,g∈fs.map (·.1)->g∈(iY f v fs).map (·.1)
 | []=>⟨by simp[iY],λg h=>by simp at h⟩
 | (k,x)::r=>by
  obtain⟨i1,i2⟩:=ou f v r;rw[show iY f v ((k,x)::r)=(if k=f then(k,v)::r else(k,x)::iY f v r)from rfl]
  by_cases hk:k=f
  ·grind
  ·grind
theorem o9(f:Str)(v:V):∀fs:List (Str×V),(iY f v fs).length<=fs.length+1
 | []=>by simp[iY]
 | (k,x)::r=>by
  have ih:=o9 f v r;rw[show iY f v ((k,x)::r)=(if k=f then(k,v)::r else(k,x)::iY f v r)from rfl]
  by_cases hk:k=f
  ·grind
  ·grind
def rK.NR(r:rK (some v) o):∃u,o=some u/\RelV v u:=by
 cases o with
 | none=>exact(r).elim
 | some u=>exact⟨u,rfl,r⟩
def G3(r:RelV v u):W.handedIn u=true:=by
 cases v with
 | bQ=>cases(r);rfl
 | bl b=>cases(r);rfl
 | int i=>obtain⟨t,e⟩:=(r);cases e;rfl
 | str x=>obtain⟨t,e⟩:=(r);cases e;rfl
 | WI b=>obtain⟨t,e⟩:=(r);cases e;rfl
 | flt b=>obtain⟨t,e⟩:=(r);cases e;rfl
 | ref a=>cases(r);rfl
 | ty n=>cases(r);rfl
section
variable {P:Program} {w:World} {H H':Hp} {h h':Heap} {a C dx:Addr} {fs SV:List (Str×V)}
def EO(hok:lT P w H h)(e:H a=some (.oX C dx fs)):∃mA,G0 h a dx C mA/\(∀f,rK (fs.lookup f) (mA f))/\PySem.Within mA (fs.map (·.1))/\fs.length<=1000/\H dx=some (.own a):=by
 obtain⟨d,z,ne,ob,mA,n,r,q⟩:=(hok a _ e);exact⟨mA,⟨ob,n,ne⟩,r,q,z,d⟩
end
def GL.get{K:W.Frag}{C:Addr}(c:GL K C)(f:Str):W.plainGet K C f=true:=c.pg
def ju.XO{K:W.Frag}{C:Addr}{f:Str}(n:ju K C f):W.takerIn K C f=some none:=by
 unfold W.takerIn;rw[show W.findIn K (.ref C) f=some none from n]
 rfl
section
variable {X:Cx} {ae:List (Addr×Obj)} {σ:St} {H:Hp} {s:Shared} {a C dx:Addr} {fs:List (Str×V)} {f:Str} {v:V} {A:Around} {E:Value->Shared->Prop}
def CU(I:Inv X ae σ H s)(e:H a=some (.oX C dx fs))(c:GL X.K C)(n:ju X.K C f)(l:fs.lookup f=some v)
  (h:∀u s',Inv X ae σ H s'->RelV v u->Q u s'):wpAny (model X.prog X.w) A (getAttr (.ref a) f b) Q E s:=by
 obtain⟨mA,O,r,_,_,_⟩:=EO I.hok e;obtain⟨u,hu,ru⟩:=rK.NR (by rw[<-l];exact r f)
 exact NP I.rM O (c.get f) c.hd n hu (G3 ru) (h u _ (I.tok _) ru)
def CV(I:Inv X ae σ H s)(e:H a=some (.oX C dx fs))(c:GL X.K C)(n:ju X.K C f)(hl:fs.length<1000)(ry:RelV y u)
  (h:∀s',Inv X ae σ (cw H a (.oX C dx (iY f y fs))) s'->Q () s'):wpAny (model X.prog X.w) A (setAttr (.ref a) f u) Q E s:=by
 obtain⟨mA,O,r,wi,_,ho⟩:=EO I.hok e;have hz:(fs.map (·.1)).length<=sizeLine:=by rw[ak,wW];lia
 refine NQ I.rM O c.sa c.po n.XO c.hd wi hz λh' O' sb=>h _ ?_
 have hd:∃o,h'.get? dx=some o:=let ⟨o,_,_,e',_⟩:=O'.ns;⟨o,e'⟩
 refine I.write (by rw[e];exact True.intro) (.inr ho) (λb q hb z=>(sb.2 b hb).trans z) hd ?_
 refine⟨by rw[aI O.ne];exact ho,?_,O.ne,O'.obj,_,O'.ns,λg=>?_,λg hg=>?_⟩
 ·have:=o9 f y fs;lia
 ·rw[o8];by_cases q:g=f
  ·rw[if_pos q,if_pos q];exact ry
  ·rw[if_neg q,if_neg q];exact r g
 ·by_cases q:g=f
  ·rw[q];exact(ou f y fs).1
  ·refine(ou f y fs).2 g (wi g λz=>hg ?_)
   show(if g=f then some u else mA g)=none
   rw[if_neg q];exact z
def Inv.made(I:Inv X ae σ H s):Inv X ae σ (cw (cw H s.heap.objs.size (.own (s.heap.objs.size+1))) (s.heap.objs.size+1) (.oX C s.heap.objs.size []))
  {s with heap:=(s.heap.push W.emptyDict).push (W.instObj C s.heap.objs.size)}:=by
 have e1:(s.heap.push W.emptyDict).get? s.heap.objs.size=some W.emptyDict:=cB s.heap rfl;have e2:((s.heap.push W.emptyDict).push (W.instObj C s.heap.objs.size)).get? (s.heap.objs.size+1)=some (W.instObj C s.heap.objs.size):=by
  have:=cB (s.heap.push W.emptyDict) (o:=W.instObj C s.heap.objs.size) rfl
  rwa [nY]at this
 have e3:(s.heap.push W.emptyDict).Ns s.heap.objs.size (λ_=>none):=⟨W.emptyDict,#[],_,e1,rfl,(λe he=>absurd he (by simp)),λ_=>rfl⟩
 have I1:=I.laid (o:=.own (s.heap.objs.size+1)) (t':=s.toks) (λb u q=>aZ _ q) (ao _) ⟨_,e1⟩
 refine I1.laid (t':=s.toks) (λb u q=>aZ _ q) (gF (nY _ _)) ?_
 have ne:s.heap.objs.size≠s.heap.objs.size+1:=by grind
 refine⟨by rw[aI ne,aD],dF _,ne,e2,λ_=>none,(Heap.Ns1.of_empty e3).at λo q=>aZ _ q,λ_=>True.intro,λy hy=>absurd rfl hy⟩
def NS(hb:attributeBase e f env (eval e env)=eval e env)
  (h:wpAny (model prog w) A (eval e env) (λo s₁=>wpAny (model prog w) A (getAttr o f true) Q E s₁) E s):wpAny (model prog w) A (eval (.Attribute e f pos) env) Q E s :=
 Attribute_any_ h (by rw[arm_eval_Attribute,hb])
end
def acm(K:W.Frag)(ta:TE)(f:Str):TE:=λσ H Q=>ta σ H λx H1=>∃a C dx fs v,x=.ref a/\H1 a=some (.oX C dx fs)/\GL K C/\ju K C f/\fs.lookup f=some v/\Q v H1
def acn(K:W.Frag)(ta tv:TE)(f:Str):TS:=λD σ H=>tv σ H λy H1=>ta σ H1 λx H2=>∃a C dx fs,x=.ref a/\H2 a=some (.oX C dx fs)/\GL K C/\ju K C f/\fs.length<1000 /\
 D.nx σ (cw H2 a (.oX C dx (iY f y fs)))
section
variable {X:Cx} {o e value:Expr} {f:Str} {pos uv TC:Pos} {ta tv:TE}
def TF(he:PE X e ta)(hb:attributeBase e f X.env (eval e X.env)=eval e X.env):PE X (.Attribute e f pos) (acm X.K ta f):=by
 intro ae s σ H Q I h;refine NS hb (thn (he ae s σ H _ I h) λu s1 z9=>?_)
 obtain⟨x,H1,I1,rx,a,C,dx,fs,v,ex,ea,c,n,l,q⟩:=z9;subst ex;obtain rfl:u=Value.ref a:=rx;exact CU I1 ea c n l λu' s2 I2 ru=>⟨v,H1,I2,ru,q⟩
def TJ(ha:PE X o ta)(hv:PE X value tv)(hs:swapsWith value (some (.Attribute o f uv)) pos.line X.env=pure false):PS X (.Assign [.Attribute o f uv] value pos) (acn X.K ta tv f):=by
 intro ae s σ H D I h;refine plainObj_wpAny_Assign_Attribute (thn (hv ae s σ H _ I h) λu s1 ⟨y,H1,I1,ry,q⟩=>thn (ha ae s1 σ H1 _ I1 q) λov s2 z9=>?_) hs
 obtain⟨x,H2,I2,rx,a,C,dx,fs,ex,ea,c,n,l,q2⟩:=z9;subst ex;obtain rfl:ov=Value.ref a:=rx;exact CV I2 ea c n l ry λs3 I3=>⟨σ,_,I3,q2⟩
end
structure dM (k:Nat) (A:Around):Prop where
 hd:A.handled=none
 dp:A.depth+3*k+5<recursionLimit
 un:A.units+16*k+1200<cLine
def dM.mono(r:dM k A)(h:j<=k):dM j A:=⟨r.hd,by have:=r.dp;lia,by have:=r.un;lia⟩
def dM.deeper(r:dM (k+1) A)(env:Env):dM k (A.deeper env) :=
 ⟨r.hd,by have:=r.dp;show A.depth+1+3*k+5<_;lia,by have:=r.un;show A.units+3+16*k+1200<_;lia⟩
def CW{A:Around}:(A.under (.builtin "type.__call__" ⟨.ref C::us,kw⟩)).depth=A.depth+1:=by
 first | rfl | simp[Around.under,Code.weight,Code.isCreation,Code.isGuard,Code.isCaller,Code.frames,Code.isFrame,guardIds]
def CY{A:Around}:(A.under (.builtin "type.__call__" ⟨.ref C::us,kw⟩)).units=A.units+1:=by
 first | rfl | simp[Around.under,Code.cUnits,Code.frames,Code.isFrame]
def dM.make(r:dM (k+1) A)(C:Addr)(us:List Value)(kw:List (Str×Value)):dM k (A.under (.builtin "type.__call__" ⟨.ref C::us,kw⟩)) :=
 ⟨r.hd,by have:=r.dp;rw[CW];lia,by have:=r.un;rw[CY];lia⟩
def dM.depth(r:dM k A):A.depth<recursionLimit:=by have:=r.dp;lia
def aco:TA:=λ_ H Q=>Q [] H
def XQ(ta:TE)(tr:TA):TA:=λσ H Q=>ta σ H λx H1=>tr σ H1 λxs H2=>Q (x::xs) H2
section
variable {X:Cx} {e:Expr} {es:List Expr} {te:TE} {t:TA} {pos:Pos}
def rR:PA X [] aco:=λ_ _ _ _ H Q I h=>Calls.spliced_nil ⟨[],H,I,.nil,h⟩
def jz(ha:PE X e te)(hr:PA X es t)(hs:starEach (e::es) X.env=(false,eval e X.env)::starEach es X.env:=by rfl):PA X (e::es) (XQ te t):=by
 intro pos ae s σ H Q I h;rw[hs];refine Calls.spliced_cons (thn (ha ae s σ H _ I h) λu s1 ⟨x,H1,I1,r1,q1⟩=>?_)
 exact thn (hr pos ae s1 σ H1 _ I1 q1) (by rintro us s2 ⟨xs,H2,I2,r2,q2⟩;exact⟨x::xs,H2,I2,.cons r1 r2,q2⟩)
def acp(t:TA):TE:=λσ H Q=>t σ H λxs H1=>xs.length<=sizeLine/\∀p,H1 p=none->Q (.ref p) (cw H1 p (.ay xs))
def acq(t:TA):TE:=λσ H Q=>t σ H λxs H1=>xs.length<=sizeLine/\∀p,H1 p=none->Q (.ref p) (cw H1 p (.lst xs))
def TK{x1}(h:PA X es t):PE X (.Tuple es x1 pos) (acp t):=by
 intro ae s σ H Q I hq;refine wpAny_Tuple_spliced (thn (h pos ae s σ H _ I hq) λus s1 ⟨xs,H1,I1,r,z,q⟩=>⟨by rw[<-r.length];exact z,?_⟩)
 have hf:=I1.hok.fresh (ao _);refine⟨.ref s1.heap.objs.size,cw H1 s1.heap.objs.size (.ay xs),I1.laid (λb u e=>aZ _ e) (ao _) ?_,rfl,q _ hf⟩
 exact⟨z,us,r,⟨_,cB _ rfl,rfl,_,rfl⟩⟩
def JV(h:PA X es t):PE X (.List es pos) (acq t):=by
 intro ae s σ H Q I hq;refine wpAny_List_spliced (thn (h pos ae s σ H _ I hq) λus s1 ⟨xs,H1,I1,r,z,q⟩=>⟨by rw[<-r.length];exact z,?_⟩)
 have hf:=I1.hok.fresh (ao _);refine⟨.ref s1.heap.objs.size,cw H1 s1.heap.objs.size (.lst xs),I1.laid (λb u e=>aZ _ e) (ao _) ?_,rfl,q _ hf⟩
 exact⟨z,us,0,r,cB _ rfl⟩
end
abbrev Sp:=List V->Hp->VK->XK->Prop
abbrev IZ:=List Env->Hp->Shared->XK->Value->Shared->Prop
structure Env0 (P:Program) (w:World) (K:W.Frag) (mg:Str->Option Value) (base:Heap) (A:Around) (aA:List Env) (s:Shared) (H:Hp):Prop where
 frames:A.frames=some aA
 mod:Mod K mg base
 bs:∀b o,base.get? b=some o->s.heap.get? b=some o/\H b=none
 bsz:base.objs.size<=s.heap.objs.size
 funs:s.heap.FunFrames base aA
 frf:∀b∈oq aA,H b=none
 hok:lT P w H s.heap
 bare:AllBare s.gens
 tabs:rL K H
def CE(aA:List Env)(P:Program)(w:World)(H:Hp)(s:Shared)(Q:VK)(u:Value)(s':Shared):Prop :=
 ∃v H',s'.os=s.os/\AllBare s'.gens/\Un (oq aA) [] H H' s.heap s'.heap/\lT P w H' s'.heap/\RelV v u/\Q v H'
def CR(CX:IZ)(aA:List Env)(P:Program)(w:World)(H:Hp)(s:Shared)(Q:VK)(E:XK)(r:Result)(s':Shared):Prop :=
 match r with
 | .ok (.ret u)=>CE aA P w H s Q u s'
 | .ok _=>False
 | .error e=>CX aA H s E e s'
structure FnOk (P:Program) (w:World) (K:W.Frag) (mg:Str->Option Value) (base:Heap) (CX:IZ) (k:Nat) (f:Addr) (fd:FuncData) (ps:List Str) (sp:Sp):Prop where
 len:∀vs H Q E,sp vs H Q E->vs.length=ps.length
 run:∀(A:Around) (aA:List Env) (s:Shared) (H:Hp) (args:Args) (us:List Value) (vs:List V) (Q:VK) (E:XK),dM k A->Env0 P w K mg base A aA s H->BindsTo s fd args (ps.zip us)->Vals vs us->sp vs H Q E ->
  codeAny (model P w) A (.call (.ref f) args) (CR CX aA P w H s Q E) s
def Env0.make{P:Program}{w:World}{K:W.Frag}{mg:Str->Option Value}{base:Heap}{A:Around}{aA:List Env}{s:Shared}{H:Hp}(e:Env0 P w K mg base A aA s H)(C:Addr)(us:List Value)(kw:List (Str×Value)) :
  Env0 P w K mg base (A.under (.builtin "type.__call__" ⟨.ref C::us,kw⟩)) aA s H:=⟨by first | exact e.frames | (simpa[Around.under,Code.envs,Code.isFrame,pushEnvs]using e.frames),e.mod,e.bs,e.bsz,e.funs,e.frf,e.hok,e.bare,e.tabs⟩
section
variable {X:Cx} {ae:List (Addr×Obj)} {σ:St} {H:Hp} {s s':Shared}
def Inv.NT(I:Inv X ae σ H s):Env0 X.prog X.w X.K X.mg X.base X.A X.stack s H :=
 ⟨I.ok.frames,I.ok.mod,I.bs,bE I.ok.bsz I.sz,I.stack,I.w9,I.hok,I.bare,I.tabs⟩
def Inv.after(I:Inv X ae σ H s)(h:CE X.stack X.prog X.w H s Q u s'):EP X ae σ Q u s':=by
 obtain⟨v,H',os,bare,un,hok,r,q⟩:=h;obtain⟨hh,g,d,t,TL⟩:=s';obtain rfl:TL=s.os:=os;exact⟨v,H',I.call un hok bare (λb z=>absurd z (by simp)),r,q⟩
end
def QS(C:Addr)(sp:Sp)(QJ:List V)(E:XK)(t:TA):TE:=λσ H Q=>t σ H λvs H1=>∀x dx,H1 x=none->H1 dx=none->dx≠x ->
 sp (.ref x::(vs++QJ)) (cw (cw H1 dx (.own x)) x (.oX C dx [])) (λv H2=>v=.bQ/\Q (.ref x) H2) E
def gK(K:W.Frag)(fd:FuncData)(ps:List Str)(ds:List Value):Prop :=
 ∀(s:Shared) (us:List Value),K.In s.heap->(us++ds).length=ps.length->BindsTo s fd ⟨us,[]⟩ (ps.zip (us++ds))
def gK.all{K:W.Frag}{fd:FuncData}{ps:List Str}(h:∀us:List Value,us.length=ps.length->bindArgs fd ⟨us,[]⟩=pure (ps.zip us)):gK K fd ps []:=λs us _ hl=>by
 rw[fq]at hl ⊢;exact .of_eq (h us hl)
def CZ(CX:IZ)(X:Cx)(E:XK):Prop:=∀(ae:List (Addr×Obj)) (σ:St) (H:Hp) (s:Shared) (e:Value) (s':Shared),Inv X ae σ H s->CX X.stack H s E e s'->X.xe e s'
section
variable {X:Cx} {CX:IZ} {k:Nat} {f C:Addr} {fd:FuncData} {ps:List Str} {sp:Sp} {QJ:List V} {ds:List Value} {E:XK} {x m:Str} {p pos rF:Pos} {e o:Expr} {es:List Expr} {ta:TE} {t:TA}
def JW{ae:List (Addr×Obj)}{σ:St}{H:Hp}{s:Shared}{Q:VK}{us:List Value}{vs:List V}(M:Mk X.K C f)(F:FnOk X.prog X.w X.K X.mg X.base CX k f fd ps sp)(hr:dM (k+1) X.A)(hb:gK X.K fd ps ds)(hd:Vals QJ ds)
  (hx:CZ CX X E) (I:Inv X ae σ H s) (r:Vals vs us)
  (h:∀x dx,H x=none->H dx=none->dx≠x->sp (.ref x::(vs++QJ)) (cw (cw H dx (.own x)) x (.oX C dx [])) (λv H2=>v=.bQ/\Q (.ref x) H2) E) :
  wpAny (model X.prog X.w) X.A (call (.ref C) us) (EP X ae σ Q) X.xe s:=by
 have hq:=h (s.heap.objs.size+1) s.heap.objs.size (I.hok.fresh (rD _)) (I.hok.fresh (ao _)) (bG (q9 _));have I2:=Inv.made (C:=C) I;have r2:Vals (V.ref (s.heap.objs.size+1)::(vs++QJ)) (Value.ref (s.heap.objs.size+1)::(us++ds)):=.cons rfl (r.append hd);have hl:(Value.ref (s.heap.objs.size+1)::us++ds).length=ps.length:=by
  have e:=r2.length;rw[F.len _ _ _ _ hq]at e;exact e.symm
 refine rE (JU I.rM M.makes M.init (bh.mp M.fn) (ka (F.run _ X.stack _ _ ⟨Value.ref (s.heap.objs.size+1)::us,[]⟩ (Value.ref (s.heap.objs.size+1)::(us++ds)) _ _ E (hr.make C us [])
  (I2.NT.make C us []) (hb _ (Value.ref (s.heap.objs.size+1)::us) I2.rM hl) r2 hq) λr s' uz=>?_))
 cases r with
 | error e=>exact hx ae σ _ _ e s' I2 uz
 | ok fl =>
  cases fl with
  | ret u =>
   obtain⟨v,H',I3,rv,ev,q3⟩:=I2.after uz;subst ev;exact⟨rv,⟨V.ref (s.heap.objs.size+1),H',I3,rfl,q3⟩⟩
  | next=>exact False.elim uz
  | brk=>exact False.elim uz
  | cont=>exact False.elim uz
def NU(M:Mk X.K C f)(F:FnOk X.prog X.w X.K X.mg X.base CX k f fd ps sp)(hr:dM (k+1) X.A)(hg:Gl X x)(hm:X.mg x=some (.ref C))(hb:gK X.K fd ps ds)(hd:Vals QJ ds)(hx:CZ CX X E)
  (ha:PA X (e::es) t) (NV:(x==("__debug__":Str))=false:=by decide) (he:starEach (e::es) X.env=(false,eval e X.env)::starEach es X.env:=by rfl) (nE:(backTo pos (starEach es X.env)).any (·.1)=false:=by rfl) :
  PE X (.Call (.Name x p) (e::es) [] pos) (QS C sp QJ E t):=by
 intro ae s σ H Q I h;refine j5 (ld_glob I hg hm ?_ NV);refine W.callWith_K I.ok.mod.kin M.kp (thn (ha pos ae s σ H _ I h) λus s1 ⟨vs,H1,I1,r,q⟩=>⟨I1.rM,?_⟩) he nE
 exact JW M F hr hb hd hx I1 r q
end
theorem u6{kindOf:Str->Option NameKind}:∀{zG:List (Str×Value)} {m:Str->Option Value},(∀v,(x,v)∉zG)->bindL kindOf zG m x=m x
 | [],_,_=>rfl
 | (n,v)::r,m,h=>by
  unfold bindL;rw[u6 λw hw=>h w (aK _ hw)]
  split
  ·grind
  ·rfl
theorem u7{kindOf:Str->Option NameKind}:∀{zG:List (Str×Value)} {m:Str->Option Value},(∀v,(x,v)∉zG)->bindC kindOf zG m x=m x
 | [],_,_=>rfl
 | (n,v)::r,m,h=>by
  unfold bindC;rw[u7 λw hw=>h w (aK _ hw)]
  split
  ·rfl
  ·grind
theorem u9{kindOf:Str->Option NameKind}:∀{P:List Str} {vs:List Value} {i:Nat} {m:Str->Option Value},P.Nodup->P[i]?=some x->vs[i]?=some v->kindOf x=some .local ->
  bindL kindOf (P.zip vs) m x=some v
 | [],_,_,_,_,h,_,_=>by simp at h
 | _::_,[],_,_,_,_,h,_=>by simp at h
 | p::P,w::vs,0,m,nd,h1,h2,hk=>by
  simp at h1 h2;subst h1;subst h2;show bindL kindOf ((p,w)::P.zip vs) m p=_;unfold bindL;rw[u6 λv hv=>(iG.mp nd).1 (wN hv).1,if_pos hk]
  simp
 | p::P,w::vs,i+1,m,nd,h1,h2,hk=>by
  unfold bindL;exact u9 (iG.mp nd).2 (by simpa using h1) (by grind) hk
theorem vb{kindOf:Str->Option NameKind}:∀{P:List Str} {vs:List Value} {i:Nat} {m:Str->Option Value},P.Nodup->P[i]?=some x->vs[i]?=some v->kindOf x≠some .local ->
  bindC kindOf (P.zip vs) m x=some v
 | [],_,_,_,_,h,_,_=>by simp at h
 | _::_,[],_,_,_,_,h,_=>by simp at h
 | p::P,w::vs,0,m,nd,h1,h2,hk=>by
  simp at h1 h2;subst h1;subst h2;show bindC kindOf ((p,w)::P.zip vs) m p=_;unfold bindC;rw[u7 λv hv=>(iG.mp nd).1 (wN hv).1,if_neg hk]
  simp
 | p::P,w::vs,i+1,m,nd,h1,h2,hk=>by
  unfold bindC;exact vb (iG.mp nd).2 (by simpa using h1) (by grind) hk
noncomputable def start(N:List Str)(vs:List V):St:=vs.map some++List.replicate (N.length-vs.length) none
noncomputable def fF(CX:IZ)(P:Program)(w:World)(K:W.Frag)(mg:Str->Option Value)(base:Heap)(N:List Str)(qual:Str)(scope:Scope)(f:Addr)(cd:Value)(A:Around)(aA:List Env)(s:Shared)(H:Hp)(E:XK):Cx where
 prog:=P
 w:=w
 K:=K
 mg:=mg
 base:=base
 A:=A.deeper (envOfC qual scope s.heap.objs.size f cd)
 N:=N
 s₀:=s
 aa:=H
 env:=envOfC qual scope s.heap.objs.size f cd
 aA:=aA
 stack:=envOfC qual scope s.heap.objs.size f cd::aA
 ex:=[]
 calm:=true
 fn:=λ_=>true
 pn:=[]
 xe:=λe s'=>wpAny (model P w) (A.deeper (envOfC qual scope s.heap.objs.size f cd)) (leaving (envOfC qual scope s.heap.objs.size f cd) e) (λ_ JX=>CX aA H s E e JX) (λe' JX=>CX aA H s E e' JX) s'
def zH{sc:Scope}(h:sc.names.lookup x=some .cell):∃c,(cellsFrom n sc.names []).lookup x=some c:=by
 have q:=W.cellsFrom_some sc.names n [] (.inl h);exact Option.isSome_iff_exists.mp q
def vc{CX:IZ}{P:Program}{w:World}{K:W.Frag}{mg:Str->Option Value}{base:Heap}{N ps:List Str}{qual:Str}{scope:Scope}{f:Addr}{cd:Value}{A:Around}{aA:List Env}{s s1:Shared}{H:Hp}{E:XK}{us:List Value}{vs:List V}
  (S:dG N ps scope) (hd:A.handled=none) (e0:Env0 P w K mg base A aA s H) (hl:vs.length=ps.length) (r:Vals vs us)
  (x:InCallC s s.heap.objs.size (bindL (envOfC qual scope s.heap.objs.size f cd).kindOf (ps.zip us) λ_=>none) (cellsFrom (s.heap.objs.size+1) scope.names []) (bindC (envOfC qual scope s.heap.objs.size f cd).kindOf (ps.zip us) λ_=>none) s1) :
  Inv (fF CX P w K mg base N qual scope f cd A aA s H E) [] (start N vs) H s1:=by
 have nE:ps.length<=N.length:=by have:=ej List.length S.pre;rw[jq]at this;lia
 obtain⟨h1,tk,rfl,hk⟩:=x.done;have noA:∀b:Addr,b∉(fF CX P w K mg base N qual scope f cd A aA s H E).ex:=λb z=>absurd (show b∈([]:List Addr)from z) (by simp)
 refine⟨⟨e0.mod,S.kind,rfl,rfl,ao _,λy z c h1 h2=>?_,λy hy=>?_,λy c _ h=>?_,λ_=>hd,Around.frames_deeper e0.frames,.inr ⟨rfl,rfl⟩,λb z=>absurd z (noA b),e0.bs,e0.bsz,λb _ _=>noA b,λb z=>absurd z (noA b),e0.funs,e0.frf,e0.tabs⟩,
  rfl,e0.bare,Un.kept hk,⟨_,x.toInCall.ns,λi y v h1 h2 h3=>?_⟩,λy c h=>⟨_,x.cell y c h⟩,e0.hok.fresh (ao _),λy c h=>?_,λp hp=>absurd (show p∈([]:List (Addr×Obj))from hp) (by simp),e0.hok.kept hk,?_⟩
 ·exact name_of_addr x.apart (eH h1) (eH h2)
 ·have hy:=hy;rcases hy with hy | hy
  ·exact zH hy
  ·exact absurd rfl (S.nofree _ (eH hy))
 ·exact dP (x.above y c (eH h))
 ·have hi:i<vs.length:=by
   unfold start at h2;by_cases hi:i<vs.length
   ·exact hi
   ·grind
  have ha:vs[i]?=some v:=by
   unfold start at h2;rw[iA (by grind),bR]at h2
   cases e:vs[i]? with
   | none=>rw[e]at h2;cases h2
   | some a=>rw[e]at h2;cases h2;rfl
  obtain⟨u,hu,rv⟩:=r.get ha;have hp:ps[i]?=some y:=by
   rw[<-S.pre,List.getElem?_take_of_lt (by lia)];exact h1
  have ndP:ps.Nodup:=by rw[<-S.pre];exact S.nd.sublist (List.take_sublist _ _)
  refine⟨u,rv,?_⟩;rcases S.par y (dN hp)with k | k
  ·exact .inl ⟨k,u9 ndP hp hu k⟩
  ·obtain⟨c,e⟩:=zH k;refine .inr ⟨.inl k,c,e,?_⟩;have q:=x.cell y c e;rw[vb ndP hp hu (by show scope.names.lookup y≠_;rw[k];decide)]at q
   exact q
 ·exact e0.hok.fresh (dP (x.above y c (eH h)))
 ·unfold start;show _=N.length;rw[bu,ak,List.length_replicate]
  lia
def JY{CX:IZ}{P:Program}{w:World}{K:W.Frag}{mg:Str->Option Value}{base:Heap}{k:Nat}{f:Addr}{name qual:Str}{pq9:Arguments}{body:List Stmt}{scope:Scope}{dV kV doc pm cZ ct oc:Value}{an od:Option Addr}
  {yV:Array (Option Value)} {N ps:List Str} {sp:Sp} (lk:K.lookup f=some ⟨oc,od,.func (W.fnOf name qual pq9 body scope dV kV doc pm an cZ ct),yV⟩) (EH:W.codeIn K cZ qual=true) (S:dG N ps scope)
  (len:∀vs H Q E,sp vs H Q E->vs.length=ps.length)
  (hbody:∀(A:Around) (aA:List Env) (s:Shared) (H:Hp) (vs:List V) (Q:VK) (E:XK),dM k (A.deeper (envOfC qual scope s.heap.objs.size f cZ))->sp vs H Q E ->
   ∃t,PSs (fF CX P w K mg base N qual scope f cZ A aA s H E) body t/\t {nx:=λ_ H'=>Q .bQ H',rt:=Q} (start N vs) H) :
  FnOk P w K mg base CX (k+1) f (W.fnOf name qual pq9 body scope dV kV doc pm an cZ ct) ps sp:=by
 refine⟨len,λA aA s H args us vs Q E hr e0 hb r NW=>?_⟩
 have hl:=len _ _ _ _ NW;have KX:=e0.mod.kin.keeps λb o e=>(e0.bs b o e).1
 have lim:=e0.mod.nolimit.keeps λb o e=>(e0.bs b o e).1
 have XR:∀y∈ps.zip us,scope.names.lookup y.1=some .local\/(scope.names.lookup y.1=some .cell/\((cellsFrom (s.heap.objs.size+1) scope.names []).lookup y.1).isSome=true):=by
  rintro⟨n,v⟩ hy
  rcases S.par n (wN hy).1 with q | q
  ·grind
  ·exact .inr ⟨q,W.cellsFrom_some _ _ _ (.inl q)⟩
 refine codeAny_call_function hr.depth (KX _ _ lk) rfl S.co S.gen rfl (W.codeRec_of KX EH) (hb _ _ _ _ ?_);refine Jl S.kind XR λenv he s1 x=>?_
 subst he;refine⟨lim.keeps x.toInCall.keep,codeAny_func ?_⟩;obtain⟨t,ht,hq⟩:=hbody A aA s H vs Q E (hr.deeper _) NW;have I:Inv (fF CX P w K mg base N qual scope f cZ A aA s H E) [] (start N vs) H s1:=vc S hr.hd e0 hl r x;refine js (ht [] s1 (start N vs) H _ I hq) (λfl s' hs=>?_) λe s' hs=>hs
 have fin:∀{bH:St} {H':Hp} {v:V} {u:Value},Inv (fF CX P w K mg base N qual scope f cZ A aA s H E) [] bH H' s'->RelV v u->Q v H'->CE aA P w H s Q u s' :=
  λ{bH H' v u} J rv q=>⟨v,H',J.os,J.bare,J.base,J.hok,rv,q⟩
 cases fl with
 | ret u =>
  obtain⟨v,bH,H',J,rv,q⟩:=hs;exact fin J rv q
 | next =>
  obtain⟨bH,H',J,q⟩:=hs;exact fin (v:=V.bQ) J rfl q
 | brk =>
  obtain⟨_,_,_,q⟩:=hs;exact False.elim q
 | cont =>
  obtain⟨_,_,_,q⟩:=hs;exact False.elim q
section
variable {X:Cx} {x:Str} {p pos:Pos} {e:Expr} {es:List Expr} {t:TA} {id T:String} {r:List V->Hp->VK->Prop}
def tCB(r:List V->Hp->VK->Prop)(t:TA):TE:=λσ H Q=>t σ H λvs H1=>r vs H1 Q
def mB(hc:mz X (.builtin id) r)(hg:Gl X x)(hm:X.mg x=none)(hv:bootBuiltins x=some (.builtin id))(ha:PA X (e::es) t)(hn:x≠"__name__":=by decide)(NV:(x==("__debug__":Str))=false:=by decide)
  (he:starEach (e::es) X.env=(false,eval e X.env)::starEach es X.env:=by rfl) (nE:(backTo pos (starEach es X.env)).any (·.1)=false:=by rfl):PE X (.Call (.Name x p) (e::es) [] pos) (tCB r t):=by
 intro ae s σ H Q I h;refine j5 (ld_blt I hg hm hv ?_ hn NV);exact Jg (thn (ha pos ae s σ H _ I h) (by rintro us s1 ⟨vs,H1,I1,r1,q1⟩;exact hc ae s1 σ H1 vs us Q I1 r1 q1)) he nE
def ox(hc:mz X (.type T) r)(hg:Gl X x)(hm:X.mg x=none)(hv:bootBuiltins x=some (.type T))(ha:PA X (e::es) t)(hn:x≠"__name__":=by decide)(NV:(x==("__debug__":Str))=false:=by decide)
  (he:starEach (e::es) X.env=(false,eval e X.env)::starEach es X.env:=by rfl) (nE:(backTo pos (starEach es X.env)).any (·.1)=false:=by rfl):PE X (.Call (.Name x p) (e::es) [] pos) (tCB r t):=by
 intro ae s σ H Q I h;refine j5 (ld_blt I hg hm hv ?_ hn NV);exact jX (thn (ha pos ae s σ H _ I h) (by rintro us s1 ⟨vs,H1,I1,r1,q1⟩;exact hc ae s1 σ H1 vs us Q I1 r1 q1)) he nE
end
end L2
namespace HT
open PySem PyProof.Rows
section
variable {prog:Program} {w:World} {A:Around} {E:Value->Shared->Prop} {s:Shared}
def ER(ht:IsTup s.heap t vs.toArray)(hb:IsTup s.heap b ws.toArray)(hv:vs≠[])
  (h1:ws=[]->Q (.ref t) s) (h2:ws≠[]->Q (.ref s.heap.objs.size) {s with heap:=s.heap.push {cls:=.type "tuple",data:=.seq (vs++ws).toArray}})
  (hsz:vs.length+ws.length<=sizeLine):wpAny (model prog w) A (binaryOp .Add (.ref t) (.ref b)) Q E s:=by
 obtain⟨⟨cls,dd,data,sl⟩,ho,hc,n,hd⟩:=id ht;obtain⟨⟨acu,dd2,XS,sl2⟩,ho2,JZ,n2,XT⟩:=id hb;simp only at hc hd JZ XT;subst hc hd JZ XT;have e:vs.toArray++ws.toArray=(vs++ws).toArray:=by simp
 by_cases hw:ws=[]
 ·exact concat_meets ⟨_,ho,rfl⟩ ⟨_,ho2,rfl⟩ Cv seq_tuple_add B8 B4 (B3 _ _)
   (tuple_addW1 t b vs.toArray ws.toArray n n2 dd dd2 sl sl2 (by grind) (by simp[hw])) ⟨ho,ho2,h1 hw⟩
 ·refine concat_meets ⟨_,ho,rfl⟩ ⟨_,ho2,rfl⟩ Cv seq_tuple_add B8 B4 (B3 _ _)
   (tuple_addW2 t b vs.toArray ws.toArray n n2 dd dd2 sl sl2 (by grind) (by grind) (by grind)) ⟨ho,ho2,?_⟩
  rw[e];exact h2 hw
noncomputable def eW(n d:Nat):Option Int->Nat
 | none=>d
 | some v=>if v<0 then(v+(n:Int)).toNat else min v.toNat n
def zI(n d:Nat):eW n d none=d:=rfl
def xg(n d k:Nat):eW n d (some (k:Int))=min k n:=by
 show(if(k:Int)<0 then((k:Int)+(n:Int)).toNat else min (k:Int).toNat n)=min k n
 rw[if_neg (by lia),gg]
def TM(n d:Nat)(hd:d<=n)(o:Option Int):eW n d o<=n:=by
 cases o with
 | none=>exact hd
 | some v =>
  show(if v<0 then(v+(n:Int)).toNat else min v.toNat n)<=n
  by_cases hv:v<0
  ·grind
  ·grind
def ES(v:Int)(n d:Nat):(if v<0 then max (v+(n:Int)) 0 else min v (n:Int))=((eW n d (some v):Nat):Int):=by
 show(if v<0 then max (v+(n:Int)) 0 else min v (n:Int))=(((if v<0 then(v+(n:Int)).toNat else min v.toNat n):Nat):Int)
 by_cases hv:v<0
 ·grind
 ·grind
def C4(lo hi:Option Int)(n:Nat):Builtin.Slice.sliceAdjust lo hi 1 (n:Int)=(((eW n 0 lo:Nat):Int),((eW n n hi:Nat):Int)):=by
 have h1:¬(1<0):=by lia
 unfold Builtin.Slice.sliceAdjust;simp only[h1,jt];refine Prod.ext ?_ ?_
 ·cases lo with
  | none=>rfl
  | some v=>exact ES v n 0
 ·cases hi with
  | none=>rfl
  | some v=>exact ES v n n
def C5(i j:Nat):Builtin.Slice.slicePlaces (i:Int) (j:Int) 1=j-i:=by
 unfold Builtin.Slice.slicePlaces;have h1:1>0:=by lia
 simp only[h1,iJ,Int.ediv_one];split<;>lia
def rV(p:IsPart v o)(h:Q o s):wpAny (model prog w) A (Builtin.Slice.slicePartIndex v) Q E s:=by
 cases p with
 | none=>exact slicePart_none h
 | int i t=>exact slicePart_int h
def iZ{vl vu:Value}{lo hi:Option Int}{n:Nat}{Q:Int×Int×Nat->Shared->Prop}(hs:s.heap.IsSliceOf sl vl vu .none)(pl:IsPart vl lo)(pu:IsPart vu hi)
  (h:Q (((eW n 0 lo:Nat):Int),1,eW n n hi-eW n 0 lo) s):wpAny (model prog w) A (Builtin.Slice.sliceApplied (.ref sl) (pure (n:Int))) Q E s:=by
 obtain⟨os,M6,NX,XU⟩:=id hs;unfold Builtin.Slice.sliceApplied Builtin.Slice.sliceFields;refine af (af (kf M6 XU rfl (af (kf M6 XU rfl (af (kf M6 XU rfl (aj ?_)))))));refine af (slicePart_none ?_);rw[if_neg (by decide)]
 refine af (rV pl (af (rV pu (af (aj ?_)))));show wpAny _ _ (match Builtin.Slice.sliceAdjust lo hi 1 (n:Int)with | (lo,hi)=>pure (lo,(1:Int),Builtin.Slice.slicePlaces lo hi 1)) _ _ s
 rw[C4 lo hi n];show wpAny _ _ (pure (((eW n 0 lo:Nat):Int),(1:Int),Builtin.Slice.slicePlaces ((eW n 0 lo:Nat):Int) ((eW n n hi:Nat):Int) 1)) _ _ s;rw[C5];exact aj h
def J0(xs:Array Value)(i k:Nat):((List.range k).filterMap fun(m:Nat)=>xs[((i:Int)+(m:Int)*1).toNat]?).toArray=((xs.toList.drop i).take k).toArray:=by
 have e:(fun(m:Nat)=>xs[(i+(m:Int)*1).toNat]?)=λm=>xs[i+m]?:=by
  grind
 rw[e];have:=pick_run xs i k;rw[List.filterMap_map]at this;have e2:((λx=>xs[x]?) ∘ λx=>i+x)=λm=>xs[i+m]?:=rfl
 rw[e2]at this;rw[this]
def mD{items:Array Value}{vl vu:Value}{lo hi:Option Int}{Q:Value->Shared->Prop}(ht:IsTup s.heap t items)(hs:s.heap.IsSliceOf sl vl vu .none)(pl:IsPart vl lo)(pu:IsPart vu hi)
  (hw:¬(eW items.size 0 lo=0/\eW items.size items.size hi=items.size))
  (h:Q (.ref s.heap.objs.size) {s with heap:=s.heap.push {cls:=.type "tuple",data:=.seq ((items.toList.drop (eW items.size 0 lo)).take (eW items.size items.size hi-eW items.size 0 lo)).toArray}})
  (hsz:items.size<=sizeLine):wpAny (model prog w) A (getItem (.ref t) (.ref sl)) Q E s:=by
 have ET:sizeOk (.seq ((items.toList.drop (eW items.size 0 lo)).take (eW items.size items.size hi-eW items.size 0 lo)).toArray):=by
  show((items.toList.drop (eW items.size 0 lo)).take (eW items.size items.size hi-eW items.size 0 lo)).toArray.size<=sizeLine;rw[e9,jq,wI,c6]
  lia
 have hj:eW items.size items.size hi<=items.size:=TM _ _ (ao _) hi;obtain⟨os,M6,NX,XU⟩:=id hs;have G4:s.TypeIs (.ref sl) "slice":=⟨os,M6,NX⟩;unfold getItem
 try with_reducible refine eP ?_
 first | refine af (aj ?_) | skip
 refine af (wpAny_sequenceKey ht.typeIs (by decide) ?_)
 refine af (jZ ht.typeIs nI
  (gX nI ht.typeIs entry_tuple_getitem ?_ (args_tuple_getitem _ _)))
 show wpAny _ _ (Builtin.Tuple.tupleItemsOf (.ref t) >>= _) _ _ s;refine af (tupleItemsOf_ ht ?_);refine af (oi G4 ?_);rw[if_pos (by decide)]
 refine af (iZ hs pl pu ?_);have hno:¬((((eW items.size 0 lo:Nat):Int)==0&&(1:Int)==1&&(eW items.size items.size hi-eW items.size 0 lo)==items.size)=true):=by
  grind
 show wpAny _ _ (if(((eW items.size 0 lo:Nat):Int)==0&&(1:Int)==1&&(eW items.size items.size hi-eW items.size 0 lo)==items.size)=true then _ else _) _ _ s
 rw[if_neg hno,J0]
 first
  | exact af (m:=Builtin.Tuple.tupleExact _) (iE (aj ⟨_,rfl,aj h⟩) ET)
  | exact af (m:=Builtin.Tuple.tupleExact _) (iE (af (aj (aj ⟨_,rfl,aj h⟩))) ET)
  | exact af (af (m:=Builtin.Tuple.tupleExact _) (iE (aj (aj ⟨_,rfl,aj h⟩)) ET))
  | exact af (af (m:=Builtin.Tuple.tupleExact _) (iE (aj ⟨_,rfl,aj h⟩) ET))
end
end HT
namespace L2
open PySem PySem.Spec PyProof.Rows
abbrev TO:=St->Hp->(Option Int->Hp->Prop)->Prop
def PO(X:Cx)(e:Option Expr)(t:TO):Prop :=
 ∀(ae:List (Addr×Obj)) (s:Shared) (σ:St) (H:Hp) (Q:Option Int->Hp->Prop),Inv X ae σ H s->t σ H Q ->
  wpAny (model X.prog X.w) X.A (evalPart e X.env) (λu s'=>∃o H',Inv X ae σ H' s'/\IsPart u o/\Q o H') X.xe s
def NY:TO:=λ_ H Q=>Q none H
def XW(t:TE):TO:=λσ H Q=>t σ H λx H1=>∃i,x=.int i/\Q (some i) H1
def lW:∀{us:List Value},Vals (ns.map V.int) us->IntsAre us ns:=by
 induction ns with
 | nil=>intro us r;rw[og]at r;cases r;exact .nil
 | cons n ns ih =>
  intro us r;rw[aM]at r;cases r with
  | cons r1 r2 =>
   obtain⟨t,e⟩:=r1;subst e;exact .cons n t (ih r2)
section
variable {X:Cx} {e:Expr} {te:TE} {lo hi:Option Expr} {tl th:TO} {pos p2:Pos}
def NZ:PO X none NY:=by
 intro ae s σ H Q I h;rw[evalPart_none];exact aj ⟨none,H,I,.none,h⟩
def N0(h:PE X e te):PO X (some e) (XW te):=by
 intro ae s σ H Q I hw;rw[evalPart_some];refine thn (h ae s σ H _ I hw) λu s1 ⟨x,H1,I1,r1,q1⟩=>?_
 obtain⟨i,rfl,q⟩:=q1;obtain⟨t,rfl⟩:=r1;exact⟨some i,H1,I1,.int i t,q⟩
def SlR(X:Cx)(r:V->Option Int->Option Int->Hp->VK->Prop):Prop :=
 ∀(ae:List (Addr×Obj)) (s:Shared) (σ:St) (H:Hp) (x:V) (v vl vu:Value) (lo hi:Option Int) (sl:Addr) (Q:VK),Inv X ae σ H s->RelV x v->s.heap.IsSliceOf sl vl vu .none->IsPart vl lo->IsPart vu hi->r x lo hi H Q ->
  ∃T id,typeLookup (.type T) "__getitem__"=pure (some (.builtin id))/\s.TypeIs v T/\wpAny (model X.prog X.w) X.A (getItem v (.ref sl)) (EP X ae σ Q) X.xe s
def tSl(r:V->Option Int->Option Int->Hp->VK->Prop)(te:TE)(tl th:TO):TE:=λσ H Q=>te σ H λx H1=>tl σ H1 λl H2=>th σ H2 λu H3=>r x l u H3 Q
def J1{r:V->Option Int->Option Int->Hp->VK->Prop}(hr:SlR X r)(he:PE X e te)(hl:PO X lo tl)(hu:PO X hi th):PE X (.Subscript e (.Slice lo hi none p2) pos) (tSl r te tl th):=by
 intro ae s σ H Q I h;refine Subscript_ (thn (he ae s σ H _ I h) λv s1 ⟨x,H1,I1,r1,q1⟩=>?_)
 refine wpAny_Slice (thn (hl ae s1 σ H1 _ I1 q1) λvl s2 ⟨l,H2,I2,pl,q2⟩=>thn (hu ae s2 σ H2 _ I2 q2) λvu s3 ⟨u,H3,I3,pu,q3⟩=>?_)
 rw[evalPart_none];refine aj ?_;have I4:Inv X ae σ H3 {s3 with heap:=s3.heap.push {cls:=.type "slice",data:=.fields #[vl,vu,.none]}}:=I3.kept λb ob q=>aZ _ q
 obtain⟨T,id,hT,ht,hg⟩:=hr ae {s3 with heap:=s3.heap.push {cls:=.type "slice",data:=.fields #[vl,vu,.none]}} σ H3 x v vl vu l u s3.heap.objs.size Q I4 r1 (Heap.IsSliceOf.new ..) pl pu q3
 show wpAny (model X.prog X.w) X.A (subscriptTail e (.Slice lo hi none p2) v (.ref s3.heap.objs.size)) (EP X ae σ Q) X.xe {s3 with heap:=s3.heap.push {cls:=.type "slice",data:=.fields #[vl,vu,.none]}}
 exact tail_any ht hT hg (by with_unfolding_all rfl)
def zJ(xs:List V)(lo hi:Option Int):List V:=(xs.drop (HT.eW xs.length 0 lo)).take (HT.eW xs.length xs.length hi-HT.eW xs.length 0 lo)
def pe(xs:List V)(lo hi:Option Int):(zJ xs lo hi).length<=xs.length:=by
 unfold zJ;rw[jq,wI]
 lia
def acv(K:W.Frag):V->Option Int->Option Int->Hp->VK->Prop:=λx lo hi H Q=>∃a xs,x=.ref a/\ip K H a xs /\
 ¬(HT.eW xs.length 0 lo=0/\HT.eW xs.length xs.length hi=xs.length)/\∀p,H p=none->Q (.ref p) (cw H p (.ay (zJ xs lo hi)))
def TN:SlR X (acv X.K):=by
 intro ae s σ H x v vl vu lo hi sl Q I rx hs pl pu h;obtain⟨a,xs,rfl,hx,hw,q⟩:=h;cases rx;obtain⟨aH,r,ht,hz⟩:=I.tuple hx;have eA:aH.toArray.size=xs.length:=by rw[e9];exact r.length.symm
 refine⟨"tuple",_,nI.lookup,ht.typeIs,?_⟩;refine HT.mD ht hs pl pu (by grind) ?_ (by grind)
 rw[eA];refine⟨.ref s.heap.objs.size,_,I.laid (λb ob q=>aZ _ q) (ao _) ?_,rfl,q _ (I.hok.fresh (ao _))⟩
 exact⟨bE (pe xs lo hi) hz,_,(r.drop (HT.eW xs.length 0 lo)).take (HT.eW xs.length xs.length hi-HT.eW xs.length 0 lo),IsTup.new _ _⟩
def XX(K:W.Frag):R2:=λx y H Q=>∃a b xs ys,x=.ref a/\y=.ref b/\ip K H a xs/\ip K H b ys/\xs≠[]/\xs.length+ys.length<=sizeLine /\
 (ys=[]->Q (.ref a) H)/\(ys≠[]->∀p,H p=none->Q (.ref p) (cw H p (.ay (xs++ys))))
def Vals.mE(r:Vals xs us):us=[]↔xs=[]:=by
 cases r with
 | nil=>simp
 | cons _ _=>simp
def N1:OpR X (binaryOp .Add) (XX X.K):=by
 intro ae s σ H x y v u Q I rx ry h;obtain⟨a,b,xs,ys,rfl,rfl,ha,hb,hx,hz,q1,q2⟩:=h;cases rx;cases ry;obtain⟨aH,r1,p1,_⟩:=I.tuple ha;obtain⟨gZ,r2,p2,_⟩:=I.tuple hb;refine HT.ER p1 p2 (λz=>hx (r1.mE.mp z)) (λz=>⟨.ref a,H,I,rfl,q1 (r2.mE.mp z)⟩) (λz=>?_) (by rw[<-r1.length,<-r2.length];exact hz)
 refine⟨.ref s.heap.objs.size,_,I.laid (λb ob q=>aZ _ q) (ao _) ?_,rfl,q2 (λw=>z (r2.mE.mpr w)) _ (I.hok.fresh (ao _))⟩
 exact⟨by grind,_,r1.append r2,IsTup.new _ _⟩
end
noncomputable def N2(n:Nat)(i:Int):Option Nat:=if 0<=i then(if i<n then some i.toNat else none)else if -(n:Int)<=i then some (i+n).toNat else none
def mn{α:Type}(xs:List α)(i:Int):Option α:=(N2 xs.length i).bind λj=>xs[j]?
def EU(h:N2 n i=some j):seqIndex? i n=some j/\j<n /\ -(n:Int)<=i/\i<n:=by
 unfold N2 at h;by_cases h0:0<=i
 ·rw[if_pos h0]at h;by_cases h1:i<n
  ·rw[if_pos h1]at h;have e:=cH h;exact⟨by rw[seqIndex_of h0 h1,e],by lia,by lia,h1⟩
  ·grind
 ·rw[if_neg h0]at h;by_cases h1:-n<=i
  ·rw[if_pos h1]at h;have e:=cH h;exact⟨by rw[seqIndex_neg (by lia) h1,e],by lia,h1,by lia⟩
  ·grind
def xh{α:Type}{xs:List α}{i:Int}{v:α}(h:mn xs i=some v):∃j,seqIndex? i xs.length=some j/\xs[j]?=some v/\j<xs.length /\ -(xs.length:Int)<=i/\i<xs.length:=by
 unfold mn at h;cases e:N2 xs.length i with
 | none=>rw[e]at h;cases h
 | some j =>
  rw[e]at h;obtain⟨h1,h2,h3,h4⟩:=EU e;exact⟨j,h1,h,h2,h3,h4⟩
def atI_nat{α:Type}{xs:List α}{j:Nat}{v:α}(h:xs[j]?=some v):mn xs (j:Int)=some v:=by
 have hj:=(cf.mp h).1;have e:N2 xs.length j=some j:=by
  unfold N2;rw[if_pos (by lia),if_pos (by lia)];simp
 unfold mn;rw[e];exact h
def qp(b:Expr):Prop:=∀o i,subscripted b false o i=operate [o,i] (getItem o i)
def WQ(X:Cx)(r:R2):Prop :=
 ∀(value slice:Expr) (ae:List (Addr×Obj)) (s:Shared) (σ:St) (H:Hp) (x y:V) (v u:Value) (Q:VK),Inv X ae σ H s->RelV x v->RelV y u->r x y H Q ->
  subscripted slice false v u=operate [v,u] (getItem v u)->wpAny (model X.prog X.w) X.A (subscriptTail value slice v u) (EP X ae σ Q) X.xe s
def MtR(X:Cx)(id:String)(r:V->List V->Hp->VK->Prop):Prop :=
 ∀(ae:List (Addr×Obj)) (s:Shared) (σ:St) (H:Hp) (x:V) (xs:List V) (v:Value) (us:List Value) (Q:VK),Inv X ae σ H s->RelV x v->Vals xs us->r x xs H Q ->
  wpAny (model X.prog X.w) X.A (call (.builtin id) (v::us)) (EP X ae σ Q) X.xe s
section
variable {X:Cx} {a b:Expr} {ta tb:TE} {pos:Pos}
def QT(hr:WQ X r)(ha:PE X a ta)(hb:PE X b tb)(hs:qp b):PE X (.Subscript a b pos) (WO r ta tb):=by
 intro ae s σ H Q I h;exact Subscript_ (NG ha hb I h λv u s2 x y H2 I2 rx ry q=>hr a b ae s2 σ H2 x y v u Q I2 rx ry q (hs _ _))
def acw(K:W.Frag):R2:=λx y H Q=>∃p xs i v,x=.ref p/\y=.int i/\xb K H p xs/\mn xs i=some v/\Q v H
def acx(K:W.Frag):R2:=λx y H Q=>∃p xs i v,x=.ref p/\y=.int i/\ip K H p xs/\mn xs i=some v/\Q v H
def acy:R2:=λx y H Q=>∃z i c,x=.str z/\y=.int i/\z.length<=sizeLine/\mn z.cps.toList i=some c/\Q (.str ⟨#[c]⟩) H
def N3:WQ X (acw X.K):=by
 intro value slice ae s σ H x y v u Q I rx ry h hs;obtain⟨p,xs,i,z,rfl,rfl,hq,he,q⟩:=h;cases rx;obtain⟨t,rfl⟩:=ry;obtain⟨aH,r,pl,hz⟩:=I.list hq;obtain⟨j,h1,h2,h3,h4,h5⟩:=xh he;obtain⟨w,ew,TQ⟩:=r.get h2;have hl:=r.length;have hn:=lV;have fin:EP X ae σ Q w s:=⟨z,H,I,TQ,q⟩;by_cases h0:0<=i
 ·have hj:i.toNat=j:=by
   rw[seqIndex_of h0 h5]at h1;exact cH h1
  exact item_listR pl.isList h0 (by lia) (by grind) fin hs
 ·have hj:(i+(aH.toArray.size:Int)).toNat=j:=by
   rw[seqIndex_neg (by lia) h4]at h1
   rw[e9,<-hl];exact cH h1
  exact subscriptTail_builtinR pl.isList.typeIs slot_list_getitem.lookup
   (wpAny_getItem_list_neg pl.isList (by lia) (by grind) (by lia) (by grind) ⟨rfl,fin⟩) hs
def TR:WQ X (acx X.K):=by
 intro value slice ae s σ H x y v u Q I rx ry h hs;obtain⟨p,xs,i,z,rfl,rfl,hq,he,q⟩:=h;cases rx;obtain⟨t,rfl⟩:=ry;obtain⟨aH,r,pl,hz⟩:=I.tuple hq;obtain⟨j,h1,h2,h3,h4,h5⟩:=xh he;obtain⟨w,ew,TQ⟩:=r.get h2;have hl:=r.length;have hn:=lV;have fin:EP X ae σ Q w s:=⟨z,H,I,TQ,q⟩;exact subscriptTail_builtinR pl.typeIs slot_tuple_getitem.lookup
  (getItem_tuple pl (by lia) (by lia) (by rw[e9,<-hl];exact h1) (by grind) ⟨rfl,fin⟩) hs
def TU:WQ X acy:=by
 intro value slice ae s σ H x y v u Q I rx ry h hs;obtain⟨z,i,c,rfl,rfl,hz,he,q⟩:=h;obtain⟨t,rfl⟩:=rx;obtain⟨t',rfl⟩:=ry;obtain⟨j,h1,h2,h3,h4,h5⟩:=xh he;have hl:z.cps.toList.length=z.length:=by simp[Str.length]
 rw[hl]at h1 h4 h5;have hn:=lV;exact tail_any (typeIs_str s z t) slot_str_getitem.lookup (getItem_str (by
  grind) (by grind) ⟨.str ⟨#[c]⟩,H,I.tok _,⟨_,rfl⟩,q⟩) hs
def C6(aH:List Value)(n j:Nat)(u:Value):Obj.mapSeq (·.setIfInBounds j u) {cls:=.type "list",data:=.seq aH.toArray n}={cls:=.type "list",data:=.seq (aH.set j u).toArray n}:=by
 simp[Obj.mapSeq]
def Inv.lst{ae:List (Addr×Obj)}{σ:St}{H:Hp}{s:Shared}{p:Addr}{xs:List V}(I:Inv X ae σ H s)(h:H p=some (.lst xs)) :
  ∃(aH:List Value) (n:Nat),Vals xs aH/\s.heap.get? p=some {cls:=.type "list",data:=.seq aH.toArray n}/\xs.length<=sizeLine:=by
 obtain⟨z,aH,n,r,e⟩:=I.hok p _ h;exact⟨aH,n,r,e,z⟩
def Inv.TV{ae:List (Addr×Obj)}{σ:St}{H:Hp}{s:Shared}{p:Addr}{xs ys:List V}{aH pU:List Value}{n n':Nat}{f:Obj->Obj}(I:Inv X ae σ H s)(h:H p=some (.lst xs))
  (ho:s.heap.get? p=some {cls:=.type "list",data:=.seq aH.toArray n}) (hf:f {cls:=.type "list",data:=.seq aH.toArray n}={cls:=.type "list",data:=.seq pU.toArray n'}) (r:Vals ys pU) (hz:ys.length<=sizeLine) (t:Nat) :
  Inv X ae σ (cw H p (.lst ys)) {s with heap:=s.heap.update p f,toks:=t}:=by
 have e:(s.heap.update p f).get? p=some {cls:=.type "list",data:=.seq pU.toArray n'}:=by
  rw[qT f ho (by rw[hf]<;>rfl),hf]
 refine I.write (by rw[h];trivial) (.inl rfl) (λb u hb q=>(wm _ _ (dn hb)).trans q) ⟨_,e⟩ ?_
 exact⟨hz,pU,n',r,e⟩
def XY:V->V->V->Hp->(Hp->Prop)->Prop:=λo i v H Q=>∃p xs k j,o=.ref p/\i=.int k/\H p=some (.lst xs)/\N2 xs.length k=some j/\Q (cw H p (.lst (xs.set j v)))
def J2:JJ X XY:=by
 intro ae s σ H o i v ov iv u Q I ro ri rv h;obtain⟨p,xs,k,j,rfl,rfl,hp,hj,q⟩:=h;cases ro;obtain⟨t,rfl⟩:=ri;obtain⟨aH,n,r,ho,hz⟩:=I.lst hp;obtain⟨h1,h2,h3,h4⟩:=EU hj;have hl:=r.length;have hn:=lV;have I':Inv X ae σ (cw H p (.lst (xs.set j v))) {s with heap:=s.heap.update p (Obj.mapSeq (·.setIfInBounds j u))} :=
  I.TV hp ho (C6 aH n j u) (r.set rv j) (by grind) s.toks
 by_cases h0:0<=k
 ·have hk:k.toNat=j:=by
   rw[seqIndex_of h0 h4]at h1;exact cH h1
  exact W.ki_setAt ho h0 (by lia) (by grind) (by grind)
 ·have hk:(k+(aH.toArray.size:Int)).toNat=j:=by
   rw[seqIndex_neg (by lia) h3]at h1
   rw[e9,<-hl];exact cH h1
  exact W.ki_setBack ho (by lia) (by grind) (by lia) (by grind)
def xi(lo hi:Option Int)(n:Nat):(sliceBounds lo hi none n).1=((HT.eW n 0 lo:Nat):Int)/\(sliceBounds lo hi none n).2.1=((HT.eW n n hi:Nat):Int)/\(sliceBounds lo hi none n).2.2=1:=by
 refine⟨?_,?_,rfl⟩
 ·cases lo with
  | none=>simp[sliceBounds,HT.eW]
  | some i =>
   simp only[sliceBounds,HT.eW,Cp,show 1>0 by decide,iJ]
   by_cases h:i<0
   ·grind
   ·grind
 ·cases hi with
  | none=>simp[sliceBounds,HT.eW]
  | some i =>
   simp only[sliceBounds,HT.eW,Cp,show 1>0 by decide,iJ]
   by_cases h:i<0
   ·grind
   ·grind
def uA(aH:List Value)(lo hi:Option Int):slicePick aH.toArray lo hi none=((aH.drop (HT.eW aH.length 0 lo)).take (HT.eW aH.length aH.length hi-HT.eW aH.length 0 lo)).toArray:=by
 obtain⟨h1,h2,h3⟩:=xi lo hi aH.toArray.size;unfold slicePick;rw[h1,h2,h3];simp only[sliceRange_one,pick_run,e9]<;>rfl
def acz(K:W.Frag):V->Option Int->Option Int->Hp->VK->Prop:=λx lo hi H Q=>∃a xs,x=.ref a/\xb K H a xs/\∀p,H p=none->Q (.ref p) (cw H p (.lst (zJ xs lo hi)))
def N4:SlR X (acz X.K):=by
 intro ae s σ H x v vl vu lo hi sl Q I rx hs pl pu h;obtain⟨a,xs,rfl,hx,q⟩:=h;cases rx;obtain⟨aH,r,ht,hz⟩:=I.list hx;have eA:=r.length;refine⟨"list",_,slot_list_getitem.lookup,ht.isList.typeIs,?_⟩;refine wpAny_getItem_list_slice ht.isList hs pl pu .none (by simp) ?_ (by grind)
 rw[uA,<-eA];refine⟨.ref s.heap.objs.size,_,I.laid (λb ob q=>aZ _ q) (ao _) ?_,rfl,q _ (I.hok.fresh (ao _))⟩
 exact⟨bE (pe xs lo hi) hz,_,0,(r.drop (HT.eW xs.length 0 lo)).take (HT.eW xs.length xs.length hi-HT.eW xs.length 0 lo),cB _ rfl⟩
def mF:mz X (.builtin "len") (λxs H Q=>∃p ys,xs=[.ref p]/\(xb X.K H p ys\/ip X.K H p ys)/\Q (.int ys.length) H):=by
 intro ae s σ H xs us Q I r h;obtain⟨p,ys,rfl,hq,q⟩:=h;obtain⟨u,rfl,rx⟩:=jL r;cases rx;have hn:=lV;rcases hq with hq | hq
 ·obtain⟨aH,r',pl,hz⟩:=I.list hq;have eA:=r'.length;exact Calls.call_len_list pl.isList (by grind) ⟨.int ys.length,H,I.tok _,⟨s.toks+1,by grind⟩,q⟩
 ·obtain⟨aH,r',pl,hz⟩:=I.tuple hq;have eA:=r'.length;exact len_tuple pl (by grind) ⟨.int ys.length,H,I.tok _,⟨s.toks+1,by grind⟩,q⟩
def xj:mz X (.builtin "len") (λxs H Q=>∃z,xs=[.str z]/\z.length<=sizeLine/\Q (.int z.length) H):=by
 intro ae s σ H xs us Q I r h;obtain⟨z,rfl,hz,q⟩:=h;obtain⟨u,rfl,t,rfl⟩:=jL r;have hn:=lV;exact len_str (by lia) ⟨.int z.length,H,I.tok _,⟨_,rfl⟩,q⟩
def lr:mz X (.type "tuple") (λxs H Q=>∃p ys,xs=[.ref p]/\((xb X.K H p ys/\∀l,H l=none->Q (.ref l) (cw H l (.ay ys)))\/(ip X.K H p ys/\Q (.ref p) H))):=by
 intro ae s σ H xs us Q I r h;obtain⟨p,ys,rfl,h⟩:=h;obtain⟨u,rfl,rx⟩:=jL r;cases rx;rcases h with⟨hq,q⟩ | ⟨hq,q⟩
 ·obtain⟨aH,r',pl,hz⟩:=I.list hq;have eA:=r'.length;refine call_tuple_list pl.isList (λh' kp=>?_) (by grind)
  have I1:=I.kept (t':=s.toks) kp;have I2:Inv X ae σ (cw H h'.objs.size (.ay ys)) {s with heap:=h'.push {cls:=.type "tuple",data:=.seq aH.toArray}} :=
   I1.laid (λb o e=>aZ _ e) (ao _) (⟨hz,aH,r',IsTup.new _ _⟩)
  exact⟨.ref h'.objs.size,_,I2,rfl,q _ (I1.hok.fresh (ao _))⟩
 ·obtain⟨aH,r',pl,hz⟩:=I.tuple hq;exact call_tuple_same pl ⟨.ref p,H,I,rfl,q⟩
def tyV(K:W.Frag)(T:String)(x:V)(H:Hp):Prop:=match x with
 | .str _=>T="str"
 | .int _=>T="int"
 | .ref p=>(T="list"/\∃xs,xb K H p xs)\/(T="tuple"/\∃o,K.lookup p=some o/\o.cls=.type "tuple"/\o.dict=none) \/
   (T="dict"/\((∃kvs,H p=some (.dK kvs))\/∃kvs,H p=some (.dT kvs)))\/(T="set"/\∃S n,H p=some (.set S n))
 | _=>False
def J3{ae:List (Addr×Obj)}{σ:St}{H:Hp}{s:Shared}{T:String}{x:V}{v:Value}(I:Inv X ae σ H s)(r:RelV x v)(ty:tyV X.K T x H) :
  s.TypeIs v T/\∀a,v=.ref a->∃ob,s.heap.get? a=some ob/\ob.dict=none:=by
 cases x with
 | str z =>
  obtain⟨t,rfl⟩:=r;cases(ty);exact⟨typeIs_str s z t,λ_ e=>nomatch e⟩
 | int i =>
  obtain⟨t,rfl⟩:=r;cases(ty);exact⟨typeIs_int s i t,λ_ e=>nomatch e⟩
 | ref p =>
  cases r;rcases ty with⟨rfl,xs,hq⟩ | ⟨rfl,o,hk,hc,hd⟩ | ⟨rfl,hk⟩ | ⟨rfl,S,n,hk⟩
  ·obtain⟨aH,_,pl,_⟩:=I.list hq;refine⟨pl.isList.typeIs,λa e=>?_⟩
   cases e;obtain⟨o,n,e,c,hd,_⟩:=pl;exact⟨o,e,hd⟩
  ·refine⟨⟨o,I.rM p o hk,hc⟩,λa e=>?_⟩
   cases e;exact⟨o,I.rM _ o hk,hd⟩
  ·have z:∃o,s.heap.get? p=some o/\o.ExactDict:=by
    rcases hk with⟨kvs,hk⟩ | ⟨kvs,hk⟩
    ·obtain⟨_,_,_,_,o,_,_,e,ex,_⟩:=I.hok p _ hk;exact⟨o,e,ex⟩
    ·obtain⟨_,_,o,_,_,e,ex,_⟩:=(I.hok p _ hk);exact⟨o,e,ex⟩
   obtain⟨o,e,ex⟩:=z;refine⟨⟨o,e,ex.1⟩,λa e2=>?_⟩
   cases e2;exact⟨o,e,ex.2.1⟩
  ·obtain⟨o,_,_,_,e,ex,_⟩:=I.hok p _ hk;refine⟨⟨o,e,ex.1⟩,λa e2=>?_⟩
   cases e2;exact⟨o,e,ex.2.1⟩
 | _=>exact False.elim ty
def XZ(K:W.Frag)(T:String)(r:V->List V->Hp->VK->Prop)(to:TE):TE:=λσ H Q=>to σ H λx H1=>tyV K T x H1/\r x [] H1 Q
def tBM(K:W.Frag)(T:String)(r:V->List V->Hp->VK->Prop)(to:TE)(t:TA):TE:=λσ H Q=>to σ H λx H1=>tyV K T x H1/\t σ H1 λxs H2=>r x xs H2 Q
variable {o e:Expr} {es:List Expr} {to:TE} {t:TA} {name:Str} {rF kY:Pos} {T id:String} {r:V->List V->Hp->VK->Prop}
def J4(pa:PlainAttrs T)(slot:Slot T name id)(hty:typeOf (.builtin id)=pure (.type "method_descriptor"))(hm:MtR X id r)(ho:PE X o to)
  (lu:attributeBase o name X.env (eval o X.env)=eval o X.env:=by rfl) (jM:(rF.endLine==kY.line)=true:=by rfl):PE X (.Call (.Attribute o name rF) [] [] kY) (XZ X.K T r to):=by
 intro ae s σ H Q I h;refine wpAny_Call_method0_late lu jM (thn (ho ae s σ H _ I h) λv s1 z9=>?_)
 obtain⟨x,H1,I1,r1,ty,q1⟩:=z9;obtain⟨h1,h2⟩:=J3 I1 r1 ty;exact⟨T,id,pa,slot,hty,h1,h2,Calls.callWith_builtin rfl (PySem.evalArgs_none (hm ae s1 σ H1 x [] v [] Q I1 r1 .nil q1))⟩
def EV(pa:PlainAttrs T)(slot:Slot T name id)(hty:typeOf (.builtin id)=pure (.type "method_descriptor"))(hm:MtR X id r)(ho:PE X o to)(ha:PA X (e::es) t)
  (lu:attributeBase o name X.env (eval o X.env)=eval o X.env:=by rfl)
  (G5:((backTo kY (starEach (e::es) X.env)).all (λx=>!x.1)&&(backToKw kY (keywordEach [] X.env)).all (λx=>x.1.isSome)
   && decide ((e::es).length+([]:List Keyword).length+(if([]:List Keyword).isEmpty then 0 else 1)<30))=true:=by rfl)
  (jM:(rF.endLine==kY.line)=true:=by rfl) (hs:starEach (e::es) X.env=(false,eval e X.env)::starEach es X.env:=by rfl) (acB:(backTo kY (starEach es X.env)).any (·.1)=false:=by rfl) :
  PE X (.Call (.Attribute o name rF) (e::es) [] kY) (tBM X.K T r to t):=by
 intro ae s σ H Q I h;refine wpAny_Call_method_late lu G5 jM rfl (thn (ho ae s σ H _ I h) λv s1 z9=>?_)
 obtain⟨x,H1,I1,r1,ty,q1⟩:=z9;obtain⟨h1,h2⟩:=J3 I1 r1 ty;refine⟨T,id,pa,slot,hty,h1,h2,?_⟩;have hA:=ha kY ae s1 σ H1 _ I1 q1;rw[hs]at hA ⊢;refine Calls.callWith_builtin (by grind) (Calls.evalArgs_plain ?_)
 exact thn hA (by rintro us s2 ⟨vs,H2,I2,r2,q2⟩;exact hm ae s2 σ H2 x vs v us Q I2 r1 r2 q2)
end
def MtM(X:Cx)(id:String)(r:V->List V->Hp->VK->Prop):Prop :=
 ∀(ae:List (Addr×Obj)) (s:Shared) (σ:St) (H:Hp) (x:V) (xs:List V) (v:Value) (us:List Value) (Q:VK),Inv X ae σ H s->RelV x v->Vals xs us->r x xs H Q ->
  wpAny (model X.prog X.w) X.A (call (.builtin id) (v::us)) (EP X ae σ Q) X.xe s
theorem Vals.one:∀{x:V} {us:List Value},Vals [x] us->∃u,us=[u]/\RelV x u
 | _,_,.cons r .nil=>⟨_,rfl,r⟩
def Vals.two{x y:V}{us:List Value}(h:Vals [x,y] us):∃u v,us=[u,v]/\RelV x u/\RelV y v:=by
 cases h with
 | cons r h=>cases h with
  | cons q h=>cases h;exact⟨_,_,rfl,r,q⟩
theorem Vals.zero:∀{us:List Value},Vals [] us->us=[]
 | _,.nil=>rfl
def Vals.reverse(h:Vals xs us):Vals xs.reverse us.reverse:=by
 induction h with
 | nil=>exact .nil
 | cons r t ih=>rw[wF,wF];exact Vals.append ih (.cons r .nil)
section
variable {X:Cx} {ae:List (Addr×Obj)} {σ:St} {H:Hp} {s:Shared} {l b:Addr} {xs ys zs:List V}
def Inv.N5{aH pU:List Value}{n:Nat}{f:Array Value->Array Value}{t':Nat}(I:Inv X ae σ H s)(hH:H l=some (.lst xs))
  (e:s.heap.get? l=some {cls:=.type "list",data:=.seq aH.toArray n}) (hf:f aH.toArray=pU.toArray) (hv:Vals ys pU) (hz:ys.length<=sizeLine) :
  Inv X ae σ (cw H l (.lst ys)) {s with heap:=s.heap.update l (Obj.mapSeq f),toks:=t'}:=by
 have q:=PySem.IsL.update e f;rw[hf]at q;refine I.write (by rw[hH];exact trivial) (.inl rfl) (λb' u hb hu=>(wm s.heap (Obj.mapSeq f) (dn hb)).trans hu) ⟨_,q⟩ ?_
 exact⟨hz,pU,_,hv,q⟩
def Inv.acC(I:Inv X ae σ H s)(hv:Vals ys aH)(hz:ys.length<=sizeLine) :
  Inv X ae σ (cw H s.heap.objs.size (.lst ys)) {s with heap:=s.heap.push {cls:=.type "list",data:=.seq aH.toArray},toks:=t'} :=
 I.laid (λ_ _ q=>aZ _ q) (ao _) ⟨hz,aH,0,hv,cB _ rfl⟩
def Inv.fresh(I:Inv X ae σ H s):H s.heap.objs.size=none:=I.hok.fresh (ao _)
def Inv.iK(I:Inv X ae σ H s)(hH:H l=some (.lst xs)):xs.length<=sizeLine/\∃(aH:List Value) (n:Nat),Vals xs aH/\xs.length=aH.length/\s.heap.get? l=some {cls:=.type "list",data:=.seq aH.toArray n}:=by
 obtain⟨z,aH,n,r,e⟩:=I.hok l _ hH;exact⟨z,aH,n,r,r.length,e⟩
def J5(h:n<=sizeLine):Builtin.List.listTooLong n=false:=by
 unfold Builtin.List.listTooLong;exact j9 (by lia)
end
section
variable {X:Cx}
def EW:V->List V->Hp->VK->Prop:=λx vs H Q=>∃l xs y,x=.ref l/\vs=[y]/\H l=some (.lst xs)/\xs.length<sizeLine/\Q .bQ (cw H l (.lst (xs++[y])))
def G6:MtM X "list.append" EW:=by
 intro ae s σ H x vs v us Q I rx rv h;obtain⟨l,xs,y,rfl,rfl,hH,hz,q⟩:=h;cases rx;obtain⟨u,rfl,ru⟩:=rv.one;obtain⟨z,aH,n,r,hl,e⟩:=I.iK hH;refine lR F.slot_list_append ⟨_,e,rfl⟩ F.entry_list_append (F.args_list_append_2 _ _) (PySem.list_append l aH.toArray n u (by grind)) ⟨e,?_⟩
 refine⟨.bQ,_,I.N5 hH e (by simp) (r.append (.cons ru .nil)) ?_,rfl,q⟩
 rw[bu,List.length_singleton]
 lia
def zK:V->List V->Hp->VK->Prop:=λx vs H Q=>∃l xs,x=.ref l/\vs=[]/\H l=some (.lst xs)/\Q .bQ (cw H l (.lst xs.reverse))
def C7:MtM X "list.reverse" zK:=by
 intro ae s σ H x vs v us Q I rx rv h;obtain⟨l,xs,rfl,rfl,hH,q⟩:=h;cases rx;have hus:=rv.zero;subst hus;obtain⟨z,aH,n,r,hl,e⟩:=I.iK hH;refine lR F.slot_list_reverse ⟨_,e,rfl⟩ F.entry_list_reverse (F.args_list_reverse_1 _) (AutoSeq1.list_reverse_list_0 l aH.toArray n (by grind)) ⟨e,?_⟩
 refine⟨.bQ,_,I.N5 hH e (by simp) r.reverse ?_,rfl,q⟩
 rw[List.length_reverse]
 lia
end
end L2
namespace Att
open PySem PySem.W PySem.Calls PyProof.Rows
def pV:∀(ns:List Int) (vs:List Value),WellAll P h vs (ns.map WData.int)->IntsAre vs ns:=by
 intro ns;induction ns with
 | nil =>
  intro vs w;rw[og]at w;cases w;exact .nil
 | cons n ns ih =>
  intro vs w;rw[aM]at w;cases w with
  | cons a b =>
   cases a;exact .cons _ _ (ih _ b)
def G7{l:OpenLaw}(hn:l.most=some n) 
  (N6:l.row.toRowW.claim.pre args=true) (hwl:WellAll P h X0 args) :
  ∃a vs ns,X0=[Value.ref a]/\args=[WData.list (ns.map WData.int)]/\h.get? a=some {cls:=.type "list",data:=.seq vs.toArray}/\IntsAre vs ns/\ns.length<=n:=by
 have hsh:=(pre_splitW N6).1;have hc:l.pre.holds [] {args:=args}=true:=(pre_splitW N6).2
 obtain⟨d,r,rfl,h1,h2⟩:=hasAllW_cons hsh;obtain rfl:=hasAllW_nil h2;obtain⟨xs,rfl,h3⟩:=hasW_list h1;obtain⟨ns,rfl⟩:=items_int h3;have eA:ns.length<=n:=by
  unfold OpenLaw.pre at hc;have h4:(WTm.not (.lt (.lit (.int n)) (.len (.arg 0)))).holds [] {args:=[.list (ns.map .int)]}=true:=by
   have h4:=(holds_andW hc).1;rw[hn]at h4;exact h4
  have h5:=condW_of h4 (w_not (w_lt w_lit (w_len_list (w_arg rfl))));rw[ak]at h5;refine nV λq=>?_
  have q':n<(ns.length:Nat):=by lia
  first
   | (rw[dE q']at h5;exact absurd h5 (by decide))
   | (simp at h5;lia)
 cases hwl with
 | cons w1 w2 =>
  cases w2;cases w1 with
  | list ho G8=>exact⟨_,_,ns,rfl,rfl,ho,pV ns _ G8,eA⟩
def G9(l:OpenLaw)(args:List WData):l.row.toRowW.claim.post args (.bool true) args=true :=
 postW_of
  (show WShape.has [] (.bool true) .bool=true by first | rfl | decide | simp[WShape.has,WShape.arms,WShape.armsAll])
  (w_eq_bool (w_res rfl) w_lit) rfl
def zL{l:OpenLaw}{n:Nat}{loose:List Str}{XP:(Str->Option Value)->Heap->Prop}{YP:World->Heap->Prop}{d:DefRec}
  (hn:l.most=some n) (hdf:d.params.defaults=[])
  (call:∀(w:World) (s₀ s₁:Shared) (mg mb:Str->Option Value) (fa:Addr) (o:Obj) (pm cd doc:Value) (a:Addr) (vs:List Value) (ns:List Int),
   Ground q loose [] XP w s₀ mg mb s₁.heap->YP w s₁.heap ->
   s₁.heap.get? fa=some o->o.data=.func (docDef d.name d.params d.body d.scope pm cd doc)->s₁.heap.CodeRec cd d.name->mg d.name=some (.ref fa) ->
   s₁.heap.get? a=some {cls:=.type "list",data:=.seq vs.toArray}->IntsAre vs ns->ns.length<=n->s₁.gens=#[] ->
   codeAny (model l.prog w) callerA (.call (.ref fa) ⟨[.ref a],[]⟩) (λr s'=>r=.ok (.ret (.bool true))/\OldK s₁.heap s'.heap/\s'.os=s₁.os/\AllBare s'.gens) s₁) :
  WalkO q loose XP YP l.row.toRowW d [] (λf vs=>PySem.call f vs):=by
 intro w s₀ s₁ mg mb G Y fa o pm cd doc dV kV ho hd EH hD N7 hg args X0 as N6 agu hrd hwl hlo;obtain rfl:dV=.none:=Dflts.none hD hdf;obtain rfl:kV=.none:=Dflts.noKw hD;obtain⟨a,vs,ns,rfl,rfl,J6,J7,eA⟩:=G7 hn N6 hwl;refine enter_call (ka (call w s₀ s₁ mg mb fa o pm cd doc a vs ns G Y ho (fd_plain hd) EH N7 J6 J7 eA hg) λr s' hq=>?_)
 obtain⟨rfl,h2,h3,h4⟩:=hq;exact⟨.inl ⟨.bool true,.bool true,[],rfl,λ_=>rfl,.bool true,G9 l _,λ_=>⟨List.Pairwise.nil,λ_ hm=>(nomatch hm)⟩⟩,h2,h3,h4⟩
end Att
namespace L2
open PySem PySem.Spec PyProof.Rows
theorem vd:∀{vs:List Value} {ns:List Int},IntsAre vs ns->Vals (ns.map V.int) vs
 | _,_,.nil=>.nil
 | _,_,.cons n t h=>.cons ⟨t,rfl⟩ (vd h)
def Ha{P:Program}{w:World}{K:W.Frag}{mg mb:Str->Option Value}{CX:IZ}{k:Nat}{fa a:Addr}{fd:FuncData}{x:Str}{sp:Sp}{s₁:Shared}{vs:List Value}{ns:List Int}{tabs:List (Addr×Str)}
  (KX:K.In s₁.heap) (J8:s₁.heap.Ns mainGlobals mg) (hb:s₁.heap.Ns builtinsNs mb) (hbb:∀x:Str,x≠"__name__"->mb x=bootBuiltins x) (N8:s₁.heap.NoLimit) (hg:s₁.gens=#[])
  (hT:∀b q,tabs.lookup b=some q->s₁.heap.get? b=some {cls:=.none,data:=.fields #[]}/\isCodeTable s₁.heap b/\K.lookup b=none) (hTI:∀H:Hp,(∀b q,tabs.lookup b=some q->H b=some (.CF q))->rL K H)
  (ha:s₁.heap.get? a=some {cls:=.type "list",data:=.seq vs.toArray}) (hi:IntsAre vs ns) (hl:ns.length<=sizeLine) (hr:dM k callerA)
  (F:∀base:Heap,K.In base->base.Ns mainGlobals mg->FnOk P w K mg base CX k fa fd [x] sp) (X1:∀(s:Shared) (u:Value),BindsTo s fd ⟨[u],[]⟩ [(x,u)])
  (NW:∀H:Hp,kJ K H a (ns.map V.int)->sp [.ref a] H (λv _=>v=.bl true) λ_ _ _=>False) (hCX:∀H e s',CX [] H s₁ (λ_ _ _=>False) e s'->False) :
  codeAny (model P w) callerA (.call (.ref fa) ⟨[.ref a],[]⟩) (λr s'=>r=.ok (.ret (.bool true))/\OldK s₁.heap s'.heap/\s'.os=s₁.os/\AllBare s'.gens) s₁:=by
 have rv:=vd hi;have gH:=hi.length
 let oa:Obj:={cls:=.type "list",data:=.seq vs.toArray}
 let H:Hp:=λb=>if b=a/\K.lookup a=none then some (.oY oa (.lst (ns.map V.int)))else(tabs.lookup b).map HO.CF
 have acG:∀b,H b=if b=a/\K.lookup a=none then some (.oY oa (.lst (ns.map V.int)))else(tabs.lookup b).map HO.CF:=λ_=>rfl
 have hHt:∀b q,tabs.lookup b=some q->H b=some (.CF q):=λb q e=>by
  grind
 have hH:∀b u,H b=some u->(b=a/\K.lookup a=none/\u=.oY oa (.lst (ns.map V.int)))\/∃q,tabs.lookup b=some q/\u=.CF q:=λb u e=>by
  rw[acG]at e;by_cases h:b=a/\K.lookup a=none
  ·grind
  ·rw[if_neg h]at e;cases z:tabs.lookup b with
   | none=>rw[z]at e;cases e
   | some q=>rw[z]at e;cases e;exact .inr ⟨q,rfl,rfl⟩
 have hS:kJ K H a (ns.map V.int):=by
  cases hk:K.lookup a with
  | some o =>
   have e:=KX a o hk;rw[ha]at e;cases e;exact .inr ⟨vs,_,hk,by grind,rv⟩
  | none=>exact .inl (.inr ⟨oa,by grind⟩)
 have hok:lT P w H s₁.heap:=λb u e=>by
  rcases hH b u e with⟨rfl,_,rfl⟩ | ⟨q,hq,rfl⟩
  ·exact⟨ha,by grind,vs,_,rv,ha⟩
  ·exact⟨#[],(hT b q hq).1,trivial,λpos cv z=>by cases z⟩
 have noD:∀{b:Addr} {o:Obj} {es:Array DictEntry} {ep:Nat},s₁.heap.get? b=some o->o.data=.dict es ep->H b=none:=λ{b o es ep} e d=>by
  cases q:H b with
  | none=>rfl
  | some u =>
   rcases hH b u q with⟨rfl,_,_⟩ | ⟨t,ht,_⟩
   ·grind
   ·grind
 have nsK:∀{b:Addr} {m:Str->Option Value},s₁.heap.Ns b m->(zu s₁.heap H).Ns b m:=λ{b m} ⟨o,es,ep,e,d,r⟩=>⟨o,es,ep,hidT_get e (noD e d),d,r⟩
 have hKb:K.In (zu s₁.heap H):=λb o e=>hidT_get (KX b o e) (by
  cases q:H b with
  | none=>rfl
  | some u =>
   rcases hH b u q with⟨rfl,z,_⟩ | ⟨t,ht,_⟩
   ·grind
   ·rw[(hT b t ht).2.2]at e;cases e)
 have hM:Mod K mg (zu s₁.heap H):=⟨hKb,nsK J8,⟨mb,nsK hb,hbb⟩,let ⟨mc,h1,h2⟩:=N8;⟨mc,nsK h1,h2⟩⟩
 have e0:Env0 P w K mg (zu s₁.heap H) callerA [] s₁ H:=⟨rfl,hM,λb o e=>of_hidT e,gF (GU _ _),trivial,λb hb=>absurd (show b∈([]:List Addr)from hb) (by simp),hok,.of_eq hg,hTI H hHt⟩
 refine ka ((F _ hKb (nsK J8)).run callerA [] s₁ H ⟨[.ref a],[]⟩ [.ref a] [.ref a] _ _ hr e0 (X1 s₁ (.ref a)) (.cons rfl .nil) (NW H hS)) λr s' h=>?_
 cases r with
 | error e=>exact(hCX H e s' h).elim
 | ok fl =>
  cases fl with
  | next=>exact False.elim h
  | brk=>exact False.elim h
  | cont=>exact False.elim h
  | ret u =>
   obtain⟨v,H',os,bare,un,X2,r',q⟩:=h;have q':=q;subst q';obtain rfl:u=Value.bool true:=r';have noF:∀b:Addr,b∉oq []:=λb z=>absurd (show b∈([]:List Addr)from z) (by simp)
   refine⟨rfl,⟨λb o e=>?_,λb o e=>un.there b o e (by simp)⟩,os,bare⟩
   cases q:H b with
   | none=>exact .inl (un.keep b o e q (noF b) (by simp))
   | some u =>
    rcases hH b u q with⟨rfl,_,rfl⟩ | ⟨t,ht,rfl⟩
    ·obtain⟨e2,_⟩:=X2 b _ (un.frzs b _ _ q);rw[ha]at e;cases e;exact .inl e2
    ·obtain⟨h1,h2,_⟩:=hT b t ht;obtain⟨ps,e2,_⟩:=(X2 b _ (un.tbls b _ q));rw[h1]at e;cases e;exact .inr (.inl ⟨h2,rfl,#[],ps,rfl,by grind⟩)
abbrev E0:XK:=λ_ _ _=>False
def cK(H H':Hp):Prop:=∀b o,H b=some o->H' b=some o
def cK.refl(H:Hp):cK H H:=λ_ _ h=>h
def cK.trans(a:cK H H1)(b:cK H1 H2):cK H H2:=λc o h=>b c o (a c o h)
def cK.free(e:cK H H')(h:H' l=Option.none):H l=Option.none:=by
 cases q:H l with
 | none=>rfl
 | some o =>
  rw[e l o q]at h;cases h
def cK.seq{K:W.Frag}{H H':Hp}{a:Addr}{xs:List V}(e:cK H H')(h:xb K H a xs):xb K H' a xs:=by
 rcases h with(h | ⟨o,h⟩) | h
 ·exact .inl (.inl (e _ _ h))
 ·exact .inl (.inr ⟨o,e _ _ h⟩)
 ·exact .inr h
end L2
namespace M7
open PySem PyProof PyProof.Rows
section
variable {prog:Program} {w:World} {A:Around} {E:Value->Shared->Prop} {s:Shared}
def b7{arr:Array Keyed}{i:Nat}{x:Keyed}{Q:Keyed->SortSt->Prop}{st:SortSt}(hx:arr[i]?=some x)(h:Q x st):wpS (model prog w) A E s (elem' arr i) Q st:=by
 rw[elem'_eq,hx];exact aw h
def X3(x:Keyed):Prop:=∃n t,x.1=.int n t
def zM{x y:Keyed}{Q:Option Bool->SortSt->Prop}{st:SortSt}(hk:kindOf st=oneType')(hx:X3 x)(hy:X3 y) (h:Q (some (decide (numOf x.1<numOf y.1))) st):wpS (model prog w) A E s (lt' x y) Q st:=by
 obtain⟨a,t,ha⟩:=hx;obtain⟨b,u,hb⟩:=hy;rw[lt'_eq];refine ai (eS ?_);rw[hk,keyLt'_oneType,ha,hb];rw[ha,hb]at h;exact ai (kh (wU (oneLt_int ⟨rfl,aw h⟩)))
def fN{arr:Array Keyed}(h:IntKeys arr){i:Nat}{x:Keyed}(hx:arr[i]?=some x):X3 x:=h x (by
 grind)
def fy{arr:Array Keyed}{i:Nat}(hi:i<arr.size):∃x,arr[i]?=some x/\K arr i=numOf x.1:=⟨arr[i],qR hi,K_eq hi⟩
noncomputable def X4(left:Bool)(key:Keyed)(arr:Array Keyed)(base i:Nat):StateT SortSt Sem (Option Bool):=do
 let x <-elem' arr (base+i)
 if left then lt' x key else return (<-lt' key x).map (!·)
noncomputable def Bv(left:Bool)(key:Keyed)(arr:Array Keyed)(base i:Nat):Bool:=if left=true then decide (K arr (base+i)<numOf key.1)else !decide (numOf key.1<K arr (base+i))
def rW{left:Bool}{key:Keyed}{arr:Array Keyed}{base i:Nat}{Q:Option Bool->SortSt->Prop}{st:SortSt}(hk:kindOf st=oneType')(hA:IntKeys arr)(hy:X3 key)(hi:base+i<arr.size)(h:Q (some (Bv left key arr base i)) st):wpS (model prog w) A E s (X4 left key arr base i) Q st:=by
 obtain⟨x,hx,e⟩:=fy hi;unfold Bv at h;rw[e]at h;refine ai (b7 hx ?_);cases left with
 | true=>exact zM hk (fN hA hx) hy h
 | false=>exact ai (zM hk hy (fN hA hx) (aw h))
def jA:Bool->Keyed->Array Keyed->Nat->Nat->Nat->StateT SortSt Sem (Option Nat):=sortPriv% PySem.Builtin.gallop
def gS{left:Bool}{key:Keyed}{arr:Array Keyed}{base n hint:Nat}{Q:Option Nat->SortSt->Prop}{st:SortSt}(hk:kindOf st=oneType')(hA:IntKeys arr)(hy:X3 key)(hb:base+n<=arr.size)(hh:hint<n)
  (mono:∀i j,i<=j->j<n->Bv left key arr base j=true->Bv left key arr base i=true)
  (h:∀r,r<=n->(∀i,i<r->Bv left key arr base i=true)->(∀i,r<=i->i<n->Bv left key arr base i=false)->Q (some r) st):wpS (model prog w) A E s (jA left key arr base n hint) Q st:=by
 have down:∀i j,i<=j->j<n->Bv left key arr base i=false->Bv left key arr base j=false:=λi j h1 h2 h3=>by
  grind
 have bin:∀(lo hi:Nat),lo<=hi->hi<=n->(∀i,i<lo->Bv left key arr base i=true)->(∀i,hi<=i->i<n->Bv left key arr base i=false)->∀{f:Nat->Option (Option Nat)×Nat×Nat->StateT SortSt Sem (ForInStep (Option (Option Nat)×Nat×Nat))} {g:Option (Option Nat)×Nat×Nat->StateT SortSt Sem (Option Nat)},
   (∀x lo hi,lo>=hi->f x (none,lo,hi)=pure (.done (none,lo,hi))) ->
   (∀x lo hi,¬lo>=hi->∀(P:ForInStep (Option (Option Nat)×Nat×Nat)->SortSt->Prop),(Bv left key arr base (lo+(hi-lo)/2)=true->P (.yield (none,lo+(hi-lo)/2+1,hi)) st)->(Bv left key arr base (lo+(hi-lo)/2)=false->P (.yield (none,lo,lo+(hi-lo)/2)) st)->hi<=n->wpS (model prog w) A E s (f x (none,lo,hi)) P st) ->
   (∀lo hi,g (none,lo,hi)=pure (some hi)) ->
   wpS (model prog w) A E s (forIn [0:n] (none,lo,hi) f >>= g) Q st:=λlo hi h1 h2 h3 h4 f g hf1 hf2 hg=>by
  refine ai (dR (dQ
   (I:=λx c aB=>aB=st/\∃lo hi,c=(none,lo,hi)/\lo<=hi/\hi<=n/\hi-lo<=n-x/\(∀i,i<lo->Bv left key arr base i=true)/\(∀i,hi<=i->i<n->Bv left key arr base i=false))
   (Q:=λc aB=>aB=st/\∃hi,c=(none,hi,hi)/\hi<=n/\(∀i,i<hi->Bv left key arr base i=true)/\(∀i,hi<=i->i<n->Bv left key arr base i=false)) ?step ?fin ⟨rfl,lo,hi,rfl,h1,h2,by lia,h3,h4⟩) ?post)
  case fin =>
   rintro c aB ⟨rfl,lo,hi,rfl,z1,z2,z3,z4,z5⟩
   have:lo=hi:=by lia
   subst this;exact⟨rfl,lo,rfl,z2,z4,z5⟩
  case post =>
   rintro c aB ⟨rfl,hi,rfl,z2,z4,z5⟩
   rw[hg];exact aw (h hi z2 z4 z5)
  case step =>
   rintro x c aB _ hx ⟨rfl,lo,hi,rfl,z1,z2,z3,z4,z5⟩
   by_cases hl:lo>=hi
   ·rw[hf1 x lo hi hl];have:lo=hi:=by lia
    subst this;exact aw ⟨rfl,lo,rfl,z2,z4,z5⟩
   ·refine hf2 x lo hi hl _ (λe=>⟨rfl,_,_,rfl,by lia,by lia,by lia,λi hi'=>mono i _ (by lia) (by lia) e,z5⟩) (λe=>⟨rfl,_,_,rfl,(fL _ _),by lia,by lia,z4,λi h1 h2=>down _ i h1 h2 e⟩) z2
 refine ai (rW hk hA hy (by lia) ?_)
 dsimp only
 cases eR:Bv left key arr base hint with
 | true =>
  rw[if_pos rfl];refine ai (dR (dQ
   (I:=λx c aB=>aB=st/\∃la of,c=(none,la,of)/\la<of/\x<of/\hint+la<n/\Bv left key arr base (hint+la)=true)
   (Q:=λc aB=>aB=st/\∃la of,c=(none,la,of)/\la<of/\hint+la<n/\Bv left key arr base (hint+la)=true/\(∀i,hint+min of (n-hint)<=i->i<n->Bv left key arr base i=false)) ?step ?fin ⟨rfl,0,1,rfl,(ao _),(ao _),by lia,eR⟩) ?post)
  case fin =>
   rintro c aB ⟨rfl,la,of,rfl,z1,z2,z3,z4⟩
   exact⟨rfl,la,of,rfl,z1,z3,z4,λi h1 h2=>by lia⟩
  case step =>
   rintro x c aB _ hx ⟨rfl,la,of,rfl,z1,z2,z3,z4⟩
   dsimp only
   by_cases ho:of>=n-hint
   ·rw[if_pos ho];exact aw ⟨rfl,la,of,rfl,z1,z3,z4,λi h1 h2=>by lia⟩
   ·rw[if_neg ho];refine ai (m:=X4 left key arr base (hint+of)) (rW hk hA hy (by lia) ?_)
    dsimp only
    cases eM:Bv left key arr base (hint+of)with
    | true=>exact aw ⟨rfl,of,2*of+1,rfl,by lia,by lia,by lia,eM⟩
    | false=>exact aw ⟨rfl,la,of,rfl,z1,z3,z4,λi h1 h2=>down _ i (by lia) h2 eM⟩
  case post =>
   rintro c aB ⟨rfl,la,of,rfl,z1,z3,z4,z5⟩
   dsimp only
   refine bin _ _ (by lia) (by lia) (λi hi=>mono i _ (by lia) z3 z4) z5 (λx lo hi hl=>?_) (λx lo hi hl P p1 p2 hn=>?_) (λlo hi=>rfl)
   ·grind
   ·dsimp only
    rw[if_neg hl];refine ai (m:=X4 left key arr base _) (rW hk hA hy (by lia) ?_)
    dsimp only
    cases eM:Bv left key arr base (lo+(hi-lo)/2)with
    | true=>exact aw (p1 eM)
    | false=>exact aw (p2 eM)
 | false =>
  rw[if_neg (by simp)]
  refine ai (dR (dQ
   (I:=λx c aB=>aB=st/\∃la of,c=(none,la,of)/\la<of/\x<of/\la<=hint/\Bv left key arr base (hint-la)=false)
   (Q:=λc aB=>aB=st/\∃la of,c=(none,la,of)/\la<of/\la<=hint/\Bv left key arr base (hint-la)=false/\(∀i,i<hint+1-min of (hint+1)->Bv left key arr base i=true)) ?step ?fin ⟨rfl,0,1,rfl,(ao _),(ao _),(dF _),eR⟩) ?post)
  case fin =>
   rintro c aB ⟨rfl,la,of,rfl,z1,z2,z3,z4⟩
   exact⟨rfl,la,of,rfl,z1,z3,z4,λi h1=>by lia⟩
  case step =>
   rintro x c aB _ hx ⟨rfl,la,of,rfl,z1,z2,z3,z4⟩
   dsimp only
   by_cases ho:of>=hint+1
   ·rw[if_pos ho];exact aw ⟨rfl,la,of,rfl,z1,z3,z4,λi h1=>by lia⟩
   ·rw[if_neg ho];refine ai (m:=X4 left key arr base (hint-of)) (rW hk hA hy (by lia) ?_)
    dsimp only
    cases eM:Bv left key arr base (hint-of)with
    | true=>exact aw ⟨rfl,la,of,rfl,z1,z3,z4,λi h1=>mono i _ (by lia) (by lia) eM⟩
    | false=>exact aw ⟨rfl,of,2*of+1,rfl,by lia,by lia,(nV ‹_›),eM⟩
  case post =>
   rintro c aB ⟨rfl,la,of,rfl,z1,z3,z4,z5⟩
   dsimp only
   refine bin _ _ (by lia) (by lia) z5 (λi h1 h2=>down _ i h1 h2 z4) (λx lo hi hl=>?_) (λx lo hi hl P p1 p2 hn=>?_) (λlo hi=>rfl)
   ·dsimp only;rw[if_pos hl]
   ·dsimp only
    rw[if_neg hl];refine ai (m:=X4 left key arr base _) (rW hk hA hy (by lia) ?_)
    dsimp only
    cases eM:Bv left key arr base (lo+(hi-lo)/2)with
    | true=>exact aw (p1 eM)
    | false=>exact aw (p2 eM)
abbrev ky(x:Keyed):Int:=numOf x.1
abbrev le(x y:Keyed):Prop:=ky x<=ky y
abbrev ge(x y:Keyed):Prop:=ky y<=ky x
section
variable {R:Keyed->Keyed->Prop}
structure G (R:Keyed->Keyed->Prop) (a b out:List Keyed) (ia ib:Nat):Prop where
 perm:out.Perm (a.take ia++b.take ib)
 up:out.Pairwise R
 ga:∀x∈out,∀y∈a.drop ia,R x y
 gb:∀x∈out,∀y∈b.drop ib,R x y
def G.symm{a b out:List Keyed}{ia ib:Nat}(g:G R a b out ia ib):G R b a out ib ia:=⟨g.perm.trans wq,g.up,g.gb,g.ga⟩
def EX{a:List Keyed}{i:Nat}{x:Keyed}(h:a[i]?=some x):a.drop i=x::a.drop (i+1):=by
 obtain⟨hi,rfl⟩:=cf.mp h;exact qQ hi
def QU{a:List Keyed}(ha:a.Pairwise R){i:Nat}{x:Keyed}(h:a[i]?=some x):∀y∈a.drop (i+1),R x y:=by
 have h1:(a.drop i).Pairwise R:=Cg ha;rw[EX h]at h1;exact(wB.mp h1).1
def G.push{a b out:List Keyed}{ia ib:Nat}(g:G R a b out ia ib)(ha:a.Pairwise R){x:Keyed}(hx:a[ia]?=some x)(uj:∀y∈b.drop ib,R x y):G R a b (out++[x]) (ia+1) ib:=by
 have hd:=EX hx;refine⟨?_,?_,?_,?_⟩
 ·rw[Ci,hx];show(out++[x]).Perm (a.take ia++[x]++b.take ib);refine(g.perm.append_right [x]).trans ?_;rw[cg,cg];exact wq.append_left _
 ·refine qU.mpr ⟨g.up,List.pairwise_singleton _ _,λy hy z hz=>?_⟩
  rw[bC]at hz;subst hz;exact g.ga y hy z (by grind)
 ·intro y hy z hz;rcases bZ.mp hy with hy | hy
  ·exact g.ga y hy z (by grind)
  ·rw[bC]at hy;subst hy;exact QU ha hx z hz
 ·intro y hy z hz;rcases bZ.mp hy with hy | hy
  ·exact g.gb y hy z hz
  ·grind
theorem G.more{a b out:List Keyed}{ia ib:Nat}(g:G R a b out ia ib)(ha:a.Pairwise R):∀(k:Nat),ia+k<=a.length->(∀(i:Nat) (x:Keyed),i<k->a[ia+i]?=some x->∀y∈b.drop ib,R x y)->G R a b (out++(a.drop ia).take k) (ia+k) ib
 | 0,_,_=>by simpa using g
 | k+1,hk,h=>by
  have g1:=g.more ha k (dP ‹_›) λi x hi=>h i x (B7 ‹_›)
  obtain⟨x,hx⟩:∃x,a[ia+k]?=some x:=⟨_,cO (by lia)⟩
  have g2:=g1.push ha hx (h k x (ao _) hx);have e:(a.drop ia).take (k+1)=(a.drop ia).take k++[x]:=by
   rw[Ci,List.getElem?_drop,hx];rfl
  rw[e,<-cg];exact g2
def iL(R:Keyed->Keyed->Prop)(a b r:List Keyed):Prop:=r.Perm (a++b)/\r.Pairwise R
def iL.symm{a b r:List Keyed}(g:iL R a b r):iL R b a r:=⟨g.1.trans wq,g.2⟩
def G.fin{a b out:List Keyed}{ia ib:Nat}(g:G R a b out ia ib)(ha:a.Pairwise R)(hb:b.Pairwise R)(h:∀x∈a.drop ia,∀y∈b.drop ib,R x y):iL R a b (out++a.drop ia++b.drop ib):=by
 refine⟨?_,?_⟩
 ·refine((g.perm.append_right _).append_right _).trans ?_;have e:a++b=(a.take ia++a.drop ia)++(b.take ib++b.drop ib):=by simp_all
  rw[e,cg,cg,cg];refine List.Perm.append_left _ ?_;rw[<-cg,<-cg];exact wq.append_right _
 ·refine qU.mpr ⟨qU.mpr ⟨g.up,Cg ha,λx hx y hy=>g.ga x hx y hy⟩,Cg hb,λx hx y hy=>?_⟩
  rcases bZ.mp hx with hx | hx
  ·exact g.gb x hx y hy
  ·grind
end
def up(l:List Keyed):Prop:=l.Pairwise le
def J9{a b r:List Keyed}(g:iL ge a.reverse b.reverse r):iL le a b r.reverse:=by
 refine⟨(Co r).trans (g.1.trans ((Co a).append (Co b))),?_⟩;rw[List.pairwise_reverse];exact g.2
def xk{a:List Keyed}(h:up a):a.reverse.Pairwise ge:=by
 rw[List.pairwise_reverse];exact h
def Sm(st aB:SortSt):Prop:=kindOf aB=kindOf st/\arrOf aB=arrOf st/\pendingOf aB=pendingOf st/\failedOf aB=failedOf st
def zN:Array Keyed->Array Keyed->StateT SortSt Sem (Array Keyed):=sortPriv% PySem.Builtin.mergeLo
def kj(a:Array Keyed)(i:Nat):(a.extract i a.size).toList=a.toList.drop i:=by
 rw[nN,List.extract_eq_drop_take,<-c6];exact nK (by grind)
def zO(a:Array Keyed)(i k:Nat):(a.extract i (i+k)).toList=(a.toList.drop i).take k:=by
 simp_all
def mG{a:Array Keyed}{i:Nat}{x:Keyed}(h:a[i]?=some x):a.toList[i]?=some x:=by grind
def uB{a:Array Keyed}{i:Nat}{x:Keyed}(h:a[i]?=some x):K a i=ky x:=by unfold K;rw[h]
def i8{a:Array Keyed}{i:Nat}{y:Keyed}(h:y∈a.toList.drop i):∃j,i<=j/\j<a.size/\a[j]?=some y/\K a j=ky y:=by
 obtain⟨n,hn,e⟩:=wt.mp h;rw[wI,c6]at hn;have e2:a[i+n]?=some y:=by
  grind
 exact⟨i+n,(fL _ _),by lia,e2,uB e2⟩
def pW{a:Array Keyed}(ha:up a.toList){i j:Nat}(h:i<=j)(hj:j<a.size):K a i<=K a j:=by
 obtain⟨x,hx,e1⟩:=fy (arr:=a) (i:=i) (iC ‹_› ‹_›);obtain⟨y,hy,e2⟩:=fy hj;by_cases e:i=j
 ·subst e;exact oj _
 ·rw[e1,e2];refine QU ha (mG hx) y ?_;rw[nM];exact⟨j-(i+1),by rw[List.getElem?_drop,show i+1+(j-(i+1))=j by lia];exact mG hy⟩
def qr{left:Bool}{key:Keyed}{a:Array Keyed}(ha:up a.toList){base n:Nat}(hb:base+n<=a.size):∀i j,i<=j->j<n->Bv left key a base j=true->Bv left key a base i=true:=λi j h1 h2 h3=>by
 have:=pW ha (i:=base+i) (j:=base+j) (by lia) (by lia)
 unfold Bv at h3 ⊢;cases left with
 | true=>simp only[iJ,j6]at h3 ⊢;lia
 | false=>simp only[qY,jt,wD,B6]at h3 ⊢;lia
def Hb{key:Keyed}{a:Array Keyed}{base i:Nat}:(Bv true key a base i=true↔K a (base+i)<ky key)/\(Bv true key a base i=false↔ky key<=K a (base+i)):=by
 unfold Bv;simp
def Hc{key:Keyed}{a:Array Keyed}{base i:Nat}:(Bv false key a base i=true↔K a (base+i)<=ky key)/\(Bv false key a base i=false↔ky key<K a (base+i)):=by
 unfold Bv;simp
def Sm.refl(st:SortSt):Sm st st:=⟨rfl,rfl,rfl,rfl⟩
section
variable {a b:Array Keyed} {st:SortSt}
abbrev lo1(a b:Array Keyed)(st:SortSt)(x:Nat)(c:Option (Array Keyed)×Array Keyed×Nat×Nat×Nat)(aB:SortSt):Prop:=Sm st aB/\∃out ia ib mg,c=(none,out,ia,ib,mg)/\G le a.toList b.toList out.toList ia ib/\ia+1<a.size/\ib<b.size/\x+1<=ia+ib
abbrev lq1(a b:Array Keyed)(st:SortSt)(c:Option (Array Keyed)×Array Keyed×Nat×Nat×Nat)(aB:SortSt):Prop:=Sm st aB/\∃r,c.1=some r/\iL le a.toList b.toList r.toList
abbrev lo2(a b:Array Keyed)(st:SortSt)(x:Nat)(y:Nat)(c:Option (Array Keyed)×Array Keyed×Nat×Nat×Nat×Nat)(aB:SortSt):Prop:=Sm st aB/\∃out ia ib ac bc,c=(none,out,ia,ib,ac,bc)/\G le a.toList b.toList out.toList ia ib/\ia+1<a.size/\ib<b.size/\x+1+min y 1<=ia+ib
abbrev lq2(a b:Array Keyed)(st:SortSt)(x:Nat)(c:Option (Array Keyed)×Array Keyed×Nat×Nat×Nat×Nat)(aB:SortSt):Prop:=Sm st aB/\((∃r,c.1=some r/\iL le a.toList b.toList r.toList)\/∃out ia ib ac bc,c=(none,out,ia,ib,ac,bc)/\G le a.toList b.toList out.toList ia ib/\ia+1<a.size/\ib<b.size/\x+2<=ia+ib)
abbrev lo3(a b:Array Keyed)(st:SortSt)(x:Nat)(y:Nat)(c:Option (Array Keyed)×Array Keyed×Nat×Nat×Nat×Nat×Nat)(aB:SortSt):Prop:=Sm st aB/\∃out ia ib mg ac bc,c=(none,out,ia,ib,mg,ac,bc)/\G le a.toList b.toList out.toList ia ib/\ia+1<a.size/\ib<b.size/\x+2<=ia+ib
abbrev lq3(a b:Array Keyed)(st:SortSt)(x:Nat)(c:Option (Array Keyed)×Array Keyed×Nat×Nat×Nat×Nat×Nat)(aB:SortSt):Prop:=Sm st aB/\((∃r,c.1=some r/\iL le a.toList b.toList r.toList)\/∃out ia ib mg ac bc,c=(none,out,ia,ib,mg,ac,bc)/\G le a.toList b.toList out.toList ia ib/\ia+1<a.size/\ib<b.size/\x+2<=ia+ib)
def bA{M:Model}{σ β:Type}{c:Prop} [Decidable c] {t e:StateT σ Sem β} {Q:β->σ->Prop} {st:σ} (h1:c->wpS M A E s t Q st) (h2:¬c->wpS M A E s e Q st):wpS M A E s (if c then t else e) Q st:=by
 split
 ·exact h1 ‹_›
 ·exact h2 ‹_›
abbrev mgS(m:Nat)(st:SortSt):SortSt:=SortSt.mk' (kindOf st) (arrOf st) (pendingOf st) m (failedOf st)
abbrev WR{β σ:Type}(Q I:β->σ->Prop)(r:ForInStep β)(aB:σ):Prop:=match r with | .done c'=>Q c' aB | .yield c'=>I c' aB
def C8{Q:Array Keyed->SortSt->Prop}(hk:kindOf st=oneType')(TX:IntKeys a)(TY:IntKeys b)(ua:up a.toList)(ub:up b.toList)(na:0<a.size)(nb:0<b.size)
  (first:K b 0<=K a 0) (fX:∀y∈b.toList,ky y<=K a (a.size-1)) (h:∀r aB,Sm st aB->iL le a.toList b.toList r.toList->Q r aB):wpS (model prog w) A E s (zN a b) Q st:=by
 have pm:∀{n x y:Nat},x+2<=n->x+1+min (y+1) 1<=n:=λh=>by lia
 have rX:∀{out:Array Keyed} {i j:Nat},G le a.toList b.toList out.toList i j->(i=a.size\/j=b.size)->iL le a.toList b.toList (out++a.extract i a.size++b.extract j b.size).toList:=λ{out i j} g hz=>by
  rw[jm,jm,kj,kj];refine g.fin ua ub λx hx y hy=>?_
  rcases hz with rfl | rfl
  ·rw[<-c6,rf]at hx;cases hx
  ·rw[<-c6,rf]at hy;cases hy
 have xl:∀{out:Array Keyed} {i j:Nat},G le a.toList b.toList out.toList i j->i+1=a.size->iL le a.toList b.toList (out++b.extract j b.size++a.extract i a.size).toList:=λ{out i j} g hz=>by
  rw[jm,jm,kj,kj];refine(g.symm.fin ub ua λx hx y hy=>?_).symm
  obtain⟨m,h1,h2,h3,h4⟩:=i8 hy;have:=fX x (List.mem_of_mem_drop hx);show ky x<=ky y;rw[<-h4,show m=a.size-1 by lia]
  exact this
 have pB:∀{out:Array Keyed} {i j:Nat} {bx:Keyed},G le a.toList b.toList out.toList i j->b[j]?=some bx->(∀m,i<=m->m<a.size->ky bx<=K a m)->G le a.toList b.toList (out.push bx).toList i (j+1):=λg hb hz=>by
  rw[wG];exact(g.symm.push ub (mG hb) λz QV=>by
   obtain⟨m,q1,q2,q3,q4⟩:=i8 QV;exact da (hz m q1 q2) (iI q4)).symm
 have pA:∀{out:Array Keyed} {i j:Nat} {ax:Keyed},G le a.toList b.toList out.toList i j->a[i]?=some ax->(∀m,j<=m->m<b.size->ky ax<=K b m)->G le a.toList b.toList (out.push ax).toList (i+1) j:=λg hb hz=>by
  rw[wG];exact g.push ua (mG hb) λz QV=>by
   obtain⟨m,q1,q2,q3,q4⟩:=i8 QV;exact da (hz m q1 q2) (iI q4)
 refine ai (kh (gi ⟨rfl,?_⟩));obtain⟨b0,hb0,eb0⟩:=fy nb;refine ai (b7 hb0 ?_);have g0:G le a.toList b.toList (#[b0]:Array Keyed).toList 0 1:=pB (out:=#[]) (G.mk (by simp) .nil (λ_ z=>nomatch z) (λ_ z=>nomatch z)) hb0 λm _ q2=>da (iI eb0.symm) (da first (pW ua (dF m) q2))
 refine bA (λh1=>aw (h _ _ (Sm.refl st) (rX g0 (.inr (bh.mp h1))))) λh1=>?_
 refine bA (λh2=>aw (h _ _ (Sm.refl st) (xl g0 (bh.mp h2)))) λh2=>?_
 rw[bh]at h1 h2;refine ai (eS ?_);refine ai (dR (dQ
  (I:=lo1 a b st)
  (Q:=lq1 a b st) ?step ?fin ⟨Sm.refl st,_,_,_,_,rfl,g0,by lia,by lia,(ao _)⟩) ?post)
 case fin =>
  rintro c aB ⟨_,out,ia,ib,mg,_,_,z1,z2,z3⟩
  lia
 case post =>
  rintro⟨_,c⟩ aB ⟨sm,r,rfl,g⟩
  exact aw (h r aB sm g)
 case step =>
  rintro x c aB _ hx ⟨sm,out,ia,ib,mg,rfl,g,z1,z2,z3⟩
  refine ai (dR (dQ
   (I:=lo2 a b st x)
   (Q:=lq2 a b st x) ?zP ?Ka ⟨sm,_,_,_,_,_,rfl,g,z1,z2,‹_›⟩) ?zQ)
  case Ka =>
   rintro c aB ⟨sm,out,ia,ib,ac,bc,rfl,g,z1,z2,z3⟩
   exact⟨sm,.inr ⟨out,ia,ib,ac,bc,rfl,g,z1,z2,by lia⟩⟩
  case zP =>
   rintro y c aB _ hy ⟨sm,out,ia,ib,ac,bc,rfl,g,z1,z2,z3⟩
   obtain⟨bx,xm,TZ⟩:=fy (arr:=b) (i:=ib) z2;obtain⟨ax,xo,T1⟩:=fy (arr:=a) (i:=ia) (dP ‹_›);refine ai (m:=elem' b ib) (b7 xm ?_);refine ai (m:=elem' a ia) (b7 xo ?_);refine ai (m:=lt' bx ax) (zM (sm.1.trans hk) (fN TY xm) (fN TX xo) ?_);refine bA (λhw=>?_) λhw=>?_
   ·have g1:=pB g xm λm q1 q2=>da (kc (eJ hw)) (da (iI T1.symm) (pW ua q1 q2))
    refine ai (m:=elem' b ib) (b7 xm ?_);refine bA (λe1=>aw ⟨sm,.inl ⟨_,rfl,rX g1 (.inr (bh.mp e1))⟩⟩) λe1=>?_
    have e1:=qZ z2 λz=>e1 (bh.mpr z)
    have e2:x+2<=ia+(ib+1):=by lia
    exact bA (λ_=>aw ⟨sm,.inr ⟨_,_,_,_,_,rfl,g1,z1,e1,e2⟩⟩) λ_=>aw ⟨sm,_,_,_,_,_,rfl,g1,z1,e1,pm e2⟩
   ·have g1:=pA g xo λm q1 q2=>da (da (Int.not_lt.mp λz=>hw (dE z)) (iI TZ.symm)) (pW ub q1 q2)
    refine ai (m:=elem' a ia) (b7 xo ?_);refine bA (λe1=>aw ⟨sm,.inl ⟨_,rfl,xl g1 (bh.mp e1)⟩⟩) λe1=>?_
    have e1:=qZ z1 λz=>e1 (bh.mpr z)
    have e2:x+2<=ia+1+ib:=by lia
    exact bA (λ_=>aw ⟨sm,.inr ⟨_,_,_,_,_,rfl,g1,e1,z2,e2⟩⟩) λ_=>aw ⟨sm,_,_,_,_,_,rfl,g1,e1,z2,pm e2⟩
  case zQ =>
   rintro⟨_,c⟩ aB ⟨sm,⟨r,rfl,gr⟩ | ⟨out,ia,ib,ac,bc,e,g,z1,z2,z3⟩⟩
   ·exact aw ⟨sm,r,rfl,gr⟩
   cases e;refine ai (kh (gi ⟨rfl,?_⟩));refine ai (dR (dQ
    (I:=lo3 a b st x)
    (Q:=lq3 a b st x) ?zR ?Kb ⟨sm,_,_,_,_,_,_,rfl,g,z1,z2,‹_›⟩) ?zS)
   case Kb =>
    rintro c aB ⟨sm,out,ia,ib,mg,ac,bc,rfl,g,z1,z2,z3⟩
    exact⟨sm,.inr ⟨out,ia,ib,mg,ac,bc,rfl,g,z1,z2,z3⟩⟩
   case zS =>
    rintro⟨_,c⟩ aB ⟨sm,⟨r,rfl,gr⟩ | ⟨out,ia,ib,mg,ac,bc,e,g,z1,z2,z3⟩⟩
    ·exact aw ⟨sm,r,rfl,gr⟩
    ·cases e;refine ai (gh ?_);exact aw ⟨sm,_,_,_,_,rfl,g,z1,z2,‹_›⟩
   case zR =>
    rintro y c aB _ hy ⟨sm,out,ia,ib,mg,ac,bc,rfl,g,z1,z2,z3⟩
    obtain⟨bx,xm,TZ⟩:=fy (arr:=b) (i:=ib) z2
    extract_lets +onlyGivenNames _ _ _ _ _ _ _ _ _ _ _ _ jp
    have hj:∀m,wpS (model prog w) A E s (jp () m) (WR (lq3 a b st x) (lo3 a b st x (y+1))) aB:=λm=>by
     refine ai (gh ?_);refine ai (m:=elem' b ib) (b7 xm ?_);refine ai (m:=jA false bx a ia (a.size-ia) 0) (gS (sm.1.trans hk) TX (fN TY xm) (by lia) (by lia) (qr ua (by lia)) λk k1 k2 k3=>?_)
     dsimp -zeta only
     extract_lets +onlyGivenNames _ jp2
     have hj2:∀o ja,G le a.toList b.toList o.toList ja ib->ja+1<a.size->(∀m,ja<=m->m<a.size->ky bx<K a m)->x+2<=ja+ib->wpS (model prog w) A E s (jp2 () o ja) (WR (lq3 a b st x) (lo3 a b st x (y+1))) (mgS m aB):=λo ja gk w1 w2 w3=>by
      have gb:=pB gk xm λm q1 q2=>kc (w2 m q1 q2)
      refine ai (m:=elem' b ib) (b7 xm ?_);refine bA (λe3=>aw ⟨sm,.inl ⟨_,rfl,rX gb (.inr (bh.mp e3))⟩⟩) λe3=>?_
      have e3:=qZ z2 λz=>e3 (bh.mpr z)
      obtain⟨ax,xo,T1⟩:=fy (arr:=a) (i:=ja) (dP ‹_›);refine ai (m:=elem' a ja) (b7 xo ?_);refine ai (m:=jA true ax b (ib+1) (b.size-(ib+1)) 0) (gS (sm.1.trans hk) TY (fN TX xo) (by lia) (by lia) (qr ub (by lia)) λk' l1 l2 l3=>?_)
      have v2:∀m,ib+1+k'<=m->m<b.size->ky ax<=K b m:=λm q1 q2=>by
       have:=Hb.2.mp (l3 (m-(ib+1)) (by lia) (by lia))
       rwa [show ib+1+(m-(ib+1))=m by lia]at this
      dsimp -zeta only
      extract_lets +onlyGivenNames _ _ jp3
      have X5:∀p jb,G le a.toList b.toList p.toList ja jb->jb<b.size->(∀m,jb<=m->m<b.size->ky ax<=K b m)->x+2<=ja+jb->wpS (model prog w) A E s (jp3 () p jb) (WR (lq3 a b st x) (lo3 a b st x (y+1))) (mgS m aB):=λp jb gl v1 v2 v3=>by
       have gf:=pA gl xo v2;refine ai (m:=elem' a ja) (b7 xo ?_);refine bA (λe5=>aw ⟨sm,.inl ⟨_,rfl,xl gf (bh.mp e5)⟩⟩) λe5=>?_
       have e5:=qZ w1 λz=>e5 (bh.mpr z)
       have e6:x+2<=ja+1+jb:=by lia
       exact bA (λ_=>aw ⟨sm,.inr ⟨_,_,_,_,_,_,rfl,gf,e5,v1,e6⟩⟩) λ_=>aw ⟨sm,_,_,_,_,_,_,rfl,gf,e5,v1,e6⟩
      refine bA (λWS=>?_) λWS=>X5 _ _ gb e3 (by rwa [Nat.eq_zero_of_not_pos WS]at v2) (Nat.le_succ_of_le w3)
      have gl:G le a.toList b.toList (o.push bx++b.extract (ib+1) (ib+1+k')).toList ja (ib+1+k'):=by
       rw[jm,zO];refine(gb.symm.more ub k' (by rw[c6];lia) λi x hi hx z hz=>?_).symm
       obtain⟨m,q1,q2,q3,q4⟩:=i8 hz;have u1:=Hb.1.mp (l2 i hi);have u2:=pW ua q1 q2;rw[lL]at hx;rw[uB hx]at u1;rw[T1,q4]at u2;exact da (kc u1) u2
      exact bA (λe4=>aw ⟨sm,.inl ⟨_,rfl,rX gl (.inr (bh.mp e4))⟩⟩) λe4=>X5 _ (ib+1+k') gl (qZ (by lia) λz=>e4 (bh.mpr z)) v2 (by lia)
     have w2:∀m,ia+k<=m->m<a.size->ky bx<K a m:=λm q1 q2=>by
      have:=Hc.2.mp (k3 (m-ia) (by lia) (by lia))
      rwa [show ia+(m-ia)=m by lia]at this
     refine bA (λWT=>?_) λWT=>hj2 _ _ g z1 (by rwa [Nat.eq_zero_of_not_pos WT]at w2) z3
     have gk:G le a.toList b.toList (out++a.extract ia (ia+k)).toList (ia+k) ib:=by
      rw[jm,zO];refine g.more ua k (by rw[c6];lia) λi x hi hx z hz=>?_
      obtain⟨m,q1,q2,q3,q4⟩:=i8 hz;have u1:=Hc.1.mp (k2 i hi);have u2:=pW ub q1 q2;rw[lL]at hx;rw[uB hx]at u1;rw[TZ,q4]at u2;exact da u1 u2
     refine bA (λe1=>aw ⟨sm,.inl ⟨_,rfl,xl gk (bh.mp e1)⟩⟩) λe1=>?_
     refine bA (λe2=>aw ⟨sm,.inl ⟨_,rfl,rX gk (.inl (bh.mp e2))⟩⟩) λe2=>?_
     have e1:¬ia+k+1=a.size:=λz=>e1 (bh.mpr z)
     have e2:¬ia+k=a.size:=λz=>e2 (bh.mpr z)
     exact hj2 _ (ia+k) gk (by lia) w2 (by lia)
    exact bA (λ_=>hj _) λ_=>hj _
def Hi(a b out:Array Keyed)(na nb:Nat):Prop:=na<=a.size/\nb<=b.size/\G ge a.toList.reverse b.toList.reverse out.toList (a.size-na) (b.size-nb)
def Hi.symm{a b out:Array Keyed}{na nb:Nat}(g:Hi a b out na nb):Hi b a out nb na:=⟨g.2.1,g.1,g.2.2.symm⟩
def g8{a:Array Keyed}{na:Nat}(h:na<=a.size):a.toList.reverse.drop (a.size-na)=(a.toList.take na).reverse:=by
 rw[List.drop_reverse,c6,show a.size-(a.size-na)=na by lia]
def gC{a:Array Keyed}{n:Nat}{y:Keyed}(h:y∈a.toList.take n):∃m,m<n/\m<a.size/\a[m]?=some y/\K a m=ky y:=by
 obtain⟨m,hm,e⟩:=wt.mp h;rw[jq,c6]at hm;have e2:a[m]?=some y:=by
  grind
 exact⟨m,by lia,by lia,e2,uB e2⟩
def T2{a:Array Keyed}{na:Nat}{x:Keyed}(h0:0<na)(hn:na<=a.size)(hx:a[na-1]?=some x):a.toList.reverse[a.size-na]?=some x:=by
 grind
def Hi.push{a b out:Array Keyed}{na nb:Nat}(g:Hi a b out na nb)(ua:up a.toList)(h0:0<na){x:Keyed}(hx:a[na-1]?=some x)(uj:∀y∈b.toList.take nb,ky y<=ky x):Hi a b (out.push x) (na-1) nb:=by
 obtain⟨h1,h2,g⟩:=g;refine⟨by lia,h2,?_⟩
 rw[wG,show a.size-(na-1)=a.size-na+1 by lia]
 refine g.push (xk ua) (T2 h0 h1 hx) λy hy=>?_
 rw[g8 h2,wK]at hy;exact uj y hy
def Hi.more{a b out:Array Keyed}{na nb at_:Nat}(g:Hi a b out na nb)(ua:up a.toList)(h0:at_<=na)(uj:∀(i:Nat) (x:Keyed),at_<=i->i<na->a[i]?=some x->∀y∈b.toList.take nb,ky y<=ky x):Hi a b (out++(a.extract at_ na).reverse) at_ nb:=by
 obtain⟨h1,h2,g⟩:=g;refine⟨bE ‹_› ‹_›,h2,?_⟩;have g1:=g.more (xk ua) (na-at_) (by grind) λi x hi hx y hy=>by
  rw[g8 h2,wK]at hy;rw[List.getElem?_reverse (by grind),c6,lL]at hx
  exact uj (a.size-1-(a.size-na+i)) x (by lia) (by lia) hx y hy
 have e:(a.toList.reverse.drop (a.size-na)).take (na-at_)=((a.extract at_ na).reverse).toList:=by
  rw[g8 h1,List.take_reverse,jq,c6,show min na a.size-(na-at_)=at_ by lia,List.drop_take,Array.toList_reverse,nN,List.extract_eq_drop_take]
 rw[jm,<-e,show a.size-at_=a.size-na+(na-at_) by lia]
 exact g1
def T3(a:Array Keyed)(n:Nat):(a.extract 0 n).toList=a.toList.take n:=by
 simp_all
def Hi.fin{a b out:Array Keyed}{na nb:Nat}(g:Hi a b out na nb)(ua:up a.toList)(ub:up b.toList)(h:∀y∈b.toList.take nb,∀x∈a.toList.take na,ky y<=ky x):iL le a.toList b.toList (b.extract 0 nb++a.extract 0 na++out.reverse).toList:=by
 obtain⟨h1,h2,g⟩:=g;have:=J9 (g.fin (xk ua) (xk ub) λx hx y hy=>by
  rw[g8 h1,wK]at hx;rw[g8 h2,wK]at hy;exact h y hy x hx)
 rw[g8 h1,g8 h2,List.reverse_append,List.reverse_append,List.reverse_reverse,List.reverse_reverse]at this;rw[jm,jm,T3,T3,Array.toList_reverse,cg];exact this
def zT:Array Keyed->Array Keyed->StateT SortSt Sem (Array Keyed):=sortPriv% PySem.Builtin.mergeHi
abbrev hi1(a b:Array Keyed)(st:SortSt)(x:Nat)(c:Option (Array Keyed)×Nat×Nat×Array Keyed×Nat)(aB:SortSt):Prop:=Sm st aB/\∃ma mb out mg,c=(none,ma,mb,out,mg)/\Hi a b out ma mb/\0<ma/\1<mb/\ma+mb+x+1<=a.size+b.size
abbrev hq1(a b:Array Keyed)(st:SortSt)(c:Option (Array Keyed)×Nat×Nat×Array Keyed×Nat)(aB:SortSt):Prop:=Sm st aB/\∃r,c.1=some r/\iL le a.toList b.toList r.toList
abbrev hi2(a b:Array Keyed)(st:SortSt)(x:Nat)(y:Nat)(c:Option (Array Keyed)×Nat×Nat×Array Keyed×Nat×Nat)(aB:SortSt):Prop:=Sm st aB/\∃ma mb out ac bc,c=(none,ma,mb,out,ac,bc)/\Hi a b out ma mb/\0<ma/\1<mb/\ma+mb+x+1+min y 1<=a.size+b.size
abbrev hq2(a b:Array Keyed)(st:SortSt)(x:Nat)(c:Option (Array Keyed)×Nat×Nat×Array Keyed×Nat×Nat)(aB:SortSt):Prop:=Sm st aB/\((∃r,c.1=some r/\iL le a.toList b.toList r.toList)\/∃ma mb out ac bc,c=(none,ma,mb,out,ac,bc)/\Hi a b out ma mb/\0<ma/\1<mb/\ma+mb+x+2<=a.size+b.size)
abbrev hi3(a b:Array Keyed)(st:SortSt)(x:Nat)(y:Nat)(c:Option (Array Keyed)×Nat×Nat×Array Keyed×Nat×Nat×Nat)(aB:SortSt):Prop:=Sm st aB/\∃ma mb out mg ac bc,c=(none,ma,mb,out,mg,ac,bc)/\Hi a b out ma mb/\0<ma/\1<mb/\ma+mb+x+2<=a.size+b.size
abbrev hq3(a b:Array Keyed)(st:SortSt)(x:Nat)(c:Option (Array Keyed)×Nat×Nat×Array Keyed×Nat×Nat×Nat)(aB:SortSt):Prop:=Sm st aB/\((∃r,c.1=some r/\iL le a.toList b.toList r.toList)\/∃ma mb out mg ac bc,c=(none,ma,mb,out,mg,ac,bc)/\Hi a b out ma mb/\0<ma/\1<mb/\ma+mb+x+2<=a.size+b.size)
def C9{Q:Array Keyed->SortSt->Prop}(hk:kindOf st=oneType')(TX:IntKeys a)(TY:IntKeys b)(ua:up a.toList)(ub:up b.toList)(na:0<a.size)(nb:0<b.size)
  (first:K b 0<=K a 0) (fX:∀y∈b.toList,ky y<=K a (a.size-1)) (h:∀r aB,Sm st aB->iL le a.toList b.toList r.toList->Q r aB):wpS (model prog w) A E s (zT a b) Q st:=by
 have pm:∀{n m x y:Nat},m+x+2<=n->m+x+1+min (y+1) 1<=n:=λh=>by lia
 have rX:∀{out:Array Keyed} {i j:Nat},Hi a b out i j->(i=0\/j=0)->iL le a.toList b.toList (a.extract 0 i++b.extract 0 j++out.reverse).toList:=λ{out i j} g hz=>by
  refine(g.symm.fin ub ua λx hx y hy=>?_).symm
  rcases hz with rfl | rfl
  ·cases hx
  ·cases hy
 have xl:∀{out:Array Keyed} {i j:Nat},Hi a b out i j->j=1->iL le a.toList b.toList (b.extract 0 j++a.extract 0 i++out.reverse).toList:=λ{out i j} g hz=>by
  refine g.fin ua ub λy hy x hx=>?_
  obtain⟨m,h1,h2,h3,h4⟩:=gC hy;obtain⟨n,n1,n2,n3,n4⟩:=gC hx;rw[<-h4,<-n4,show m=0 by lia]
  exact da first (pW ua (dF n) n2)
 have pA:∀{out:Array Keyed} {i j:Nat} {ax:Keyed},Hi a b out i j->0<i->a[i-1]?=some ax->(∀m,m<j->m<b.size->K b m<=ky ax)->Hi a b (out.push ax) (i-1) j:=λg h0 ha hz=>g.push ua h0 ha λz QV=>by
  obtain⟨m,q1,q2,q3,q4⟩:=gC QV;exact da (iI q4.symm) (hz m q1 q2)
 have pB:∀{out:Array Keyed} {i j:Nat} {bx:Keyed},Hi a b out i j->0<j->b[j-1]?=some bx->(∀m,m<i->m<a.size->K a m<=ky bx)->Hi a b (out.push bx) i (j-1):=λg h0 hb hz=>(g.symm.push ub h0 hb λz QV=>by
  obtain⟨m,q1,q2,q3,q4⟩:=gC QV;exact da (iI q4.symm) (hz m q1 q2)).symm
 refine ai (kh (gi ⟨rfl,?_⟩));obtain⟨a0,ha0,ea0⟩:=fy (arr:=a) (i:=a.size-1) (by lia)
 refine ai (b7 ha0 ?_);have g0:Hi a b (#[a0]:Array Keyed) (a.size-1) b.size:=pA (out:=#[]) ⟨ao _,ao _,by simp,.nil,(λ_ z=>nomatch z),(λ_ z=>nomatch z)⟩ na ha0 λm _ q=>da (uB (qR q)▸fX _ (Array.getElem_mem_toList q)) (iI ea0)
 refine bA (λh1=>aw (h _ _ (Sm.refl st) (rX g0 (.inl (bh.mp h1))))) λh1=>?_
 refine bA (λh2=>aw (h _ _ (Sm.refl st) (xl g0 (bh.mp h2)))) λh2=>?_
 rw[bh]at h1 h2;refine ai (eS ?_);refine ai (dR (dQ
  (I:=hi1 a b st)
  (Q:=hq1 a b st) ?step ?fin ⟨Sm.refl st,_,_,_,_,rfl,g0,(wz ‹_›),by lia,by lia⟩) ?post)
 case fin =>
  rintro c aB ⟨_,ma,mb,out,mg,_,_,z1,z2,z3⟩
  lia
 case post =>
  rintro⟨_,c⟩ aB ⟨sm,r,rfl,g⟩
  exact aw (h r aB sm g)
 case step =>
  rintro x c aB _ hx ⟨sm,ma,mb,out,mg,rfl,g,z1,z2,z3⟩
  refine ai (dR (dQ
   (I:=hi2 a b st x)
   (Q:=hq2 a b st x) ?zP ?Ka ⟨sm,_,_,_,_,_,rfl,g,z1,z2,‹_›⟩) ?zQ)
  case Ka =>
   rintro c aB ⟨sm,ma,mb,out,ac,bc,rfl,g,z1,z2,z3⟩
   exact⟨sm,.inr ⟨ma,mb,out,ac,bc,rfl,g,z1,z2,by lia⟩⟩
  case zP =>
   rintro y c aB _ hy ⟨sm,ma,mb,out,ac,bc,rfl,g,z1,z2,z3⟩
   have y1:=g.1;have y2:=g.2.1;obtain⟨bx,xm,TZ⟩:=fy (arr:=b) (i:=mb-1) (by lia)
   obtain⟨ax,xo,T1⟩:=fy (arr:=a) (i:=ma-1) (by lia)
   refine ai (m:=elem' b (mb-1)) (b7 xm ?_);refine ai (m:=elem' a (ma-1)) (b7 xo ?_);refine ai (m:=lt' bx ax) (zM (sm.1.trans hk) (fN TY xm) (fN TX xo) ?_);refine bA (λhw=>?_) λhw=>?_
   ·have g1:=pA g z1 xo λm q1 _=>da (pW ub (i:=m) (j:=mb-1) (by lia) (by lia)) (da (iI TZ) (kc (eJ hw)))
    refine ai (m:=elem' a (ma-1)) (b7 xo ?_);refine bA (λe1=>aw ⟨sm,.inl ⟨_,rfl,rX g1 (.inl (bh.mp e1))⟩⟩) λe1=>?_
    have e1:=wz λz=>e1 (bh.mpr z)
    have e2:ma-1+mb+x+2<=a.size+b.size:=by lia
    exact bA (λ_=>aw ⟨sm,.inr ⟨_,_,_,_,_,rfl,g1,e1,z2,e2⟩⟩) λ_=>aw ⟨sm,_,_,_,_,_,rfl,g1,e1,z2,pm e2⟩
   ·have g1:=pB g (dP z2) xm λm q1 _=>da (pW ua (i:=m) (j:=ma-1) (by lia) (by lia)) (da (iI T1) (Int.not_lt.mp λz=>hw (dE z)))
    refine ai (m:=elem' b (mb-1)) (b7 xm ?_);refine bA (λe1=>aw ⟨sm,.inl ⟨_,rfl,xl g1 (bh.mp e1)⟩⟩) λe1=>?_
    have e1:¬mb-1=1:=λz=>e1 (bh.mpr z)
    have e3:1<mb-1:=by lia
    have e2:ma+(mb-1)+x+2<=a.size+b.size:=by lia
    exact bA (λ_=>aw ⟨sm,.inr ⟨_,_,_,_,_,rfl,g1,z1,e3,e2⟩⟩) λ_=>aw ⟨sm,_,_,_,_,_,rfl,g1,z1,e3,pm e2⟩
  case zQ =>
   rintro⟨_,c⟩ aB ⟨sm,⟨r,rfl,gr⟩ | ⟨ma,mb,out,ac,bc,e,g,z1,z2,z3⟩⟩
   ·exact aw ⟨sm,r,rfl,gr⟩
   cases e;refine ai (kh (gi ⟨rfl,?_⟩));refine ai (dR (dQ
    (I:=hi3 a b st x)
    (Q:=hq3 a b st x) ?zR ?Kb ⟨sm,_,_,_,_,_,_,rfl,g,z1,z2,‹_›⟩) ?zS)
   case Kb =>
    rintro c aB ⟨sm,ma,mb,out,mg,ac,bc,rfl,g,z1,z2,z3⟩
    exact⟨sm,.inr ⟨ma,mb,out,mg,ac,bc,rfl,g,z1,z2,z3⟩⟩
   case zS =>
    rintro⟨_,c⟩ aB ⟨sm,⟨r,rfl,gr⟩ | ⟨ma,mb,out,mg,ac,bc,e,g,z1,z2,z3⟩⟩
    ·exact aw ⟨sm,r,rfl,gr⟩
    ·cases e;refine ai (gh ?_);exact aw ⟨sm,_,_,_,_,rfl,g,z1,z2,‹_›⟩
   case zR =>
    rintro y c aB _ hy ⟨sm,ma,mb,out,mg,ac,bc,rfl,g,z1,z2,z3⟩
    have y1:=g.1;have y2:=g.2.1;obtain⟨bx,xm,TZ⟩:=fy (arr:=b) (i:=mb-1) (by lia)
    extract_lets +onlyGivenNames _ _ _ _ _ _ _ _ _ _ _ _ jp
    have hj:∀m,wpS (model prog w) A E s (jp () m) (WR (hq3 a b st x) (hi3 a b st x (y+1))) aB:=λm=>by
     refine ai (gh ?_);refine ai (m:=elem' b (mb-1)) (b7 xm ?_);refine ai (m:=jA false bx a 0 ma (ma-1)) (gS (sm.1.trans hk) TX (fN TY xm) (by lia) (by lia) (qr ua (by lia)) λk k1 k2 k3=>?_)
     dsimp -zeta only
     extract_lets +onlyGivenNames _ _ jp2
     have hj2:∀ja o,Hi a b o ja mb->0<ja->(∀m,m<ja->K a m<=ky bx)->ja+mb+x+2<=a.size+b.size->wpS (model prog w) A E s (jp2 () ja o) (WR (hq3 a b st x) (hi3 a b st x (y+1))) (mgS m aB):=λja o gk w1 w2 w3=>by
      have gb:=pB gk (dP z2) xm λm q1 _=>w2 m q1
      refine ai (m:=elem' b (mb-1)) (b7 xm ?_);refine bA (λe3=>aw ⟨sm,.inl ⟨_,rfl,xl gb (bh.mp e3)⟩⟩) λe3=>?_
      have e3:¬mb-1=1:=λz=>e3 (bh.mpr z)
      have w4:=gk.1;obtain⟨ax,xo,T1⟩:=fy (arr:=a) (i:=ja-1) (by lia)
      refine ai (m:=elem' a (ja-1)) (b7 xo ?_);refine ai (m:=jA true ax b 0 (mb-1) (mb-1-1)) (gS (sm.1.trans hk) TY (fN TX xo) (by lia) (by lia) (qr ub (by lia)) λk' l1 l2 l3=>?_)
      have v2:∀m,m<k'->K b m<=ky ax:=λm q1=>by
       have:=Hb.1.mp (l2 m q1);rw[fu]at this;exact kc this
      dsimp -zeta only
      extract_lets +onlyGivenNames _ _ _ jp3
      have X5:∀jb p,Hi a b p ja jb->1<jb->(∀m,m<jb->K b m<=ky ax)->ja+jb+x+2<=a.size+b.size->wpS (model prog w) A E s (jp3 () jb p) (WR (hq3 a b st x) (hi3 a b st x (y+1))) (mgS m aB):=λjb p gl v1 v2 v3=>by
       have gf:=pA gl w1 xo λm q1 _=>v2 m q1
       refine ai (m:=elem' a (ja-1)) (b7 xo ?_);refine bA (λe5=>aw ⟨sm,.inl ⟨_,rfl,rX gf (.inl (bh.mp e5))⟩⟩) λe5=>?_
       have e5:=wz λz=>e5 (bh.mpr z)
       have e6:ja-1+jb+x+2<=a.size+b.size:=by lia
       exact bA (λ_=>aw ⟨sm,.inr ⟨_,_,_,_,_,_,rfl,gf,e5,v1,e6⟩⟩) λ_=>aw ⟨sm,_,_,_,_,_,_,rfl,gf,e5,v1,e6⟩
      refine bA (λWS=>?_) λWS=>?_
      ·have gl:Hi a b (o.push bx++(b.extract k' (mb-1)).reverse) ja k':=(gb.symm.more ub l1 λi x q1 q2 hx z hz=>by
        obtain⟨m,p1,p2,p3,p4⟩:=gC hz;have u1:=Hb.2.mp (l3 i q1 q2);rw[fu,uB hx]at u1;have u2:=pW ua (i:=m) (j:=ja-1) (by lia) (by lia)
        rw[T1,p4]at u2;exact da u2 u1).symm
       refine bA (λe4=>aw ⟨sm,.inl ⟨_,rfl,xl gl (bh.mp e4)⟩⟩) λe4=>?_
       refine bA (λe5=>aw ⟨sm,.inl ⟨_,rfl,rX gl (.inr (bh.mp e5))⟩⟩) λe5=>?_
       have e4:¬k'=1:=λz=>e4 (bh.mpr z)
       have e5:¬k'=0:=λz=>e5 (bh.mpr z)
       exact X5 k' _ gl (by lia) v2 (by lia)
      ·have WS:¬mb-1-k'>0:=WS;rw[show k'=mb-1 by lia]at v2
       exact X5 (mb-1) _ gb (by lia) v2 (by lia)
     have w2:∀m,m<k->K a m<=ky bx:=λm q1=>by
      have:=Hc.1.mp (k2 m q1)
      rwa [fu]at this
     refine bA (λWT=>?_) λWT=>?_
     ·have gk:Hi a b (out++(a.extract k ma).reverse) k mb:=g.more ua k1 λi x q1 q2 hx z hz=>by
       obtain⟨m,p1,p2,p3,p4⟩:=gC hz;have u1:=Hc.2.mp (k3 i q1 q2);rw[fu,uB hx]at u1;have u2:=pW ub (i:=m) (j:=mb-1) (by lia) (by lia)
       rw[TZ,p4]at u2;exact da u2 (kc u1)
      exact bA (λe1=>aw ⟨sm,.inl ⟨_,rfl,rX gk (.inl (bh.mp e1))⟩⟩) λe1=>hj2 k _ gk (wz λz=>e1 (bh.mpr z)) w2 (by lia)
     ·have WT:¬ma-k>0:=WT;rw[show k=ma by lia]at w2
      exact hj2 ma _ g z1 w2 z3
    exact bA (λ_=>hj _) λ_=>hj _
end
end
section
variable {prog:Program} {w:World} {A:Around} {E:Value->Shared->Prop} {s:Shared} {st:SortSt}
theorem EY(sa:Nat):∀(l:List Keyed) (i:Nat) (a:Array Keyed),sa+i+l.length<=a.size->((l.zipIdx i).foldl (λa (x:Keyed×Nat)=>match x with | (p,j)=>a.setIfInBounds (sa+j) p) a).toList=a.toList.take (sa+i)++l++a.toList.drop (sa+i+l.length)
 | [],i,a,_=>by simp
 | p::l,i,a,h=>by
  rw[aW]at h;rw[List.zipIdx_cons,wQ];rw[EY sa l (i+1) (a.setIfInBounds (sa+i) p) (by grind),Array.toList_setIfInBounds,aW,<-Nat.add_assoc sa i 1]
  have hl:sa+i<a.toList.length:=by grind
  rw[List.drop_set_of_lt (fL _ _),Ci,List.take_set_of_le (ao _),nJ hl,show sa+i+(l.length+1)=sa+i+1+l.length by lia]
  simp
def uk(a:Array Keyed)(i j:Nat):Prop:=∀p q,i<=p->p<=q->q<j->K a p<=K a q
def rY(h:uk a i j)(hj:j<=a.size):up (a.extract i j).toList:=by
 unfold up;rw[List.pairwise_iff_getElem];intro p q hp hq hpq;rw[c6,wx]at hp hq;have e:∀m (hm:m<(a.extract i j).toList.length),ky (a.extract i j).toList[m]=K a (i+m):=λm hm=>by
  rw[c6,wx]at hm;have:(a.extract i j)[m]?=a[i+m]?:=by rw[Array.getElem?_extract];rw[if_pos (by lia)]
  rw[Array.getElem_toList];refine(uB ?_).symm;rw[<-this,qR]
 show ky _<=ky _;rw[e,e];exact h _ _ (fL _ _) (by lia) (by lia)
def qt{a:Array Keyed}(h:IntKeys a)(i j:Nat):IntKeys (a.extract i j):=λp hp=>h p (by
 rw[nN,List.extract_eq_drop_take]at hp;exact List.mem_of_mem_drop (List.mem_of_mem_take hp))
def xp(h:y∈(a.extract i j).toList):∃m,i<=m/\m<j/\m<a.size/\K a m=ky y:=by
 rw[nN,List.extract_eq_drop_take]at h;obtain⟨m,hm,e⟩:=wt.mp h;rw[jq,wI,c6]at hm;exact⟨i+m,(fL _ _),by lia,by lia,uB (by grind)⟩
def Up(a:Array Keyed):Prop:=up a.toList
def acJ(a:Array Keyed)(h1:i<=j)(h2:j<=k):a.toList.Perm (a.toList.take i++((a.extract i j).toList++(a.extract j k).toList)++a.toList.drop k):=by
 have e1:(a.extract i j).toList++(a.extract j k).toList=(a.toList.drop i).take (k-i):=by
  rw[nN,nN,List.extract_eq_drop_take,List.extract_eq_drop_take,show k-i=(j-i)+(k-j) by lia,List.take_add,List.drop_drop,show i+(j-i)=j by lia]
 rw[e1];have e2:a.toList.take i++(a.toList.drop i).take (k-i)++a.toList.drop k=a.toList:=by
  rw[<-List.take_add,show i+(k-i)=k by lia,Cd]
 rw[e2]
def Kc(h:uk a 0 a.size):Up a:=by
 have:=rY h (ao _)
 rwa [Array.extract_size]at this
def N9{x st:σ}(h:Q ⟨⟩ x):wpS M A E s (set x:StateT σ Sem PUnit) Q st:=by
 unfold wpS;rw[StateT.run_set];exact aj ⟨rfl,h⟩
def zU(ha:uk a base (base+n)):∀i j,i<=j->j<n->Bv left key a base j=true->Bv left key a base i=true:=λi j h1 h2 h3=>by
 have:=ha (base+i) (base+j) (fL _ _) (by lia) (by lia)
 unfold Bv at h3 ⊢;cases left with
 | true=>simp only[iJ,j6]at h3 ⊢;lia
 | false=>simp only[qY,jt,wD,B6]at h3 ⊢;lia
def Ke(h:i+m<j)(hj:j<=a.size):K (a.extract i j) m=K a (i+m):=by
 obtain⟨x,hx,e⟩:=fy (arr:=a) (i:=i+m) (bY ‹_› ‹_›);rw[e];refine uB ?_;rw[Array.getElem?_extract,if_pos (by lia)]
 exact hx
def Kf(hz:n1+n2=a.size)(s1:uk a 0 n1)(s2:uk a n1 (n1+n2))(hk:k<n1)(hj:j<=n2)(h2:0<n2)(ec:K a n1=c0)(ed:K a (n1-1)=d0)
  (k2:∀i,i<k->K a i<=c0) (l3:∀i,j<=i->i<n2->d0<=K a (n1+i)) (g:iL le (a.extract k n1).toList (a.extract n1 (n1+j)).toList r) :
  (a.toList.take k++r++a.toList.drop (n1+j)).Perm a.toList/\up (a.toList.take k++r++a.toList.drop (n1+j)):=by
 refine⟨((g.1.append_left _).append_right _).trans (acJ a (dP ‹_›) (fL _ _)).symm,?_⟩;have hr:∀y∈r,(∃m,k<=m/\m<n1/\K a m=ky y)\/∃m,n1<=m/\m<n1+j/\K a m=ky y:=λy hy=>by
  rcases bZ.mp (g.1.mem_iff.mp hy)with hy | hy
  ·obtain⟨m,q1,q2,q3,q4⟩:=xp hy;exact .inl ⟨m,q1,q2,q4⟩
  ·obtain⟨m,q1,q2,q3,q4⟩:=xp hy;exact .inr ⟨m,q1,q2,q4⟩
 refine qU.mpr ⟨qU.mpr ⟨?_,g.2,λx hx y hy=>?_⟩,?_,λx hx y hy=>?_⟩
 ·rw[<-T3];exact rY (λp q q1 q2 q3=>s1 p q q1 q2 (by lia)) (by lia)
 ·obtain⟨p,p1,p2,p3,p4⟩:=gC hx;show ky x<=ky y;rw[<-p4];rcases hr y hy with⟨m,q1,q2,q3⟩ | ⟨m,q1,q2,q3⟩
  ·rw[<-q3];exact s1 p m (dF _) (by lia) q2
  ·rw[<-q3];have:=k2 p p1;have:=s2 n1 m (ao _) q1 (by lia)
   lia
 ·rw[<-kj];exact rY (λp q q1 q2 q3=>s2 p q (by lia) q2 (by lia)) (ao _)
 ·obtain⟨m,q1,q2,q3,q4⟩:=i8 hy;show ky x<=ky y;rw[<-q4];have f1:=l3 (m-n1) (by lia) (by lia)
  rw[show n1+(m-n1)=m by lia]at f1
  have f2:∀p,p<n1->K a p<=K a m:=λp hp=>by
   have:=s1 p (n1-1) (dF _) (by lia) (by lia)
   lia
  rcases bZ.mp hx with hx | hx
  ·obtain⟨p,p1,p2,p3,p4⟩:=gC hx;rw[<-p4];exact f2 p (by lia)
  ·rcases hr x hx with⟨p,p1,p2,p3⟩ | ⟨p,p1,p2,p3⟩
   ·grind
   ·rw[<-p3];exact s2 p m p1 (by lia) (by lia)
def Dc(hk:kindOf st=oneType')(hf:failedOf st=none)(hi:IntKeys (arrOf st))(hp:pendingOf st=#[(0,n1,pw),(n1,n2,0)])(h1:0<n1)(h2:0<n2)(hz:n1+n2=(arrOf st).size)
  (s1:uk (arrOf st) 0 n1) (s2:uk (arrOf st) n1 (n1+n2))
  (h:∀aB,(arrOf aB).toList.Perm (arrOf st).toList->Up (arrOf aB)->failedOf aB=none->pendingOf aB=#[(0,n1+n2,pw)]->Q true aB):wpS (model prog w) A E s (mergeAt' 0) Q st:=by
 refine ai (eS ?_);have e0:(pendingOf st)[0]?=some (0,n1,pw):=by rw[hp];rfl
 have e1:(pendingOf st)[0+1]?=some (n1,n2,0):=by rw[hp];rfl
 rw[e0,e1];dsimp only
 have hpp:((pendingOf st).setIfInBounds 0 (0,n1+n2,pw)).eraseIdxIfInBounds (0+1)=#[(0,n1+n2,pw)]:=by
  rw[hp];simp[Array.eraseIdxIfInBounds]
 have all:∀{c:Int},K (arrOf st) n1=c->(∀i,i<n1->K (arrOf st) i<=c)->Up (arrOf st):=λ{c} ec hc=>Kc λp q q1 q2 q3=>by
  by_cases hq:q<n1
  ·exact s1 p q q1 q2 hq
  ·by_cases hp:n1<=p
   ·exact s2 p q hp q2 (by lia)
   ·have f1:=hc p (Ct ‹_›);have f2:=s2 n1 q (ao _) (nV ‹_›) (by lia)
    lia
 refine ai (N9 ?_);obtain⟨c0,hc0,X6⟩:=fy (arr:=arrOf st) (i:=n1) (by lia)
 refine ai (b7 hc0 ?_);refine ai (m:=jA false c0 (arrOf st) 0 n1 0) (gS hk hi (fN hi hc0) (by lia) h1 (zU (by rw[fu];exact s1)) λk k1 k2 k3=>?_)
 have k2':∀i,i<k->K (arrOf st) i<=ky c0:=λi hi=>by
  have:=Hc.1.mp (k2 i hi)
  rwa [fu]at this
 dsimp only
 by_cases hn:n1-k=0
 ·rw[if_pos (bh.mpr hn)];exact aw (h _ (List.Perm.refl _) (all X6 λi hi=>k2' i (by lia)) hf hpp)
 rw[if_neg (λz=>hn (bh.mp z))]
 obtain⟨d0,hd0,ed0⟩:=fy (arr:=arrOf st) (i:=0+k+(n1-k)-1) (by lia)
 refine ai (b7 hd0 ?_);rw[show 0+k+(n1-k)-1=n1-1 by lia]at ed0
 refine ai (m:=jA true d0 (arrOf st) n1 n2 (n2-1)) (gS hk hi (fN hi hd0) (gF ‹_›) (by lia) (zU s2) λj j1 j2 j3=>?_)
 have j3':∀i,j<=i->i<n2->ky d0<=K (arrOf st) (n1+i):=λi q1 q2=>Hb.2.mp (j3 i q1 q2)
 have j2':∀i,i<j->K (arrOf st) (n1+i)<ky d0:=λi q1=>Hb.1.mp (j2 i q1)
 dsimp only
 by_cases hj:j=0
 ·rw[if_pos (bh.mpr hj)];have f0:=j3' 0 (gF ‹_›) h2;refine aw (h _ (List.Perm.refl _) (all X6 λi hi=>?_) hf hpp)
  have f1:=s1 i (n1-1) (dF _) (by lia) (by lia)
  rw[rp]at f0;rw[X6]at f0;rw[ed0]at f1;exact da f1 f0
 rw[if_neg (λz=>hj (bh.mp z))]
 rw[fu];have k3k:=Hc.2.mp (k3 k (ao _) (by lia))
 rw[fu]at k3k;have first:K ((arrOf st).extract n1 (n1+j)) 0<=K ((arrOf st).extract k n1) 0:=by
  rw[Ke (by lia) (by lia),Ke (by lia) (by lia),rp,rp,X6]
  exact kc k3k
 have zx:((arrOf st).extract k n1).size=n1-k:=by rw[wx];lia
 have zy:((arrOf st).extract n1 (n1+j)).size=j:=by rw[wx];lia
 have fX:∀y∈((arrOf st).extract n1 (n1+j)).toList,ky y<=K ((arrOf st).extract k n1) (((arrOf st).extract k n1).size-1):=λy hy=>by
  obtain⟨m,q1,q2,q3,q4⟩:=xp hy;rw[zx,Ke (by lia) (by lia),show k+(n1-k-1)=n1-1 by lia,ed0,<-q4]
  have:=j2' (m-n1) (by lia)
  rw[show n1+(m-n1)=m by lia]at this
  exact kc this
 have ux:up ((arrOf st).extract k n1).toList:=rY (λp q q1 q2 q3=>s1 p q (dF _) q2 q3) (by lia)
 have uy:up ((arrOf st).extract n1 (n1+j)).toList:=rY (λp q q1 q2 q3=>s2 p q q1 q2 (by lia)) (by lia)
 have fin:∀(r:Array Keyed) (aB:SortSt),arrOf aB=arrOf st->failedOf aB=none->pendingOf aB=#[(0,n1+n2,pw)]->iL le ((arrOf st).extract k n1).toList ((arrOf st).extract n1 (n1+j)).toList r.toList ->
   Q (failedOf aB).isNone (SortSt.mk' (kindOf aB) (r.toList.zipIdx.foldl (λa (x:Keyed×Nat)=>match x with | (p,i)=>a.setIfInBounds (k+i) p) (arrOf aB)) (pendingOf aB) (gallopOf aB) (failedOf aB)):=λr aB a1 a2 a3 g=>by
  have hl:r.toList.length=n1-k+j:=by rw[g.1.length_eq,bu,c6,c6,zx,zy]
  obtain⟨w1,w2⟩:=Kf hz s1 s2 (by lia) j1 h2 X6 ed0 k2' j3' g
  have e:=EY k r.toList 0 (arrOf aB) (by rw[a1,hl];lia)
  rw[a1,hl,show k+0+(n1-k+j)=n1+j by lia,rp]at e
  rw[<-e]at w1 w2;have a4:(failedOf aB).isNone=true:=by rw[a2];rfl
  rw[a4];refine h _ ?_ ?_ a2 a3
  ·show(List.foldl _ (arrOf aB) _).toList.Perm _;rw[a1];exact w1
  ·show up (List.foldl _ (arrOf aB) _).toList;rw[a1];exact w2
 by_cases hc:n1-k<=j
 ·rw[if_pos hc];refine ai (m:=zN ((arrOf st).extract k n1) ((arrOf st).extract n1 (n1+j))) (C8 hk (qt hi _ _) (qt hi _ _) ux uy (by rw[zx];lia) (by rw[zy];lia) first fX λr aB sm g=>?_)
  refine ai (gh ?_);refine ai (eS ?_);exact aw (fin r aB sm.2.1 (sm.2.2.2.trans hf) (sm.2.2.1.trans hpp) g)
 ·rw[if_neg hc];refine ai (m:=zT ((arrOf st).extract k n1) ((arrOf st).extract n1 (n1+j))) (C9 hk (qt hi _ _) (qt hi _ _) ux uy (by rw[zx];lia) (by rw[zy];lia) first fX λr aB sm g=>?_)
  refine ai (gh ?_);refine ai (eS ?_);exact aw (fin r aB sm.2.1 (sm.2.2.2.trans hf) (sm.2.2.1.trans hpp) g)
end
structure RB (a:Array Keyed) (lo:Nat) (pd:Array (Nat×Nat×Nat)) (st:SortSt):Prop where
 perm:(arrOf st).Perm a
 kind:kindOf st=oneType'
 failed:failedOf st=none
 pend:pendingOf st=pd
 low:∀i,i<lo->K (arrOf st) i=K a i
section
variable {prog:Program} {w:World} {A:Around} {E:Value->Shared->Prop} {s:Shared} {st:SortSt} {a:Array Keyed} {lo:Nat} {pd:Array (Nat×Nat×Nat)}
def RB.size(h:RB a lo pd st):(arrOf st).size=a.size:=h.perm.size_eq
def RB.ints(h:RB a lo pd st)(h0:IntKeys a):IntKeys (arrOf st):=λp hp=>h0 p ((qP.mp h.perm).mem_iff.mp hp)
def RB.set(h:RB a lo pd st)(hp:xs.Perm (arrOf st))(hl:∀i,i<lo->K xs i=K (arrOf st) i):RB a lo pd (setArr st xs):=⟨hp.trans h.perm,h.kind,h.failed,h.pend,λi hi=>(hl i hi).trans (h.low i hi)⟩
def RB.lt(h:RB a lo pd st)(h0:IntKeys a)(hi:i<a.size)(hj:j<a.size) (hq:Q (some (decide (K (arrOf st) i<K (arrOf st) j))) st):wpS (model prog w) A E s (ltAt' i j) Q st:=by
 obtain⟨x,hx,ex⟩:=fy (by rw[h.size];exact hi)
 obtain⟨y,hy,ey⟩:=fy (by rw[h.size];exact hj)
 rw[ltAt'_eq];refine ai (eS ?_);refine ai (b7 hx ?_);refine ai (b7 hy ?_);rw[ex,ey]at hq;exact zM h.kind (fN (h.ints h0) hx) (fN (h.ints h0) hy) hq
def pf(h0:IntKeys a)(hB:RB a lo pd st)(hz:lo+pX<=a.size)(h1:1<=pX)(hd:∀p q,lo<=p->p<q->q<lo+pX->K (arrOf st) p≠K (arrOf st) q)
  (h:∀m aB,RB a lo pd aB->1<=m->m<=pX->uk (arrOf aB) lo (lo+m)->Q (some m) aB):wpS (model prog w) A E s (countRun' lo pX) Q st:=by
 refine ai (dR (dQ
  (I:=λx c aB=>aB=st/\c=(none,x)/\uk (arrOf st) lo (lo+x))
  (Q:=λc aB=>aB=st/\∃n,c=(none,n)/\1<=n/\n<=pX/\uk (arrOf st) lo (lo+n)/\(n<pX->K (arrOf st) (lo+n)<K (arrOf st) (lo+n-1))) ?step ?fin ⟨rfl,rfl,λp q q1 q2 q3=>by grind⟩) ?post)
 case fin =>
  rintro c aB ⟨rfl,rfl,z⟩
  rw[Cr h1]at z ⊢;exact⟨rfl,pX,rfl,h1,ao _,z,λq=>absurd q (gE _)⟩
 case step =>
  rintro x c aB WU hx ⟨rfl,rfl,z⟩
  refine ai (hB.lt h0 (by lia) (by lia) ?_)
  (try dsimp only)
  by_cases hw:K (arrOf aB) (lo+x)<K (arrOf aB) (lo+x-1)
  ·rw[if_pos (dE hw)];exact aw ⟨rfl,x,rfl,WU,(dP ‹_›),z,λ_=>hw⟩
  ·rw[if_neg (λq=>hw (eJ q))]
   refine aw ⟨rfl,rfl,λp q q1 q2 q3=>?_⟩
   by_cases e:q<lo+x
   ·exact z p q q1 q2 e
   ·have eq:q=lo+x:=by lia
    subst eq;by_cases e2:p=lo+x
    ·grind
    ·have:=z p (lo+x-1) q1 (by lia) (by lia)
     lia
 case post =>
  rintro c aB ⟨rfl,n,rfl,n1,n2,z,zn⟩
  (try dsimp only)
  by_cases e:n=pX
  ·rw[if_pos (bh.mpr e)];exact aw (h n aB hB n1 n2 z)
  rw[if_neg (λq=>e (bh.mp q))]
  by_cases en:n>1
  ·rw[if_pos en];refine ai (hB.lt h0 (by lia) (by lia) ?_)
   (try dsimp only)
   have hw:K (arrOf aB) lo<K (arrOf aB) (lo+n-1):=by
    have f1:=z lo (lo+n-1) (ao _) (by lia) (by lia)
    have f2:=hd lo (lo+n-1) (ao _) (by lia) (by lia)
    lia
   rw[if_pos (dE hw)];exact aw (h n aB hB n1 n2 z)
  rw[if_neg en];have en1:n=1:=by lia
  subst en1;have zn:=zn (by lia)
  refine ai (kh (gi ⟨rfl,?_⟩));have ini:∀p q,lo<=p->p<=q->q<lo+(1+1)->K (arrOf aB) q<=K (arrOf aB) p:=λp q q1 q2 q3=>by
   grind
  refine ai (dR (dQ
   (I:=λx c st2=>st2=aB/\c=(none,x,0)/\∀p q,lo<=p->p<=q->q<lo+x->K (arrOf aB) q<=K (arrOf aB) p)
   (Q:=λc st2=>st2=aB/\∃n,c=(none,n,0)/\2<=n/\n<=pX/\∀p q,lo<=p->p<=q->q<lo+n->K (arrOf aB) q<=K (arrOf aB) p) ?zR ?Kb ⟨rfl,rfl,ini⟩) ?zS)
  case Kb =>
   rintro c st2 ⟨rfl,rfl,z⟩
   rw[Cr (by lia)]at z ⊢
   exact⟨rfl,pX,rfl,by lia,ao _,z⟩
  case zR =>
   rintro x c st2 WU hx ⟨rfl,rfl,z⟩
   refine ai (m:=ltAt' (lo+x) (lo+x-1)) (hB.lt h0 (by lia) (by lia) ?_)
   (try dsimp only)
   by_cases hw:K (arrOf st2) (lo+x)<K (arrOf st2) (lo+x-1)
   ·rw[if_pos (dE hw),if_neg (by lia)]
    refine aw ⟨rfl,rfl,λp q q1 q2 q3=>?_⟩
    by_cases e:q<lo+x
    ·grind
    ·grind
   ·rw[if_neg (λq=>hw (eJ q))]
    refine ai (hB.lt h0 (by lia) (by lia) ?_)
    (try dsimp only)
    have hl:K (arrOf st2) (lo+x-1)<K (arrOf st2) (lo+x):=by
     grind
    rw[if_pos (dE hl)];exact aw ⟨rfl,x,rfl,by lia,(dP ‹_›),z⟩
  case zS =>
   rintro c st2 ⟨rfl,n,rfl,m1,m2,zd⟩
   (try dsimp only)
   rw[if_neg (by lia)]
   refine ai (wpS_reverse ?_);have hj:lo+n<=(arrOf st2).size:=by rw[hB.size];lia
   have qu:=hB.set (mirror_perm (arrOf st2) lo (lo+n) ((lo+n-lo)/2)) λi hi=>by rw[K_mirror hj,if_neg (by lia)]
   have s2:uk (arrOf (setArr st2 (mirror (arrOf st2) lo (lo+n) ((lo+n-lo)/2)))) lo (lo+n):=λp q q1 q2 q3=>by
    rw[K_mirror hj,K_mirror hj,if_pos (by lia),if_pos (by lia)]
    exact zd _ _ (by lia) (by lia) (by lia)
   revert qu s2
   generalize setArr st2 (mirror (arrOf st2) lo (lo+n) ((lo+n-lo)/2))=uw
   intro qu s2;refine ai (dR (dQ
    (I:=λx c aB=>aB=uw/\c=(none,x)/\uk (arrOf uw) lo (lo+x))
    (Q:=λc aB=>aB=uw/\∃n,c=(none,n)/\1<=n/\n<=pX/\uk (arrOf uw) lo (lo+n)) ?X7 ?acK ⟨rfl,rfl,s2⟩) ?X8)
   case acK =>
    rintro c aB ⟨rfl,rfl,z⟩
    rw[Cr m2]at z ⊢;exact⟨rfl,pX,rfl,h1,ao _,z⟩
   case X8 =>
    rintro c aB ⟨rfl,n,rfl,n1,n2,z⟩
    exact aw (h n aB qu n1 n2 z)
   case X7 =>
    rintro x c aB WU hx ⟨rfl,rfl,z⟩
    refine ai (qu.lt h0 (by lia) (by lia) ?_)
    (try dsimp only)
    by_cases hw:K (arrOf aB) (lo+x)<K (arrOf aB) (lo+x-1)
    ·rw[if_pos (dE hw)];exact aw ⟨rfl,x,rfl,by lia,(dP ‹_›),z⟩
    ·rw[if_neg (λq=>hw (eJ q))]
     refine aw ⟨rfl,rfl,λp q q1 q2 q3=>?_⟩
     by_cases e:q<lo+x
     ·exact z p q q1 q2 e
     ·have eq:q=lo+x:=by lia
      subst eq;by_cases e2:p=lo+x
      ·rw[e2];exact oj _
      ·have:=z p (lo+x-1) q1 (by lia) (by lia)
       lia
def lx(h0:IntKeys a)(hB:RB a lo pd st)(hz:lo+n<=a.size)(h1:1<=ok)(hn:ok<=n)(hs:uk (arrOf st) lo (lo+ok))
  (h:∀aB,RB a lo pd aB->uk (arrOf aB) lo (lo+n)->Q true aB):wpS (model prog w) A E s (binarySort' lo n ok) Q st:=by
 refine ai (dR (dQ
  (I:=λk c aB=>c=(none,())/\RB a lo pd aB/\uk (arrOf aB) lo (lo+k))
  (Q:=λc aB=>c=(none,())/\RB a lo pd aB/\uk (arrOf aB) lo (lo+n)) ?step ?fin ⟨rfl,hB,by rw[Nat.max_eq_left h1];exact hs⟩) ?post)
 case fin =>
  rintro c aB ⟨rfl,hB,z⟩
  rw[show max (max ok 1) n=n by lia]at z
  exact⟨rfl,hB,z⟩
 case post =>
  rintro c aB ⟨rfl,hB,z⟩
  exact aw (h aB hB z)
 case step =>
  rintro k c aB hk1 hk ⟨rfl,hB,z⟩
  (try dsimp only)
  refine ai (dR (dQ
   (I:=λx c st2=>st2=aB/\∃l r,c=(none,l,r)/\l<=r/\r<=k/\r-l<=k-x/\(∀i,i<l->K (arrOf aB) (lo+i)<=K (arrOf aB) (lo+k))/\(∀i,r<=i->i<k->K (arrOf aB) (lo+k)<=K (arrOf aB) (lo+i)))
   (Q:=λc st2=>st2=aB/\∃l,c=(none,l,l)/\l<=k/\(∀i,i<l->K (arrOf aB) (lo+i)<=K (arrOf aB) (lo+k))/\(∀i,l<=i->i<k->K (arrOf aB) (lo+k)<=K (arrOf aB) (lo+i))) ?zP ?Ka ⟨rfl,0,k,rfl,(dF _),(ao _),(ao _),(λi q=>by lia),λi q1 q2=>by lia⟩) ?zQ)
  case Ka =>
   rintro c st2 ⟨rfl,l,r,rfl,r1,r2,r3,r4,r5⟩
   have:l=r:=by lia
   subst this;exact⟨rfl,l,rfl,r2,r4,r5⟩
  case zP =>
   rintro x c st2 _ hx ⟨rfl,l,r,rfl,r1,r2,r3,r4,r5⟩
   (try dsimp only)
   by_cases hl:l>=r
   ·rw[if_pos hl];have:l=r:=by lia
    subst this;exact aw ⟨rfl,l,rfl,r2,r4,r5⟩
   rw[if_neg hl];refine ai (hB.lt h0 (by lia) (by lia) ?_)
   (try dsimp only)
   by_cases hw:K (arrOf st2) (lo+k)<K (arrOf st2) (lo+(l+r)/2)
   ·rw[if_pos (dE hw)];refine aw ⟨rfl,_,_,rfl,by lia,by lia,by lia,r4,λi q1 q2=>?_⟩
    have:=z (lo+(l+r)/2) (lo+i) (fL _ _) (by lia) (by lia)
    lia
   ·rw[if_neg (λq=>hw (eJ q))]
    refine aw ⟨rfl,_,_,rfl,by lia,by lia,by lia,λi q1=>?_,r5⟩
    have:=z (lo+i) (lo+(l+r)/2) (fL _ _) (by lia) (by lia)
    lia
  case zQ =>
   rintro c st2 ⟨rfl,l,rfl,l1,l2,l3⟩
   (try dsimp only)
   have hsz:lo+k<(arrOf st2).size:=by rw[hB.size];lia
   refine ai (gh ?_);refine aw ⟨rfl,hB.set (bubble_perm _ _ _) (λi hi=>by
    show K (bubble (arrOf st2) (lo+k) (lo+k-(lo+l))) i=_;rw[K_bubble hsz (by lia),if_neg (by lia),if_neg (by lia)]),λp q q1 q2 q3=>?_⟩
   show K (bubble (arrOf st2) (lo+k) (lo+k-(lo+l))) p<=K (bubble (arrOf st2) (lo+k) (lo+k-(lo+l))) q;rw[K_bubble hsz (by lia),K_bubble hsz (by lia)]
   have zz:∀i j,i<=j->j<k->K (arrOf st2) (lo+i)<=K (arrOf st2) (lo+j):=λi j e1 e2=>z _ _ (fL _ _) (by lia) (by lia)
   obtain⟨i,rfl⟩:∃i,p=lo+i:=⟨p-lo,by lia⟩
   obtain⟨j,rfl⟩:∃j,q=lo+j:=⟨q-lo,by lia⟩
   by_cases c1:i<l
   ·rw[if_neg (by lia),if_neg (by lia)]
    by_cases c2:j<l
    ·rw[if_neg (by lia),if_neg (by lia)];exact zz i j (by lia) (by lia)
    ·by_cases c3:j=l
     ·rw[if_pos (by lia)];exact l2 i c1
     ·rw[if_neg (by lia),if_pos (by lia),show lo+j-1=lo+(j-1) by lia];exact zz i (j-1) (by lia) (by lia)
   ·by_cases c2:i=l
    ·rw[if_pos (by lia)]
     by_cases c3:j=l
     ·rw[if_pos (by lia)];exact oj _
     ·rw[if_neg (by lia),if_pos (by lia),show lo+j-1=lo+(j-1) by lia];exact l3 (j-1) (by lia) (by lia)
    ·rw[if_neg (by lia),if_pos (by lia),if_neg (by lia),if_pos (by lia),show lo+i-1=lo+(i-1) by lia,show lo+j-1=lo+(j-1) by lia]
     exact zz (i-1) (j-1) (by lia) (by lia)
end
section
variable {prog:Program} {w:World} {A:Around} {E:Value->Shared->Prop} {s:Shared} {st:SortSt} {a:Array Keyed}
def QW(a:Array Keyed):Prop:=(a.toList.map ky).Nodup
def QW.ne(h:QW a)(h1:p<q)(h2:q<a.size):K a p≠K a q:=by
 obtain⟨x,hx,ex⟩:=fy (arr:=a) (i:=p) (by lia)
 obtain⟨y,hy,ey⟩:=fy h2;intro e;rw[ex,ey]at e;have g:∀{i:Nat} {x:Keyed},a[i]?=some x->(a.toList.map ky)[i]?=some (ky x):=λ{i x} h=>by rw[bR,lL,h];rfl
 have:=(List.getElem?_inj (by rw[ak,c6];lia) h).mp ((g hx).trans ((ej some e).trans (g hy).symm))
 lia
def QW.perm(h:QW a)(p:b.Perm a):QW b:=((qP.mp p).map ky).nodup_iff.mpr h
def Hd(h1:64<=n)(h2:n<128):minRun' n n 0=n/2+n%2:=by
 obtain⟨f,hf⟩:∃f,n=f+2:=⟨n-2,by lia⟩
 have e:∀m,minRun' (f+2) m 0=if m<64 then m+0 else(if m/2<64 then m/2+max 0 (m%2)else minRun' f (m/2/2) (max (max 0 (m%2)) (m/2%2))):=λm=>rfl
 have:=e n;rw[if_neg (by lia),if_pos (by lia)]at this
 rw[<-hf]at this;rw[this]
 lia
def Two(a:Array Keyed)(st:SortSt):Prop:=∃n1 pw,0<n1/\n1<a.size/\RB a 0 #[(0,n1,pw),(n1,a.size-n1,0)] st/\uk (arrOf st) 0 n1/\uk (arrOf st) n1 a.size
def One(a:Array Keyed)(st:SortSt):Prop:=(arrOf st).toList.Perm a.toList/\failedOf st=none/\Up (arrOf st)/\(pendingOf st).size=1
def zV(h0:IntKeys a)(hB:RB a 0 #[] st)(z1:64<=a.size)(z2:a.size<128)(hd:QW a)(h:∀aB,One a aB->Q () aB):wpS (model prog w) A E s sortRuns' Q st:=by
 refine ai (eS ?_)
 (try dsimp only)
 have hsz:=hB.size;have hmr:=Hd z1 z2;rw[hsz];rw[show(sortPriv% PySem.Builtin.minRun) a.size a.size 0=a.size/2+a.size%2 from hmr]
 generalize hr:a.size/2+a.size%2=mr
 refine ai (dR (dQ
  (I:=λx c aB=>(x=0/\c=(none,0)/\RB a 0 #[] aB)\/(x=1/\∃n1,c=(none,n1)/\0<n1/\n1<=a.size/\mr<=n1/\RB a 0 #[(0,n1,0)] aB/\uk (arrOf aB) 0 n1)\/(2<=x/\c=(none,a.size)/\Two a aB))
  (Q:=λc aB=>c.1=none/\(One a aB\/Two a aB)) ?step ?fin (.inl ⟨rfl,rfl,hB⟩)) ?post)
 case fin =>
  rintro c aB (⟨q,_⟩ | ⟨q,_⟩ | ⟨_,rfl,t⟩)
  ·lia
  ·lia
  ·exact⟨rfl,.inr t⟩
 case post =>
  rintro c aB ⟨e,hc⟩
  (try dsimp only)
  rw[e]
  (try dsimp only)
  refine ai (dR (dQ
   (I:=λx c aB=>c=(none,())/\(One a aB\/x=0/\Two a aB))
   (Q:=λc aB=>c=(none,())/\One a aB) ?X9 ?acN ⟨rfl,hc.imp id λt=>⟨rfl,t⟩⟩) ?Yb)
  case acN =>
   rintro c aB ⟨rfl,o | ⟨q,_⟩⟩
   ·exact⟨rfl,o⟩
   ·lia
  case Yb =>
   rintro c aB ⟨rfl,o⟩
   exact aw (h aB o)
  case X9 =>
   rintro x c aB _ _ ⟨rfl,o | ⟨q,n1,pw,t1,t2,t3,t4,t5⟩⟩
   ·refine ai (eS ?_)
    (try dsimp only)
    rw[if_pos (by rw[o.2.2.2];exact ao _)]
    exact aw ⟨rfl,o⟩
   ·refine ai (eS ?_)
    (try dsimp only)
    have e2:(pendingOf aB).size=2:=by rw[t3.pend];rfl
    rw[e2,if_neg (by lia)]
    refine ai (Dc t3.kind t3.failed (t3.ints h0) t3.pend t1 (by lia) (by rw[t3.size];lia) t4 (by rw[show n1+(a.size-n1)=a.size by lia];exact t5) λst2 p1 p2 p3 p4=>?_)
    exact aw ⟨rfl,.inl ⟨p1.trans (qP.mp t3.perm),p3,p2,by rw[p4];rfl⟩⟩
 case step =>
  rintro x c aB _ hx (⟨rfl,rfl,hB⟩ | ⟨rfl,n1,rfl,n0,n2,n3,hB,sr⟩ | ⟨hx2,rfl,t⟩)
  ·(try dsimp only)
   rw[if_neg (by lia)]
   refine ai (pf h0 hB (by lia) (iC ‹_› ‹_›) (λp q _ q2 q3=>(hd.perm hB.perm).ne q2 (by rw[hB.size];lia)) λm st2 qu m1 m2 sm=>?_)
   (try dsimp only)
   by_cases hm:m<mr
   ·rw[if_pos hm];refine ai (kh (gi ⟨rfl,?_⟩));refine ai (lx h0 qu (by lia) m1 (by lia) sm λuw Dd sm3=>?_)
    rw[if_neg (by simp)]
    refine ai (eS ?_);rw[show(pendingOf uw).back?=none by rw[Dd.pend];rfl]
    (try dsimp only)
    refine ai (gh ?_);refine aw (.inr (.inl ⟨rfl,_,rfl,by lia,by lia,by lia,⟨Dd.perm,Dd.kind,Dd.failed,?_,Dd.low⟩,?_⟩))
    ·show(pendingOf uw).push _=_;rw[Dd.pend];show #[(0,min (a.size-0) mr,0)]=_;rw[fu]
    ·exact sm3
   ·rw[if_neg hm];refine ai (eS ?_);rw[show(pendingOf st2).back?=none by rw[qu.pend];rfl]
    (try dsimp only)
    refine ai (gh ?_);refine aw (.inr (.inl ⟨rfl,_,rfl,(Nat.le_add_left_of_le ‹_›),by lia,by lia,⟨qu.perm,qu.kind,qu.failed,?_,qu.low⟩,?_⟩))
    ·show(pendingOf st2).push _=_;rw[qu.pend];show #[(0,m,0)]=_;rw[fu]
    ·exact sm
  ·(try dsimp only)
   by_cases hn:n1>=a.size
   ·rw[if_pos hn];have e:n1=a.size:=by lia
    refine aw ⟨rfl,.inl ⟨qP.mp hB.perm,hB.failed,Kc ?_,by rw[hB.pend];rfl⟩⟩
    rw[hB.size,<-e];exact sr
   rw[if_neg hn];have hBn:RB (arrOf aB) n1 #[(0,n1,0)] aB:=⟨Array.Perm.refl _,hB.kind,hB.failed,hB.pend,λ_ _=>rfl⟩
   have hI:IntKeys (arrOf aB):=hB.ints h0;have hS:=hB.size;refine ai (m:=countRun' n1 (a.size-n1)) (pf hI hBn (by lia) (by lia) (λp q _ q2 q3=>(hd.perm hB.perm).ne q2 (by lia)) λm st2 qu m1 m2 sm=>?_)
   (try dsimp only)
   have em:min (a.size-n1) mr=a.size-n1:=by lia
   by_cases hm:m<mr
   ·rw[if_pos hm];refine ai (kh (gi ⟨rfl,?_⟩));refine ai (m:=binarySort' n1 (min (a.size-n1) mr) m) (lx hI qu (by lia) m1 (by lia) sm λuw Dd sm3=>?_)
    rw[if_neg (by simp)]
    have eN:n1+min (a.size-n1) mr=a.size:=by lia
    refine ai (eS ?_);rw[show(pendingOf uw).back?=some (0,n1,0) by rw[Dd.pend];rfl]
    (try dsimp only)
    refine ai (dR (dQ (I:=λ_ c jW=>jW=uw/\c=(none,())) (Q:=λc jW=>jW=uw/\c=(none,())) ?_ (λ_ _ hh=>hh) ⟨rfl,rfl⟩) ?_)
    ·rintro y c jW _ _ ⟨rfl,rfl⟩
     refine ai (eS ?_)
     (try dsimp only)
     rw[show(pendingOf jW).size=1 by rw[Dd.pend];rfl,if_neg (by lia)]
     exact aw ⟨rfl,rfl⟩
    ·rintro c jW ⟨rfl,rfl⟩
     (try dsimp only)
     refine ai (gh ?_);refine ai (gh ?_);refine aw (.inr (.inr ⟨ao _,by rw[eN],n1,power' a.size (2*0+n1) (2*0+n1+n1+min (a.size-n1) mr) a.size,n0,(Ct ‹_›),⟨Dd.perm.trans hB.perm,Dd.kind,Dd.failed,?_,λ_ z=>absurd z (CD _)⟩,λp q q1 q2 q3=>?_,?_⟩))
     ·show((pendingOf jW).modify ((pendingOf jW).size-1) _).push _=_;rw[Dd.pend,em];rfl
     ·show K (arrOf jW) p<=K (arrOf jW) q;rw[Dd.low p (iC ‹_› ‹_›),Dd.low q (‹_›)];exact sr p q q1 q2 q3
     ·show uk (arrOf jW) n1 a.size;have:=sm3
      rwa [eN]at this
   ·rw[if_neg hm];have eM:m=a.size-n1:=by lia
    have eN:n1+m=a.size:=by lia
    refine ai (eS ?_);rw[show(pendingOf st2).back?=some (0,n1,0) by rw[qu.pend];rfl]
    (try dsimp only)
    refine ai (dR (dQ (I:=λ_ c jW=>jW=st2/\c=(none,())) (Q:=λc jW=>jW=st2/\c=(none,())) ?_ (λ_ _ hh=>hh) ⟨rfl,rfl⟩) ?_)
    ·rintro y c jW _ _ ⟨rfl,rfl⟩
     refine ai (eS ?_)
     (try dsimp only)
     rw[show(pendingOf jW).size=1 by rw[qu.pend];rfl,if_neg (by lia)]
     exact aw ⟨rfl,rfl⟩
    ·rintro c jW ⟨rfl,rfl⟩
     (try dsimp only)
     refine ai (gh ?_);refine ai (gh ?_);refine aw (.inr (.inr ⟨ao _,by rw[eN],n1,power' a.size (2*0+n1) (2*0+n1+n1+m) a.size,n0,(Ct ‹_›),⟨qu.perm.trans hB.perm,qu.kind,qu.failed,?_,λ_ z=>absurd z (CD _)⟩,λp q q1 q2 q3=>?_,?_⟩))
     ·show((pendingOf jW).modify ((pendingOf jW).size-1) _).push _=_;rw[qu.pend,eM];rfl
     ·show K (arrOf jW) p<=K (arrOf jW) q;rw[qu.low p (iC ‹_› ‹_›),qu.low q (‹_›)];exact sr p q q1 q2 q3
     ·show uk (arrOf jW) n1 a.size;have:=sm
      rwa [eN]at this
  ·(try dsimp only)
   rw[if_pos (ao _)];exact aw ⟨rfl,.inr t⟩
end
section
variable {prog:Program} {w:World} {A:Around} {E:Value->Shared->Prop} {s:Shared}
def T4(hI:IntsAre vs ns)(hn:ns.Nodup):QW (pairsOf vs):=by
 unfold QW;rw[pairsOf_toList];have:(vs.zip vs).map ky=((vs.zip vs).map Prod.fst).map numOf:=by simp_all
 rw[this,List.map_fst_zip (ao _),hI.nums];exact hn
def Kg(ho:s.heap.get? a=some (seqObj "list" vs.toArray n))(hI:IntsAre vs ns)(hn:ns.Nodup)(z1:64<=vs.length)(z2:vs.length<128)
  (h:∀(out:Array Value) (rZ:List Int),IntsAre out.toList rZ->rZ.Perm ns->rZ.Pairwise (· <= ·)->P (.done (.ret .none)) {s with heap:=sortedHeap s.heap a vs out}) :
  wpAny (model prog w) A (Builtin.«list.sort» ⟨[.ref a],[]⟩) P E s:=by
 rw[list_sort_plain];have ha:=aV ho;refine af (listItems_at ho rfl ?_);refine af (listUpdate_at ho rfl ?_);obtain⟨e1,T5⟩:∃e1,(s.heap.update a (Obj.mapSeq λ_=>#[])).get? a=some (seqObj "list" #[] e1):=⟨_,get?_update_seq ho (λ_=>#[])⟩
 refine af (seqEpoch_at T5 rfl ?_);refine af (wpAny_newTuple ?_);refine af (wpAny_newList ?_);refine eP ?_;have ho6:(((s.heap.update a (Obj.mapSeq λ_=>#[])).push (seqObj "tuple" vs.toArray 0)).push (seqObj "list" #[] 0)).get? a=some (seqObj "list" #[] e1):=by
  rw[Heap.get?_push_ne _ _ _ (by rw[size_push',Heap.size_update];exact bG (wH ha)),Heap.get?_push_ne _ _ _ (by rw[Heap.size_update];exact bG ha)]
  exact T5
 show wpAny (model prog w) A _ P E {s with heap:=((s.heap.update a (Obj.mapSeq λ_=>#[])).push (seqObj "tuple" vs.toArray 0)).push (seqObj "list" #[] 0)}
 dsimp only
 have hsz:vs.toArray.size=vs.length:=by simp
 rw[if_neg (by lia),if_neg (by lia)]
 obtain⟨T6,T7,rest,rfl⟩:∃T6 T7 rest,vs=T6::T7::rest:=by
  cases vs with
  | nil=>simp at z1
  | cons v r=>cases r with
   | nil=>simp at z1
   | cons u r=>exact⟨v,u,r,rfl⟩
 rw[keyKind_ints hI];refine af (aj ?_);refine af (js (zV
  (Q:=λ_ aB=>One (pairsOf (T6::T7::rest)) aB) hI.intKeys ⟨Array.Perm.refl _,rfl,rfl,rfl,λ_ _=>rfl⟩ (by rw[pairsOf_size];exact z1) (by rw[pairsOf_size];exact z2) (T4 hI hn) λaB o=>o) ?_ λ_ _ e=>e)
 rintro⟨⟨⟩,aB⟩ s' ⟨rfl,hp,hf,hu,_⟩
 have De:=qP.mpr hp;dsimp only
 refine af (seqEpoch_at ho6 rfl ?_);refine af (listUpdate_at ho6 rfl ?_ (hsz2:=by refine bE (gF ((Array.size_map ..).trans (De.size_eq.trans (pairsOf_size _)))) ?_;rw[wW];lia))
 rw[hf];simp only[bne_self_eq_false,qY,jt];obtain⟨rZ,q1,q2,q3⟩:=sorted_out hI De λi j h1 h2=>pW hu h1 (by rw[De.size_eq];exact h2)
 exact aj (h _ rZ q1 q2 q3)
def Df(hl:s.heap.IsList l vs.toArray)(hI:IntsAre vs ns)(hn:ns.Nodup)(hz:vs.length<128)
  (h:∀(out:Array Value) (rZ:List Int),IntsAre out.toList rZ->rZ.Perm ns->rZ.Pairwise (· <= ·)->Q (.ref (s.heap.objs.size+1)) {s with heap:=sortedAll s.heap vs out}) :
  wpAny (model prog w) A (call (.builtin "sorted") [.ref l]) Q E s:=by
 by_cases h64:vs.length<64
 ·exact sorted_ints hl hI h64 h
 refine B0 kind_sorted plain_sorted entry_sorted (args_sorted1 _) ?_;unfold Builtin.«sorted»;refine af (aj ?_);refine af (collect_list hl ?_);refine af (wpAny_newList ?_);have hsz:((s.heap.push (seqObj "list" #[] 0)).update s.heap.objs.size (Obj.mapSeq (· ++ vs.toArray))).objs.size=s.heap.objs.size+1:=by
  simp_all
 have QN:(((s.heap.push (seqObj "list" #[] 0)).update s.heap.objs.size (Obj.mapSeq (· ++ vs.toArray))).push (seqObj "list" vs.toArray 0)).get? (s.heap.objs.size+1)=some (seqObj "list" vs.toArray 0):=by
  rw[<-hsz];exact cB _ rfl
 show wpAny _ _ _ _ _ {s with heap:=((s.heap.push (seqObj "list" #[] 0)).update s.heap.objs.size (Obj.mapSeq (· ++ vs.toArray))).push (seqObj "list" vs.toArray 0)}
 rw[hsz];refine af (eP (gX slot_list_sort ⟨_,QN,rfl⟩ entry_list_sort (Kg QN hI hn (nV ‹_›) hz λout rZ a1 a2 a3=>⟨_,rfl,?_⟩) (args_list_sort _)))
 exact aj ⟨_,rfl,h out rZ a1 a2 a3⟩
def Dg(hl:s.heap.IsList l vs.toArray)(hI:IntsAre vs ns)(hz:vs.length<64\/vs.length<128/\ns.Nodup)
  (h:∀(out:Array Value) (rZ:List Int),IntsAre out.toList rZ->rZ.Perm ns->rZ.Pairwise (· <= ·)->Q (.ref (s.heap.objs.size+1)) {s with heap:=sortedAll s.heap vs out}) :
  wpAny (model prog w) A (call (.builtin "sorted") [.ref l]) Q E s:=by
 rcases hz with hz | ⟨hz,hn⟩
 ·exact sorted_ints hl hI hz h
 ·exact Df hl hI hn hz h
end
end M7
namespace L2
open PySem PySem.Spec PyProof.Rows
section
variable {κ:Type} [DecidableEq κ]
noncomputable def jS(kvs:List (κ×V))(k:κ):Option V:=(kvs.find? λkv=>decide (kv.1=k)).map (·.2)
noncomputable def putK(kvs:List (κ×V))(k:κ)(v:V):List (κ×V) :=
 if(kvs.any λkv=>decide (kv.1=k))=true then kvs.map (λkv=>if kv.1=k then(kv.1,v)else kv)else kvs++[(k,v)]
def mH{p:κ×V}{r:List (κ×V)}{k:κ}(e:p.1=k):jS (p::r) k=some p.2:=by simp[jS,rj,e]
def mI{p:κ×V}{r:List (κ×V)}{k:κ}(e:¬p.1=k):jS (p::r) k=jS r k:=by simp[jS,rj,e]
theorem r9(k:κ):∀kvs:List (κ×V),(kvs.any λkv=>decide (kv.1=k))=(jS kvs k).isSome
 | []=>rfl
 | p::r=>by
  rw[jr];by_cases e:p.1=k
  ·simp only[mH e,dE e,Bool.true_or,Option.isSome_some]
  ·rw[mI e,j9 e,Bool.false_or];exact r9 k r
def Kh{kvs:List (κ×V)}{k:κ}(v:V)(h:jS kvs k=none):putK kvs k v=kvs++[(k,v)]:=by
 unfold putK;rw[r9,h];exact if_neg (by decide)
def rK.ve{o:Option V}{u:Option Value}(r:rK o u):o.isSome=u.isSome:=by
 cases o with
 | none=>cases u with
  | none=>rfl
  | some _=>exact(show False from r).elim
 | some _=>cases u with
  | none=>exact(show False from r).elim
  | some _=>rfl
def rK.getD{o:Option V}{u:Option Value}{d:V}{d':Value}(r:rK o u)(rd:RelV d d'):RelV (o.getD d) (u.getD d'):=by
 cases o with
 | none=>cases u with
  | none=>exact rd
  | some _=>exact(show False from r).elim
 | some _=>cases u with
  | none=>exact(show False from r).elim
  | some _=>exact r
def KV.val{kvs:List (κ×V)}{vs:List (κ×Value)}(r:KV kvs vs)(k:κ):rK (jS kvs k) (valueAt vs k):=by
 unfold KV at r;induction r with
 | nil=>exact True.intro
 | @cons p q ps qs h t ih =>
  obtain⟨h1,h2⟩:=h;by_cases e:p.1=k
  ·have e':q.1=k:=by grind
   have b:valueAt (q::qs) k=some q.2:=by simp[valueAt,rj,e']
   rw[mH e,b];exact h2
  ·have e':¬q.1=k:=by grind
   have b:valueAt (q::qs) k=valueAt qs k:=by simp[valueAt,rj,e']
   rw[mI e,b];exact ih
def KV.any{kvs:List (κ×V)}{vs:List (κ×Value)}(r:KV kvs vs)(k:κ):(kvs.any λkv=>decide (kv.1=k))=vs.any λkv=>decide (kv.1=k):=by
 unfold KV at r;induction r with
 | nil=>rfl
 | cons h t ih=>rw[jr,jr,ih,h.1]
def KV.acP{kvs:List (κ×V)}{vs:List (κ×Value)}(r:KV kvs vs)(k:κ){y:V}{u:Value}(ry:RelV y u) :
  KV (kvs.map λkv=>if kv.1=k then(kv.1,y)else kv) (vs.map λkv=>if kv.1=k then(kv.1,u)else kv):=by
 unfold KV at r ⊢;induction r with
 | nil=>exact .nil
 | @cons p q ps qs h t ih =>
  rw[aM,aM];refine .cons ?_ ih;obtain⟨h1,h2⟩:=h;by_cases e:p.1=k
  ·grind
  ·grind
def KV.put{kvs:List (κ×V)}{vs:List (κ×Value)}(r:KV kvs vs)(k:κ){y:V}{u:Value}(ry:RelV y u):KV (putK kvs k y) (stored vs k u):=by
 unfold putK stored;rw[r.any k];by_cases e:(vs.any λkv=>decide (kv.1=k))=true
 ·rw[if_pos e,if_pos e];exact r.acP k ry
 ·rw[if_neg e,if_neg e];exact Paired.snoc r ⟨rfl,ry⟩
theorem KV.length{kvs:List (κ×V)}{vs:List (κ×Value)}(r:KV kvs vs):kvs.length=vs.length:=n6 r
end
def sd{P:Program}{w:World}{k:bB}{u:Value}(r:RelV (kV k) u):(c9 P w).is k u=true:=by
 cases k with
 | inl i=>obtain⟨t,e⟩:=(show ∃t,u=Value.int i t from r);subst e;exact zm P w i t
 | inr x=>obtain⟨t,e⟩:=(show ∃t,u=Value.str x t from r);subst e;exact zq P w x t
theorem vf{P:Program}{w:World}:∀{ks:List bB} {us:List Value},Vals (ks.map kV) us->ItemsAre (c9 P w) ks us
 | [],_,r=>by rw[og]at r;cases r;exact .nil
 | k::ks,_,r=>by
  rw[aM]at r;cases r with
  | cons h t=>exact .cons (sd h) (vf t)
section
variable {P:Program} {w:World} {H:Hp} {h:Heap} {a:Addr}
def QX{u:HO}(ok:lT P w H h)(e:Rd H a u):fZ P w H h a u:=e.ok ok
def EZ{kvs:List (bB×V)}(ok:lT P w H h)(e:Rd H a (.dK kvs)):kvs.length<=sizeLine/\(a==sysModules)=false/\∃vs,KV kvs vs/\h.DictOf (c9 P w) a vs :=
 show fZ P w H h a (.dK kvs)from QX ok e
def QY{kvs:List (bB×V)}(ok:lT P w H h)(e:H a=some (.dK kvs)):kvs.length<=sizeLine/\(a==sysModules)=false/\∃vs,KV kvs vs/\h.DictOf (c9 P w) a vs:=EZ ok (.inl e)
end
section
variable {X:Cx} {ae:List (Addr×Obj)} {σ:St} {H:Hp} {s:Shared} {a b:Addr} {k:List bB} {v:V} {r:Value} {A:Around} {E:Value->Shared->Prop} {xs:List (List bB×Addr×Value)}
def key_is(I:Inv X ae σ H s)(e:ip X.K H a (k.map kV)):(tupleKind (c9 X.prog X.w)).is s.heap k a:=by
 obtain⟨aH,r,⟨o,h1,h2,n,h3⟩,_⟩:=I.tuple e;exact⟨o,aH.toArray,n,h1,h2,h3,by simpa using vf r⟩
def zW(I:Inv X ae σ H s)(e:Rd H a (.dT xs))(hk:gG X.K H xs):xs.length<=sizeLine/\(a==sysModules)=false/\s.heap.DictOfH (tupleKind (c9 X.prog X.w)) a xs:=by
 obtain⟨z,y,o,es,ep,h1,h2,h3,h4,h5⟩:=(show fZ X.prog X.w H s.heap a (.dT xs)from QX I.hok e)
 exact⟨z,y,o,es,ep,h1,h2,h3,h4,λx hx=>key_is I (hk x hx),h5⟩
def Yc{Q:Value->Shared->Prop}(hu:A.units+1<cLine)(I:Inv X ae σ H s)(e:Rd H a (.dT xs))(hk:gG X.K H xs)(eb:ip X.K H b (k.map kV))(h:∀s',Inv X ae σ H s'->Q (.bool (atKey xs k).isSome) s') :
  wpAny (model X.prog X.w) A (compareOp .In (.ref b) (.ref a)) Q E s:=by
 obtain⟨_,hd,dd⟩:=zW I e hk;exact wpAny_in_heap (wC hu) (key_is I eb) hd dd (h _ (I.tok _))
def Yd{Q:Value->Shared->Prop}(hu:A.units+1<cLine)(I:Inv X ae σ H s)(e:Rd H a (.dT xs))(hk:gG X.K H xs)(eb:ip X.K H b (k.map kV)) (h:∀s',Inv X ae σ H s'->Q (.bool (!(atKey xs k).isSome)) s') :
  wpAny (model X.prog X.w) A (compareOp .NotIn (.ref b) (.ref a)) Q E s:=by
 obtain⟨_,hd,dd⟩:=zW I e hk;exact wpAny_notIn_heap (wC hu) (key_is I eb) hd dd (h _ (I.tok _))
def Ye{Q:Value->Shared->Prop}{p:Addr×Value}(hu:A.units+1<cLine)(I:Inv X ae σ H s)(e:Rd H a (.dT xs))(hk:gG X.K H xs)(eb:ip X.K H b (k.map kV))(hp:atKey xs k=some p)(h:∀s',Inv X ae σ H s'->Q p.2 s') :
  wpAny (model X.prog X.w) A (getItem (.ref a) (.ref b)) Q E s:=by
 obtain⟨_,hd,dd⟩:=zW I e hk;exact wpAny_getItem_heap (wC hu) (key_is I eb) dd hp (h _ (I.tok _))
def Dh{κ:Type} [DecidableEq κ] (xs:List (κ×Addr×Value)) (k:κ) (a:Addr) (v:Value):(storedH xs k a v).length<=xs.length+1:=by
 unfold storedH;split
 ·grind
 ·grind
def T8{Q:Unit->Shared->Prop}(hu:A.units+1<cLine)(I:Inv X ae σ H s)(e:H a=some (.dT xs))(hk:gG X.K H xs)(eb:ip X.K H b (k.map kV))(hl:xs.length<sizeLine)
  (h:∀s',Inv X ae σ (cw H a (.dT (storedH xs k b r))) s'->Q () s'):wpAny (model X.prog X.w) A (setItem (.ref a) (.ref b) r) Q E s:=by
 obtain⟨_,hd,dd⟩:=zW I (.inl e) hk;refine wpAny_setItem_heap (hsz:=dP hl) (wC hu) (key_is I eb) dd λh' T9 hs=>h _ ?_
 obtain⟨q,es,ep,hq,h2,h3,h4,_,h5⟩:=T9;exact I.write (x:=a) (e:=a) (by rw[e];exact True.intro) (.inl rfl) (λc q' hc z=>(hs.2 c hc).trans z) ⟨q,hq⟩ ⟨(by have:=Dh xs k b r;lia),hd,q,es,ep,hq,h2,h3,h4,h5⟩
def se(I:Inv X ae σ H s):sysModules<s.heap.objs.size:=oh (by decide) (show mainGlobals<s.heap.objs.size from(I.mod.glob.keeps I.bk).lt)
def QZ(o:HO):TE:=λ_ H Q=>∀p,H p=none->Q (.ref p) (cw H p o)
def Oa{pos:Pos}:PE X (.Dict [] [] pos) (QZ (.dT [])):=λae s σ H Q I h =>
 wpAny_Dict_empty ⟨.ref s.heap.objs.size,_,I.laid (a:=s.heap.objs.size) (o:=.dT []) (t':=s.toks) (λ_ _ q=>aZ _ q) (ao _)
  ⟨dF _,jn.mpr (dn (bG (se I))),_,#[],0,cB _ rfl,⟨rfl,rfl,rfl⟩,rfl,rfl,nZ⟩,rfl,h _ (I.hok.fresh (ao _))⟩
def He{κ:Type} [DecidableEq κ] (xs:List (κ×Addr×Value)) (k:κ):(atKey xs k).isSome=(xs.map (·.1)).any λj=>decide (j=k):=by
 unfold atKey;rw[Cj,List.any_map,List.isSome_find?];rfl
end
noncomputable def Ra(CX:IZ)(P:Program)(w:World)(K:W.Frag)(mg:Str->Option Value)(base:Heap)(N:List Str)(qual:Str)(scope:Scope)(f:Addr)(cd:Value)(cl:List (Str×Addr))(A:Around)(aA:List Env)(s:Shared)(H:Hp)(E:XK):Cx where
 prog:=P
 w:=w
 K:=K
 mg:=mg
 base:=base
 A:=A.deeper (W.envX qual scope s.heap.objs.size f cd cl)
 N:=N
 s₀:=s
 aa:=H
 env:=W.envX qual scope s.heap.objs.size f cd cl
 aA:=aA
 stack:=W.envX qual scope s.heap.objs.size f cd cl::aA
 ex:=[]
 calm:=true
 fn:=λ_=>false
 pn:=[]
 xe:=λe s'=>wpAny (model P w) (A.deeper (W.envX qual scope s.heap.objs.size f cd cl)) (leaving (W.envX qual scope s.heap.objs.size f cd cl) e) (λ_ JX=>CX aA H s E e JX) (λe' JX=>CX aA H s E e' JX) s'
structure lX (h:Heap) (H:Hp) (scope:Scope) (cl:List (Str×Addr)) (N:List Str) (τ:St):Prop where
 inj:∀x y c,cl.lookup x=some c->cl.lookup y=some c->x=y
 has:∀x,scope.names.lookup x=some .free->∃c,cl.lookup x=some c
 cell:∀x c,cl.lookup x=some c->∃v,h.IsCell c v
 free:∀x c,cl.lookup x=some c->H c=none
 val:∀(i:Nat) (x:Str) (v:V),N[i]?=some x->τ[i]?=some (some v)->∃c u,scope.names.lookup x=some .free/\cl.lookup x=some c/\h.IsCell c (some u)/\RelV v u
 len:τ.length=N.length
def lX.un(C:lX h H scope cl N τ)(u:Un fs [] H H' h h'):lX h' H' scope cl N τ where
 inj:=C.inj
 has:=C.has
 cell:=λx c e=>by
  obtain⟨v,o,ho,hd⟩:=C.cell x c e;obtain⟨sl,q⟩:=u.any ho (C.free x c e) (by simp)
  exact⟨v,_,q,hd⟩
 free:=λx c e=>by
  obtain⟨v,o,ho,hd⟩:=C.cell x c e;exact u.free c o ho (C.free x c e) (by simp)
 val:=λi x v e1 e2=>by
  obtain⟨c,w,k,e,⟨o,ho,hd⟩,r⟩:=C.val i x v e1 e2;obtain⟨sl,q⟩:=u.any ho (C.free x c e) (by simp)
  exact⟨c,w,k,e,⟨_,q,hd⟩,r⟩
 len:=C.len
def Ob{K:W.Frag}
  (hk:scope.kind=.function) (hx:scope.names.lookup x=some .local) (nc:∀y∈scope.names,y.2≠.cell) (hd:A.handled=none) (e0:Env0 P w K mg base A aA s H) (r:RelV v u) (C:lX s.heap H scope cl N τ)
  (J8:h1.Ns s.heap.objs.size λy=>[(x,u)].reverse.lookup y) (hkp:∀b o,s.heap.get? b=some o->h1.get? b=some o) :
  Inv (Ra CX P w K mg base (x::N) qual scope f cd cl A aA s H E) [] (some v::τ) H {s with heap:=h1,toks:=tk}:=by
 have noA:∀b:Addr,b∉(Ra CX P w K mg base (x::N) qual scope f cd cl A aA s H E).ex:=λb z=>absurd (show b∈([]:List Addr)from z) (by simp)
 refine⟨⟨e0.mod,hk,rfl,rfl,ao _,C.inj,λy hy=>?_,λy c h _=>(by cases h),λ_=>hd,Around.frames_deeper e0.frames,.inr ⟨rfl,rfl⟩,λb z=>absurd z (noA b),e0.bs,e0.bsz,λb _ _=>noA b,λb z=>absurd z (noA b),e0.funs,e0.frf,e0.tabs⟩,
  rfl,e0.bare,Un.kept hkp,⟨_,J8,λi y z h1 h2 h3=>?_⟩,λy c h=>?_,e0.hok.fresh (ao _),λy c h=>C.free y c h,λp hp=>absurd (show p∈([]:List (Addr×Obj))from hp) (by simp),e0.hok.kept hkp,?_⟩
 ·have hy:scope.names.lookup y=some .cell\/scope.names.lookup y=some .free:=hy;rcases hy with hy | hy
  ·exact absurd rfl (nc _ (eH hy))
  ·exact C.has y hy
 ·cases i with
  | zero =>
   have e1:x=y:=cH (h1);have e2:v=z:=by grind
   subst e1 e2;exact⟨u,r,.inl ⟨hx,by simp⟩⟩
  | succ i =>
   obtain⟨c,w',k,e,z',r'⟩:=C.val i y z (by simpa using (show(x::N)[i+1]?=some y from h1)) (by grind)
   exact⟨w',r',.inr ⟨.inr k,c,e,z'.keeps hkp⟩⟩
 ·obtain⟨v,z⟩:=C.cell y c h;exact⟨v,z.keeps hkp⟩
 ·show(some v::τ).length=(x::N).length;rw[aW,aW,C.len]
def Oc{K:W.Frag}
  (ho:s.heap.get? f=some o) (hf:o.data=.func (W.kla_fn name qual pq9 body scope cl pm cZ I0)) (EH:s.heap.CodeRec cZ qual) (hr:dM (k+1) A) (e0:Env0 P w K mg base A aA s H)
  (hb:bindArgs (W.kla_fn name qual pq9 body scope cl pm cZ I0) ⟨[u],[]⟩=pure [(x,u)]) (r:RelV v u) (hk:scope.kind=.function) (Ua:scope.isCoroutine=false) (Ub:scope.isGenerator=false) (hx:scope.names.lookup x=some .local) (nc:∀y∈scope.names,y.2≠.cell)
  (C:lX s.heap H scope cl N τ) (hbody:∃t,PE (Ra CX P w K mg base (x::N) qual scope f cZ cl A aA s H E) body t/\t (some v::τ) H Q) :
  codeAny (model P w) A (.call (.ref f) ⟨[u],[]⟩) (CR CX aA P w H s Q E) s:=by
 have lim:=e0.mod.nolimit.keeps λb o e=>(e0.bs b o e).1
 refine W.kla_callFunE hr.depth ho hf Ua Ub rfl EH ?_;rw[hb];refine aj (wpAny_newFunctionEnv nc (λy hy=>?_) (λHf J8 hsb=>⟨lim.fresh _ hsb,?_⟩) hk)
 ·grind
 ·obtain⟨t,ht,hq⟩:=hbody;have Yg:∀b o,s.heap.get? b=some o->Hf.get? b=some o:=λb o e=>hsb.extBut b o (bG (aV e)) (aZ _ e)
  have I:=Ob (CX:=CX) (qual:=qual) (f:=f) (cd:=cZ) (E:=E) (tk:=s.toks+1) hk hx nc hr.hd e0 r C J8 Yg;refine W.kla_codeExpr (js (ht [] _ _ H Q I hq) (λu' s' hs=>?_) λe s' hs=>hs)
  obtain⟨v',H',J,rv,q⟩:=hs;exact⟨v',H',J.os,J.bare,J.base,J.hok,rv,q⟩
def uC{pos p:Pos}(l:List Value)(h:TriplesOk l)(e:codeAmong p (l++[rawInt pos.line,rawInt pos.col,c])=some cv):codeAmong p l=some cv\/cv=c:=by
 fun_induction TriplesOk l with
 | case1 =>
  simp only[fj,codeAmong,rawInt]at e;split at e
  ·cases e;exact .inr rfl
  ·cases e
 | case2 a t b u x rest ih =>
  simp only[List.cons_append,codeAmong]at e ⊢;split at e
  ·rename_i hc;rw[if_pos hc];exact .inl e
  ·rename_i hc;rw[if_neg hc];exact ih h e
 | case3 l h1 h2=>exact h.elim
def xq:HO:=.ext λ_=>True
def Di(e:h.get? a=some o):fZ P w H h a (.oY o xq):=⟨e,trivial,⟨o,e⟩,λ_ _ _ _=>trivial⟩
def zX(mg:Str->Option Value)(base:Heap):Prop:=∃bm o,mg "__builtins__"=some (.ref bm)/\bm≠builtinsNs/\bm≠mainGlobals/\base.get? bm=some o/\o.cls=.type "module"/\o.dict=some builtinsNs/\o.data=.plain
def Ki(H:Hp)(f:Addr)(qual:Str)(params:Arguments)(body:Expr)(scope:Scope)(cl:List (Str×Addr)):Prop :=
 ∃o u pm cZ I0 c oc uc vs t,H f=some (.oY o u)/\o.data=.func (W.kla_fn "<lambda>" qual params body scope cl pm cZ I0)/\cZ=.ref c/\H c=some (.oY oc uc)/\oc.data=.fields vs/\vs[1]?=some (.str qual t)
def acQ(qual:Str)(params:Arguments)(body:Expr)(scope:Scope)(cl:List (Str×Addr)):TE:=λ_ H Q=>∀f H',H f=none->cK H H'->(∀b o,H' b=some o->H b=some o\/H b=none)->Ki H' f qual params body scope cl->Q (.ref f) H'
section
variable {X:Cx} {x:Str} {params:Arguments} {body:Expr} {scope:Scope} {lp:Pos} {cl:List (Str×Addr)} {c T:Addr}
def Uc(hx:x∈dq)(ht:W.tabIn X.K x=some (c,T))(hC:W.codeHdIn X.K c T=true)(Rb:X.env.code=.ref c)(Yh:X.env.qual++"<lambda>"=zw x)(hB:zX X.mg X.base)
  (acR:defaultsOf pq9 X.env=([],[])) (hcl:closureFor scope X.env=pure cl):PE X (.Lambda pq9 body scope lp) (acQ (zw x) pq9 body scope cl):=by
 intro ae s σ H Q I h;have hT:=I.tabs x hx c T ht;obtain⟨ps,hP,tri,Rc⟩:=(I.hok T _ hT);have C:=W.codeHd_of_K I.rM hC;have hg:=I.mod.glob.keeps I.bk;obtain⟨bm,ob,b1,b2,b3,b4,b5⟩:=hB;have ne:∀{b:Addr} {o:Obj},X.base.get? b=some o->b≠T:=λ{b o} e z=>by
  have:=(I.bs b o e).2;rw[z,hT]at this;cases this
 refine W.kla_eval acR ?_;rw[Yh];cases hc:codeAmong lp ps.toList with
 | some cv =>
  obtain⟨cc,oc,uc,vs,t,rfl,k1,k2,k3⟩:=Rc lp cv hc;refine W.kla_makeFunctionHit hcl I.ok.glob hg Rb C hP tri hc ⟨bm,ob,b1,b2,b3,ne b4,(I.bs _ _ b4).1,b5⟩ λI0 h' tk hk hsz=>?_
  have hn:=I.hok.fresh hsz;refine⟨.ref h'.objs.size,cw H h'.objs.size (.oY _ xq),I.laid (λb u e=>aZ _ (hk b u e)) hsz (Di (cB _ rfl)),rfl,h _ _ hn (λb u e=>by rw[aI (bU e hn)];exact e) (λb o e=>?_) ?_⟩
  ·by_cases hb:b=h'.objs.size
   ·grind
   ·rw[aI hb]at e;exact .inl e
  ·exact⟨_,_,_,_,_,cc,oc,uc,vs,t,aD,rfl,rfl,by rw[aI (bU k1 hn)];exact k1,k2,k3⟩
 | none =>
  refine W.kla_makeFunction hcl I.ok.glob hg Rb C hP tri hc (by
   obtain⟨o,es,ep,e,_⟩:=I.mod.glob;exact ne e) ⟨bm,ob,b1,b2,b3,ne b4,(I.bs _ _ b4).1,b5⟩ λc' I0 h' tk Dj M8 fO acS htb=>?_
  obtain⟨agR,oc,vs,t,e2,hoc,hd,hv⟩:=acS;cases e2;have hnc:=I.hok.fresh M8;have Ud:=I.hok.fresh (bE M8 (dP fO));have nfc:=rA fO;have cT:c'≠T:=λz=>by rw[z,hT]at hnc;cases hnc
  have fT:h'.objs.size≠T:=λz=>by rw[z,hT]at Ud;cases Ud
  let o1:HO:=.oY oc xq
  let H1:Hp:=cw H c' o1
  have hn1:H1 h'.objs.size=none:=by show cw H c' o1 _=_;rw[aI nfc];exact Ud
  let fo:Obj:=W.kla_obj "<lambda>" (zw x) pq9 body scope cl ((X.mg "__name__").getD .none) c' I0
  let H2:Hp:=cw H1 h'.objs.size (.oY fo xq)
  have Rf:cK H H1:=λb u e=>by show cw H c' o1 b=_;rw[aI (bU e hnc)];exact e
  have s12:cK H1 H2:=λb u e=>by show cw H1 _ _ b=_;rw[aI (bU e hn1)];exact e
  have keep:∀b o,b≠T->s.heap.get? b=some o->(h'.push fo).get? b=some o:=λb o hb e=>aZ _ (Dj b o hb e)
  have nT:∀b,H b=none->b≠T:=λb n z=>by rw[z,hT]at n;cases n
  have lt:∀b o,s.heap.get? b=some o->b<s.heap.objs.size:=λb o e=>aV e
  have hf2:∀b o,s.heap.get? b=some o->H b=none->H2 b=none:=λb o e n=>by
   show cw (cw H c' o1) _ _ b=none;have l1:=lt b o e;rw[aI (bG (bY l1 (bE M8 (dP fO)))),aI (bG (bY l1 M8))];exact n
  have un:Un X.fs [] H H2 s.heap (h'.push fo):=⟨λb o e n _ _=>keep b o (nT b n) e,λb o e n _ _=>⟨o.slots,keep b o (nT b n) e⟩,λb o e n _=>hf2 b o e n,λb o e _=>by
    by_cases hb:b=T
    ·subst hb;exact⟨_,aZ _ htb⟩
    ·exact⟨o,keep b o hb e⟩,λb xs e=>s12 _ _ (Rf _ _ e),λb o u e=>s12 _ _ (Rf _ _ e),λb q e=>s12 _ _ (Rf _ _ e)⟩
  have hok:lT X.prog X.w H2 (h'.push fo):=λb u e=>by
   by_cases Yi:b=h'.objs.size
   ·subst Yi;have e:cw H1 h'.objs.size (.oY fo xq) h'.objs.size=some u:=e;rw[aD]at e;cases e;exact Di (cB _ rfl)
   ·have e:cw H1 h'.objs.size (.oY fo xq) b=some u:=e;rw[aI Yi]at e;by_cases Yj:b=c'
    ·subst Yj;have e:cw H b o1 b=some u:=e;rw[aD]at e;cases e;exact Di (aZ _ hoc)
    ·have e:cw H c' o1 b=some u:=e;rw[aI Yj]at e;by_cases hbT:b=T
     ·subst hbT;rw[hT]at e;cases e;refine⟨_,aZ _ htb,?_,λpos cv z=>?_⟩
      ·simpa using TriplesOk_snoc lp.line lp.col (.ref c') ps.toList tri
      ·rcases uC ps.toList tri (by simpa using z)with z | z
       ·obtain⟨cc,oc',uc,xt,t',q1,q2,q3⟩:=Rc pos cv z;exact⟨cc,oc',uc,xt,t',q1,s12 _ _ (Rf _ _ q2),q3⟩
       ·exact⟨c',oc,xq,vs,t,z,s12 _ _ (by show cw H c' o1 c'=_;exact aD),hd,hv⟩
     ·refine(I.hok b u e).w5 (λd v wZ q=>keep d v ?_ q) (λd q=>s12 _ _ (Rf _ _ q)) (λd xs q=>s12 _ _ (Rf _ _ q)) λd ob' v q=>s12 _ _ (Rf _ _ q)
      rcases wZ with rfl | wZ
      ·exact hbT
      ·rintro rfl
       rw[hT]at wZ;cases wZ
  refine⟨.ref h'.objs.size,H2,I.un un hok,rfl,h _ _ Ud (Rf.trans s12) (λb o e=>?_) ?_⟩
  ·by_cases Yi:b=h'.objs.size
   ·rw[Yi];exact .inr Ud
   ·have e:cw H1 h'.objs.size (.oY fo xq) b=some o:=e;rw[aI Yi]at e;by_cases Yj:b=c'
    ·rw[Yj];exact .inr hnc
    ·have e:cw H c' o1 b=some o:=e;rw[aI Yj]at e;exact .inl e
  ·exact⟨_,_,_,_,_,c',oc,xq,vs,t,(aD),rfl,rfl,s12 _ _ (aD),hd,hv⟩
end
def Yk{K:W.Frag}{st:Stmt}(Fn:CG K x qual st f fd)(S:dG N ps (au st))
  (hr:dM (k+1) A) (e0:Env0 P w K mg base A aA s H) (hb:BindsTo s fd args (ps.zip us)) (r:Vals vs us) (hl:vs.length=ps.length)
  (hbody:∀cZ:Value,∃t,PSs (fF CX P w K mg base N qual (au st) f cZ A aA s H E) (dk st) t/\t {nx:=λ_ H'=>Q .bQ H',rt:=Q} (start N vs) H) :
  codeAny (model P w) A (.call (.ref f) args) (CR CX aA P w H s Q E) s:=by
 obtain⟨oc,od,kV,doc,pm,an,cZ,ct,yV,rfl,lk,EH⟩:=Fn.ex;have old:∀b o,base.get? b=some o->s.heap.get? b=some o:=λb o e=>(e0.bs b o e).1
 have KX:=e0.mod.kin.keeps old;have Yl:∀y∈ps.zip us,(au st).names.lookup y.1=some .local\/((au st).names.lookup y.1=some .cell/\((cellsFrom (s.heap.objs.size+1) (au st).names []).lookup y.1).isSome=true):=λy hy=>by
  rcases S.par y.1 (wN hy).1 with q | q
  ·exact .inl q
  ·exact .inr ⟨q,W.cellsFrom_some _ _ _ (.inl q)⟩
 refine codeAny_call_function hr.depth (KX _ _ lk) rfl S.co S.gen rfl (W.codeRec_of KX EH) (hb _ _ _ _ (Jl S.kind Yl λenv he s1 ic=>?_))
 subst he;refine⟨(e0.mod.nolimit.keeps old).keeps ic.toInCall.keep,codeAny_func ?_⟩;obtain⟨t,ht,hq⟩:=hbody cZ;have I:Inv (fF CX P w K mg base N qual (au st) f cZ A aA s H E) [] (start N vs) H s1:=vc S hr.hd e0 hl r ic;refine js (ht [] s1 (start N vs) H _ I hq) (λfl s' hs=>?_) λe s' hs=>hs
 have fin:∀{bH:St} {H':Hp} {v:V} {u:Value},Inv (fF CX P w K mg base N qual (au st) f cZ A aA s H E) [] bH H' s'->RelV v u->Q v H'->CE aA P w H s Q u s':=λ{_ H' v _} J rv q=>⟨v,H',J.os,J.bare,J.base,J.hok,rv,q⟩
 cases fl with
 | ret u=>obtain⟨v,bH,H',J,rv,q⟩:=hs;exact fin J rv q
 | next=>obtain⟨bH,H',J,q⟩:=hs;exact fin (v:=V.bQ) J rfl q
 | brk=>obtain⟨_,_,_,q⟩:=hs;exact False.elim q
 | cont=>obtain⟨_,_,_,q⟩:=hs;exact False.elim q
end L2
namespace L2.U
open PySem PySem.Spec PyProof.Rows
def nw{α:Sort u}(a:α):∃x,x=a:=⟨_,rfl⟩
noncomputable abbrev PV.lst (ps:List PV):PV:=.nd .lst ps
structure Gr (F F':Fz):Prop where
 s:cK F.F F'.F
 m:∀(n:Nat) (a:Addr),F.μ[n]?=some a->F'.μ[n]?=some a
def Gr.refl(F:Fz):Gr F F:=⟨cK.refl _,λ_ _ h=>h⟩
def Gr.trans(a:Gr F F1)(b:Gr F1 F2):Gr F F2:=⟨a.s.trans b.s,λn c h=>b.m n c (a.m n c h)⟩
def bL{K:W.Frag}(e:cK H H')(h:ip K H a xs):ip K H' a xs:=by
 rcases h with(h | ⟨o,h⟩) | h
 ·exact .inl (.inl (e _ _ h))
 ·exact .inl (.inr ⟨o,e _ _ h⟩)
 ·exact .inr h
def Od(e:cK H H')(h:Rd H a u):Rd H' a u:=h.imp (e _ _) (by rintro⟨o,q⟩;exact⟨o,e _ _ q⟩)
def zY{K:W.Frag}(e:cK H H')(h:kJ K H a xs):kJ K H' a xs:=h.imp (Od e) id
def _root_.L2.kJ.of{K:W.Frag}(h:H a=some (.lst xs)):kJ K H a xs:=.inl (.inl h)
section
variable {K:W.Frag} {F F':Fz}
def kX.to(h:kX K G H a x k vs)(g:cK G G')(e:∀o,H a=some o->H' a=some o)(hy:y=true->x=true):kX K G' H' a y k vs:=by
 have keys:∀{xs:List (List bB×Addr×Value)},gG K G xs->gG K G' xs:=λhk z hz=>bL g (hk z hz)
 match k,h with
 | .ay,⟨h1,h2⟩ =>
  refine⟨?_,?_⟩
  ·grind
  ·rcases h2 with(h2 | ⟨o,h2⟩) | h2
   ·exact .inl (.inl (e _ h2))
   ·exact .inl (.inr ⟨o,e _ h2⟩)
   ·exact .inr h2
 | .lst,h =>
  cases y with
  | true=>rw[hy rfl]at h;exact e _ h
  | false =>
   cases x with
   | true=>exact kJ.of (e _ h)
   | false =>
    rcases(h)with(h | ⟨o,h⟩) | h
    ·exact .inl (.inl (e _ h))
    ·exact .inl (.inr ⟨o,e _ h⟩)
    ·exact .inr h
 | .oX C ns,⟨Ca,dx,fs,h1,h2,h3,h4,h5⟩=>exact⟨Ca,dx,fs,h1,h2,h3,e _ h4,h5⟩
 | .gR false ks,⟨kvs,h1,h2⟩=>exact⟨kvs,e _ h1,h2⟩
 | .gR true ks,⟨xs,h1,h2,h3⟩=>exact⟨xs,e _ h1,keys h2,h3⟩
mutual
theorem bN.mono(e:Gr F F'):∀{p:PV} {v:V},bN K F p v->bN K F' p v
 | .bQ,_,h=>by simpa only[bN]using h
 | .bl _,_,h=>by simpa only[bN]using h
 | .int _,_,h=>by simpa only[bN]using h
 | .str _,_,h=>by simpa only[bN]using h
 | .fn _,_,h=>by simpa only[bN]using h
 | .ref n,_,h=>by
  simp only[bN]at h ⊢;obtain⟨a,h1,h2⟩:=h;exact⟨a,e.m _ _ h1,h2⟩
 | .nd k ps,_,h=>by
  simp only[bN]at h ⊢;obtain⟨a,vs,h1,h2,h3⟩:=h;exact⟨a,vs,h1,h2.to e.s (λo q=>e.s _ _ q) id,aE.mono e h3⟩
theorem aE.mono(e:Gr F F'):∀{ps:List PV} {vs:List V},aE K F ps vs->aE K F' ps vs
 | [],_,h=>by simpa only[aE]using h
 | _::_,_,h=>by
  simp only[aE]at h ⊢;obtain⟨v,r,h1,h2,h3⟩:=h;exact⟨v,r,h1,h2.mono e,aE.mono e h3⟩
end
def aE.cx(h:aE K F (p::ps) vs):∃v r,vs=v::r/\bN K F p v/\aE K F ps r:=by
 simpa only[aE]using h
def aE.cS(h:aE K F [] vs):vs=[]:=by simpa only[aE]using h
theorem sg:∀{ps:List PV} {vs:List V},aE K F ps vs↔Paired (bN K F) ps vs
 | [],vs=>⟨λh=>by rw[h.cS];exact .nil,λh=>by cases h;exact .nil⟩
 | p::ps,vs=>⟨λh=>by obtain⟨v,r,rfl,h1,h2⟩:=h.cx;exact .cons h1 (sg.mp h2),λh=>by cases h with | cons h1 h2=>exact .cons h1 (sg.mpr h2)⟩
def aE.length(h:aE K F ps vs):ps.length=vs.length:=n6 (sg.mp h)
theorem aE.append:∀{ps qs:List PV} {vs ws:List V},aE K F ps vs->aE K F qs ws->aE K F (ps++qs) (vs++ws)
 | [],_,_,_,h,t=>by rw[h.cS];exact t
 | _::_,_,_,_,h,t=>by
  obtain⟨v,r,rfl,h1,h2⟩:=h.cx;exact .cons h1 (h2.append t)
theorem aE.get:∀{ps:List PV} {vs:List V} {i:Nat} {p:PV},aE K F ps vs->ps[i]?=some p->∃v,vs[i]?=some v/\bN K F p v
 | [],_,_,_,_,e=>by cases e
 | _::_,_,0,_,h,e=>by
  obtain⟨v,r,rfl,h1,_⟩:=h.cx;cases e;exact⟨v,rfl,h1⟩
 | _::_,_,_+1,_,h,e=>by
  obtain⟨v,r,rfl,_,h2⟩:=h.cx;exact h2.get e
theorem aE.take:∀{ps:List PV} {vs:List V} (n:Nat),aE K F ps vs->aE K F (ps.take n) (vs.take n)
 | _,_,0,_=>by simp only[List.take_zero];exact .nil
 | [],_,_+1,h=>by rw[h.cS];simp only[List.take_nil];exact .nil
 | _::_,_,n+1,h=>by
  obtain⟨v,r,rfl,h1,h2⟩:=h.cx;exact .cons h1 (h2.take n)
theorem aE.drop:∀{ps:List PV} {vs:List V} (n:Nat),aE K F ps vs->aE K F (ps.drop n) (vs.drop n)
 | _,_,0,h=>h
 | [],_,_+1,h=>by rw[h.cS];simp only[List.drop_nil];exact .nil
 | _::_,_,n+1,h=>by
  obtain⟨v,r,rfl,_,h2⟩:=h.cx;exact h2.drop n
theorem aE.set(r:bN K F p v):∀{ps:List PV} {vs:List V} (i:Nat),aE K F ps vs->aE K F (ps.set i p) (vs.set i v)
 | [],_,_,h=>by rw[h.cS];exact .nil
 | _::_,_,0,h=>by
  obtain⟨v,r',rfl,_,h2⟩:=h.cx;exact .cons r h2
 | _::_,_,i+1,h=>by
  obtain⟨v,r',rfl,h1,h2⟩:=h.cx;exact .cons h1 (h2.set r i)
theorem aE.reverse:∀{ps:List PV} {vs:List V},aE K F ps vs->aE K F ps.reverse vs.reverse
 | [],_,h=>by rw[h.cS];exact .nil
 | _::_,_,h=>by
  obtain⟨v,r,rfl,h1,h2⟩:=h.cx;rw[wF,wF];exact h2.reverse.append (.cons h1 .nil)
def dI:bN K F (.ref n) v↔∃a,F.μ[n]?=some a/\v=.ref a:=by simp only[bN]
def si:bN K F (.fn x) v↔∃a,v=.ref a/\W.nsIn K mainGlobals x=some (some (.ref a)):=by simp only[bN]
def gz:bN K F (.lst ps) v↔∃a vs,v=.ref a/\kJ K F.F a vs/\aE K F ps vs:=jv
end
structure az where
 k:Kd
 ps:List PV
structure cC where
 ρ:List (Option PV)
 h:List az
noncomputable def live(c:az):Bool:=match c.k with | .ay=>false | _=>true
structure kL (K:W.Frag) (aa:Hp) (ab F:Fz) (h:List az) (H:Hp):Prop where
 sub:cK F.F H
 keep:cK aa H
 base:Gr ab F
 fresh:∀a o,F.F a=some o->ab.F a=some o\/aa a=none
 new:∀(n:Nat) (a:Addr),F.μ[n]?=some a->aa a=none/\∃o,H a=some o
 hl:h.length=F.μ.length
 nd:F.μ.Nodup
 cell:∀(n:Nat) (c:az) (a:Addr),h[n]?=some c->F.μ[n]?=some a->live c=true->F.F a=none/\∃vs,kX K F.F H a true c.k vs/\aE K F c.ps vs
structure Lc (K:W.Frag) (F:Fz) (ρ:List (Option PV)) (σ:St):Prop where
 av:∀(i:Nat) (p:PV),ρ[i]?=some (some p)->∃v,σ[i]?=some (some v)/\bN K F p v
 len:ρ.length=σ.length
structure Rep (K:W.Frag) (aa:Hp) (ab F:Fz) (st:cC) (σ:St) (H:Hp):Prop where
 c:kL K aa ab F st.h H
 l:Lc K F st.ρ σ
def eX(h:H p=none):cK H (cw H p o):=λb u q=>by rw[aI (bU q h)];exact q
section
variable {K:W.Frag} {aa H H':Hp} {ab F F':Fz} {h:List az} {st:cC} {σ:St}
def Lc.mono(L:Lc K F ρ σ)(e:Gr F F'):Lc K F' ρ σ:=⟨λi p z=>let ⟨v,h1,h2⟩:=L.av i p z;⟨v,h1,h2.mono e⟩,L.len⟩
def kL.after(R:kL K aa ab F h H)(e:cK H H')(f:cK F.F F'.F)(m:F'.μ=F.μ)(s:cK F'.F H')(n:∀a o,F'.F a=some o->F.F a=some o\/H a=none):kL K aa ab F' h H' where
 sub:=s
 keep:=R.keep.trans e
 base:=R.base.trans ⟨f,λ_ _ q=>by rw[m];exact q⟩
 fresh:=λa o q=>by
  rcases n a o q with z | z
  ·exact R.fresh a o z
  ·exact .inr (R.keep.free z)
 new:=λn a q=>by rw[m]at q;obtain⟨h1,o,h2⟩:=R.new n a q;exact⟨h1,o,e _ _ h2⟩
 hl:=by rw[m];exact R.hl
 nd:=by rw[m];exact R.nd
 cell:=λi c a hc ha hk=>by
  rw[m]at ha;obtain⟨h1,vs,h2,h3⟩:=R.cell i c a hc ha hk;refine⟨?_,vs,h2.to f (λo q=>e _ _ q) id,h3.mono ⟨f,λ_ _ q=>by rw[m];exact q⟩⟩
  obtain⟨_,o,ho⟩:=R.new i a ha;cases q:F'.F a with
  | none=>rfl
  | some u =>
   rcases n a u q with z | z
   ·rw[h1]at z;cases z
   ·rw[ho]at z;cases z
def Rep.after(R:Rep K aa ab F st σ H)(e:cK H H')(f:cK F.F F'.F)(m:F'.μ=F.μ)(s:cK F'.F H')(n:∀a o,F'.F a=some o->F.F a=some o\/H a=none):Rep K aa ab F' st σ H' :=
 ⟨R.c.after e f m s n,R.l.mono ⟨f,λ_ _ q=>by grind⟩⟩
def Rep.sub(R:Rep K aa ab F st σ H):cK F.F H:=R.c.sub
def Rep.laid(R:Rep K aa ab F st σ H)(o:HO)(hp:H p=none):Rep K aa ab ⟨cw F.F p o,F.μ⟩ st σ (cw H p o)/\Gr F ⟨cw F.F p o,F.μ⟩:=by
 have fp:=R.sub.free hp;refine⟨R.after (eX hp) (eX fp) rfl (λb u q=>?_) (λb u q=>?_),eX fp,λ_ _ q=>q⟩
 ·by_cases hb:b=p
  ·subst hb;rw[show(Fz.mk (cw F.F b o) F.μ).F b=cw F.F b o b from rfl,aD]at q;rw[aD];exact q
  ·rw[show(Fz.mk (cw F.F p o) F.μ).F b=cw F.F p o b from rfl,aI hb]at q;rw[aI hb];exact R.sub _ _ q
 ·by_cases hb:b=p
  ·grind
  ·rw[show(Fz.mk (cw F.F p o) F.μ).F b=cw F.F p o b from rfl,aI hb]at q;exact .inl q
def kL.alloc(R:kL K aa ab F h H)(hp:H p=none)(hn:kX K F.F (cw H p o) p true c.k vs)(hb:aE K F c.ps vs) :
  kL K aa ab ⟨F.F,F.μ++[p]⟩ (h++[c]) (cw H p o)/\Gr F ⟨F.F,F.μ++[p]⟩/\(F.μ++[p])[h.length]?=some p:=by
 have g:Gr F ⟨F.F,F.μ++[p]⟩:=⟨cK.refl _,λn a q=>by
  grind⟩
 have Ym:∀n a,(F.μ++[p])[n]?=some a->F.μ[n]?=some a\/n=F.μ.length/\a=p:=λn a q=>by
  grind
 have no:∀n a,F.μ[n]?=some a->a≠p:=λn a q z=>by
  subst z;obtain⟨_,o,ho⟩:=R.new n a q;rw[hp]at ho;cases ho
 refine⟨⟨λb u q=>by rw[aI (bU (R.sub _ _ q) hp)];exact R.sub _ _ q,R.keep.trans (eX hp),R.base.trans g,R.fresh,λn a q=>?_,by simp[R.hl],?_,λn d a hd ha hk=>?_⟩,g,by rw[R.hl];simp⟩
 ·rcases Ym n a q with z | ⟨_,rfl⟩
  ·obtain⟨h1,u,h2⟩:=R.new n a z;exact⟨h1,u,eX hp _ _ h2⟩
  ·exact⟨R.keep.free hp,o,aD⟩
 ·rw[q8];refine⟨R.nd,by simp,λa ha b hb z=>?_⟩
  obtain⟨n,hn⟩:=nM.mp ha;rw[bC]at hb;exact no n a hn (z.trans hb)
 ·rcases Ym n a ha with z | ⟨rfl,rfl⟩
  ·rw[iA (by rw[R.hl];exact(cf.mp z).1)]at hd
   obtain⟨h1,ws,h2,h3⟩:=R.cell n d a hd z hk;exact⟨h1,ws,h2.to (cK.refl _) (λu q=>eX hp _ _ q) id,h3.mono g⟩
  ·rw[<-R.hl,we (ao _),Nat.sub_self]at hd;cases hd;exact⟨R.sub.free hp,vs,hn,hb.mono g⟩
def kL.write(R:kL K aa ab F h H)(hc:h[n]?=some c)(hl:live c=true)(ha:F.μ[n]?=some a)(hn:kX K F.F (cw H a o) a true d.k vs)(hb:aE K F d.ps vs) :
  kL K aa ab F (h.set n d) (cw H a o):=by
 obtain⟨hF,_⟩:=R.cell n c a hc ha hl;refine⟨λb u q=>by rw[aI (λz=>by grind)];exact R.sub _ _ q,λb u q=>?_,R.base,R.fresh,λm b q=>?_,by rw[rh];exact R.hl,R.nd,λm e b he jN hk=>?_⟩
 ·rw[aI (λz=>by subst z;rw[(R.new n b ha).1]at q;cases q)];exact R.keep _ _ q
 ·obtain⟨h1,u,h2⟩:=R.new m b q;refine⟨h1,?_⟩;by_cases hb:b=a
  ·subst hb;exact⟨o,aD⟩
  ·exact⟨u,by rw[aI hb];exact h2⟩
 ·by_cases hm:n=m
  ·grind
  ·rw[j4 hm]at he;obtain⟨h1,ws,h2,h3⟩:=R.cell m e b he jN hk;have ne:b≠a:=λz=>by
    subst z;obtain⟨l1,e1⟩:=cf.mp jN;obtain⟨l2,e2⟩:=cf.mp ha;exact hm ((List.getElem_inj R.nd).mp (e2.trans e1.symm))
   exact⟨h1,ws,h2.to (cK.refl _) (λu q=>by rw[aI ne];exact q) id,h3⟩
end
def _root_.L2.PE.imp(h:PE X e t)(hi:∀σ H Q,t' σ H Q->t σ H Q):PE X e t':=λae s σ H Q I hw=>h ae s σ H Q I (hi _ _ _ hw)
def _root_.L2.PT.imp(h:PT X e t)(hi:∀σ H Q,t' σ H Q->t σ H Q):PT X e t':=λae s σ H Q I hw=>h ae s σ H Q I (hi _ _ _ hw)
def _root_.L2.PW.imp(h:PW X e t)(hi:∀σ H Q,t' σ H Q->t σ H Q):PW X e t':=λw ae s σ H Q I hw=>h w ae s σ H Q I (hi _ _ _ hw)
def _root_.L2.PA.imp(h:PA X e t)(hi:∀σ H Q,t' σ H Q->t σ H Q):PA X e t':=λpos ae s σ H Q I hw=>h pos ae s σ H Q I (hi _ _ _ hw)
def _root_.L2.PS.imp{st:Stmt}(h:PS X st t)(hi:∀D σ H,t' D σ H->t D σ H):PS X st t':=λae s σ H D I hw=>h ae s σ H D I (hi _ _ _ hw)
def _root_.L2.PSs.imp{st:List Stmt}(h:PSs X st t)(hi:∀D σ H,t' D σ H->t D σ H):PSs X st t':=λae s σ H D I hw=>h ae s σ H D I (hi _ _ _ hw)
def _root_.L2.PG.imp(h:PG X e t)(hi:∀v σ H Q,t' v σ H Q->t v σ H Q):PG X e t':=λae s σ H v u Q I r hw=>h ae s σ H v u Q I r (hi _ _ _ _ hw)
def _root_.L2.PGs.imp(h:PGs X e t)(hi:∀v σ H Q,t' v σ H Q->t v σ H Q):PGs X e t':=λae s σ H v u Q I r hw=>h ae s σ H v u Q I r (hi _ _ _ _ hw)
def _root_.L2.PI.imp(h:PI X tg e t)(hi:∀σ H Q,t' σ H Q->t σ H Q):PI X tg e t':=λae s σ H R I hw=>h ae s σ H R I (hi _ _ _ hw)
inductive Rs (α:Type) where
 | ok (a:α) | ex (m:Bool) (C:Str)
abbrev Gx(α:Type):=cC->Option (Rs α×cC)
noncomputable def Yn{α β:Type}(k:α->Gx β):Rs α×cC->Option (Rs β×cC)
 | (.ok a,st)=>k a st
 | (.ex m C,st)=>some (.ex m C,st)
def bnd{α β:Type}(f:Gx α)(k:α->Gx β):Gx β:=λst=>(f st).bind (Yn k)
noncomputable def aY{α:Type}(a:α):Gx α:=λst=>some (.ok a,st)
noncomputable def hp{α:Type}(g:List az->Option α):Gx α:=λst=>(g st.h).map λa=>(.ok a,st)
noncomputable def kM{α:Type}(o:Option α):Gx α:=λst=>o.map λa=>(.ok a,st)
def Dm(H H':Hp):Prop:=∀b o,H b=some o->∃o',H' b=some o'
def i9(P:Program)(w:World):IZ:=λaA H s E e s'=>∃a cls a0 B H',e=.ref a/\s'.os=s.os/\AllBare s'.gens/\Un (oq aA) [] H H' s.heap s'.heap/\lT P w H' s'.heap/\Dm H H'/\E cls none H' /\
 Heap.FlyingW B aA a cls a0 s'.heap/\(∀b o,H' b=some o->∃ob,B.get? b=some ob)/\∀b ob,s.heap.get? b=some ob->H b=none->b∉oq aA->B.get? b=some ob
def zZ:CZ (i9 P w) X E0:=(by rintro _ _ _ _ _ _ _ ⟨_,_,_,_,_,_,_,_,_,_,_,h,_⟩;exact h.elim)
def Kj(X:Cx)(aa:Hp)(ab F:Fz)(C:Str)(st:cC):Bool->Prop
 | true=>∀F' bH H' ae s h1 a cls vs,Rep X.K aa ab F' st bH H'->Gr F F'->Inv X ae bH H' s->ClsAt X.K C cls->Heap.MadeExcOf s.heap h1 a cls vs->X.xe (.ref a) {s with heap:=h1}
 | false=>∀bH ae H1 s1 e s',Inv X ae bH H1 s1->i9 X.prog X.w X.stack H1 s1 (λcls _ H2=>ClsAt X.K C cls/\∃F',Rep X.K aa ab F' st bH H2/\Gr F F') e s'->X.xe e s'
section
variable {X:Cx} {aa H:Hp} {ab F F1:Fz} {st br:cC} {σ:St} {α β γ δ:Type}
def Kj.mono(h:Kj X aa ab F C st m)(s:Gr F F1):Kj X aa ab F1 C st m:=by
 cases m with
 | true=>exact λF' bH H' ae s1 h1 a cls vs R z=>h F' bH H' ae s1 h1 a cls vs R (s.trans z)
 | false =>
  rintro bH ae H1 s1 e s' I ⟨a,cls,a0,B,H',h1,h2,h3,h4,h5,h6,⟨c,F',R,z⟩,h8⟩
  exact h bH ae H1 s1 e s' I ⟨a,cls,a0,B,H',h1,h2,h3,h4,h5,h6,⟨c,F',R,s.trans z⟩,h8⟩
def Kk(X:Cx)(aa:Hp)(ab F:Fz)(P:α->cC->Prop):Rs α×cC->Prop
 | (.ok a,st)=>P a st
 | (.ex m C,st)=>Kj X aa ab F C st m
def At(X:Cx)(aa:Hp)(ab F:Fz)(st:cC)(f:Gx α)(P:α->cC->Prop):Prop:=∃r,f st=some r/\Kk X aa ab F P r
def Kk.imp(h:Kk X aa ab F P r)(g:Gr F F1)(i:∀a aB,P a aB->P' a aB):Kk X aa ab F1 P' r:=by
 match r,h with
 | (.ok a,st),h=>exact i a st h
 | (.ex m C,st),h=>exact Kj.mono h g
def At.imp(h:At X aa ab F st f P)(g:Gr F F1)(i:∀a aB,P a aB->P' a aB):At X aa ab F1 st f P' :=
 let ⟨r,h1,h2⟩:=h;⟨r,h1,h2.imp g i⟩
def aX(h:o.bind f=some b):∃a,o=some a/\f a=some b:=by
 cases o with
 | none=>cases h
 | some a=>exact⟨a,rfl,h⟩
def bt(h:o.map f=some b):∃a,o=some a/\f a=b:=by
 simp_all
def At.bnd(h:At X aa ab F st (bnd f k) P):At X aa ab F st f (λa br=>At X aa ab F br (k a) P):=by
 obtain⟨r,h1,h2⟩:=h;obtain⟨q,e1,e2⟩:=aX h1;refine⟨q,e1,?_⟩
 match q,e2 with
 | (.ok a,s1),e2=>exact⟨r,e2,h2⟩
 | (.ex m C,s1),e2=>cases e2;exact h2
def At.aY(h:At X aa ab F st (aY a) P):P a st:=by
 obtain⟨r,h1,h2⟩:=h;cases h1;exact h2
def At.hp(h:At X aa ab F st (hp g) P):∃a,g st.h=some a/\P a st:=by
 obtain⟨r,h1,h2⟩:=h;obtain⟨a,e1,e2⟩:=bt h1;subst e2;exact⟨a,e1,h2⟩
def At.kM(h:At X aa ab F st (kM g) P):∃a,g=some a/\P a st:=by
 obtain⟨r,h1,h2⟩:=h;obtain⟨a,e1,e2⟩:=bt h1;subst e2;exact⟨a,e1,h2⟩
def Tx(X:Cx)(aa:Hp)(ab:Fz)(rl:Fz->α->β->Prop)(F:Fz)(st:cC)(f:Gx α)(σ:St)(Q:β->Hp->Prop):Prop :=
 At X aa ab F st f λa aB=>∀b H' F',Rep X.K aa ab F' aB σ H'->Gr F F'->rl F' a b->Q b H'
def tX(X:Cx)(aa:Hp)(ab:Fz)(rl:Fz->α->β->Prop)(f:Gx α):St->Hp->(β->Hp->Prop)->Prop:=λσ H Q=>∃F st,Rep X.K aa ab F st σ H/\Tx X aa ab rl F st f σ Q
def Tx.mono(h:Tx X aa ab rl F st f σ Q)(g:Gr F F1)(i:∀b H',Q b H'->Q' b H'):Tx X aa ab rl F1 st f σ Q' :=
 At.imp h g λa aB q b H' F' R s r=>i _ _ (q b H' F' R (g.trans s) r)
def Tx.bnd(h:Tx X aa ab rl' F st (bnd f k) σ Q)
  (i:∀a b F1 br H1,Rep X.K aa ab F1 br σ H1->Gr F F1->rl F1 a b->Tx X aa ab rl' F1 br (k a) σ Q->Q' b H1):Tx X aa ab rl F st f σ Q' :=
 At.imp (At.bnd h) (Gr.refl F) λa br q b H1 F1 R1 g1 r1=>i a b F1 br H1 R1 g1 r1 (Tx.mono (q) g1 λ_ _ z=>z)
def Tx.aY(h:Tx X aa ab rl F st (aY a) σ Q):∀b H' F',Rep X.K aa ab F' st σ H'->Gr F F'->rl F' a b->Q b H':=At.aY h
def Tx.hp(h:Tx X aa ab rl F st (hp g) σ Q):∃a,g st.h=some a/\∀b H' F',Rep X.K aa ab F' st σ H'->Gr F F'->rl F' a b->Q b H':=At.hp h
def Tx.kM(h:Tx X aa ab rl F st (kM g) σ Q):∃a,g=some a/\∀b H' F',Rep X.K aa ab F' st σ H'->Gr F F'->rl F' a b->Q b H':=At.kM h
end
abbrev rB:Fz->Bool->Bool->Prop:=λ_ a b=>a=b
abbrev tE(X:Cx)(aa:Hp)(ab:Fz)(f:Gx PV):TE:=tX X aa ab (bN X.K) f
abbrev tT(X:Cx)(aa:Hp)(ab:Fz)(f:Gx Bool):TT:=tX X aa ab rB f
abbrev tA(X:Cx)(aa:Hp)(ab:Fz)(f:Gx (List PV)):TA:=tX X aa ab (aE X.K) f
section
variable {X:Cx} {aa:Hp} {ab:Fz} {a b c e:Expr} {es rest:List Expr} {fa fb fc:Gx PV} {ga gb:Gx Bool} {ts:Gx (List PV)} {pos:Pos}
noncomputable def rd(i:Nat):Gx PV:=λst=>(st.ρ[i]?).join.map λp=>(.ok p,st)
def Rg(i:Nat)(h:PE X (.Name x pos) (Nr i)):PE X (.Name x pos) (tE X aa ab (rd i)):=h.imp <| by
 rintro σ H Q ⟨F,st,R,r,h1,h2⟩
 obtain⟨p,e1,e2⟩:=bt h1;subst e2;cases z:st.ρ[i]? with
 | none=>rw[z]at e1;cases e1
 | some o =>
  rw[z]at e1;cases o with
  | none=>cases e1
  | some p' =>
   cases e1;obtain⟨v,h3,h4⟩:=R.l.av i p z;exact⟨v,h3,h2 v H F R (Gr.refl F) h4⟩
def Aa(h:PE X e (tC v))(hb:∀F,bN X.K F p v):PE X e (tE X aa ab (aY p)):=h.imp (by rintro σ H Q ⟨F,st,R,q⟩;exact q.aY v H F R (Gr.refl F) (hb F))
def Yo{j pos}:PE X (.Constant (.int i) j pos) (tE X aa ab (aY (.int i))):=Aa SY λ_=>aG.mpr rfl
def acT{j pos}:PE X (.Constant (.bool i) j pos) (tE X aa ab (aY (.bl i))):=Aa Xv λ_=>cj.mpr rfl
def Yp{j pos}:PE X (.Constant .none j pos) (tE X aa ab (aY .bQ)):=Aa S2 λ_=>dH.mpr rfl
def Yq{j pos}:PE X (.Constant (.str i) j pos) (tE X aa ab (aY (.str i))):=Aa S3 λ_=>cP.mpr rfl
abbrev G2:=List az->PV->PV->Option PV
def rT(K:W.Frag)(g:G2):R2:=λx y H Q=>∃aa ab F st τ pa pb p,g st.h pa pb=some p/\Rep K aa ab F st τ H/\bN K F pa x/\bN K F pb y/\∀v H' F',Rep K aa ab F' st τ H'->Gr F F'->bN K F' p v->Q v H'
abbrev xu(X:Cx)(f:Value->Value->Sem Value)(g:G2):Prop:=OpR X f (rT X.K g)
def op2(g:G2)(fa fb:Gx PV):Gx PV:=bnd fa λx=>bnd fb λy=>hp λh=>g h x y
def qw(h:tE X aa ab (op2 g fa fb) σ H Q):WO (rT X.K g) (tE X aa ab fa) (tE X aa ab fb) σ H Q:=by
 obtain⟨F,st,R,h⟩:=h;refine⟨F,st,R,h.bnd λp v F1 br H1 R1 g1 b1 h1=>⟨F1,br,R1,h1.bnd λq w F2 st2 H2 R2 g2 b2 h2=>?_⟩⟩
 obtain⟨o,e,z⟩:=h2.hp;exact⟨aa,ab,F2,st2,σ,p,q,o,e,R2,b1.mono g2,b2,z⟩
def acU(ho:xu X (binaryOp op) g)(ha:PE X a (tE X aa ab fa))(hb:PE X b (tE X aa ab fb)):PE X (.BinOp a op b pos) (tE X aa ab (op2 g fa fb)):=(XH ho ha hb).imp λ_ _ _ h=>qw h
def Yr(ho:xu X (compareOp op) g)(ha:PE X a (tE X aa ab fa))(hb:PE X b (tE X aa ab fb))(hm:behindInMarks op b=false):PE X (.Compare a [op] [b] pos) (tE X aa ab (op2 g fa fb)):=(NJ ho ha hb hm).imp λ_ _ _ h=>qw h
def vg:PV->Option Bool | .bl b=>some b | _=>none
def sj{b:Bool}(h:vg p=some b):p=.bl b:=by
 cases p<;>first | (cases h;rfl) | cases h
def toB(f:Gx PV):Gx Bool:=bnd f λp=>kM (vg p)
def toB_imp(h:tT X aa ab (toB fa) σ H Q):tE X aa ab fa σ H λv H1=>∃k,v=.bl k/\Q k H1:=by
 obtain⟨F,st,R,h⟩:=h;refine⟨F,st,R,h.bnd λp v F1 br H1 R1 g1 b1 h1=>?_⟩
 obtain⟨k,e,z⟩:=h1.kM;rw[sj e]at b1;exact⟨k,cj.mp b1,z k H1 F1 R1 (Gr.refl _) rfl⟩
def Ys(ho:xu X (compareOp op) g)(ha:PE X a (tE X aa ab fa))(hb:PE X b (tE X aa ab fb))(hm:behindInMarks op b=false):PT X (.Compare a [op] [b] pos) (tT X aa ab (toB (op2 g fa fb))) :=
 (NK ho ha hb hm).imp λ_ _ _ h=>qw (toB_imp h)
def chain(g g':G2)(fa fb fc:Gx PV):Gx PV:=bnd fa λx=>bnd fb λy=>bnd (hp λh=>(g h x y).bind vg) λk=>if k=true then bnd fc λz=>hp λh=>g' h y z else aY (.bl false)
def vh(h:tE X aa ab (chain g g' fa fb fc) σ H Q):CP (rT X.K g) (rT X.K g') (tE X aa ab fa) (tE X aa ab fb) (tE X aa ab fc) σ H Q:=by
 obtain⟨F,st,R,h⟩:=h;refine⟨F,st,R,h.bnd λp v F1 br H1 R1 g1 b1 h1=>⟨F1,br,R1,h1.bnd λq w F2 st2 H2 R2 g2 b2 h2=>?_⟩⟩
 obtain⟨k,e,z⟩:=At.hp (At.bnd h2);obtain⟨o,e1,e2⟩:=aX e;rw[sj e2]at e1;refine⟨aa,ab,F2,st2,σ,p,q,_,e1,R2,b1.mono g2,b2,λu H3 F3 R3 g3 b3=>⟨k,cj.mp b3,?_⟩⟩
 cases k with
 | true =>
  have z:Tx X aa ab (bN X.K) F2 st2 (bnd fc λz=>hp λh=>g' h q z) σ Q:=z
  refine⟨F3,st2,R3,(z.mono g3 λ_ _ y=>y).bnd λt o F4 jW H4 R4 g4 b4 h4=>?_⟩
  obtain⟨o,e,z⟩:=h4.hp;exact⟨aa,ab,F4,jW,σ,q,t,o,e,R4,b2.mono (g3.trans g4),b4,z⟩
 | false=>exact Tx.aY z _ H3 F3 R3 g3 (cj.mpr rfl)
def Oe(ho:xu X (compareOp op) g)(nC:xu X (compareOp yW) g')(ha:PE X a (tE X aa ab fa))(hb:PE X b (tE X aa ab fb))(hc:PE X c (tE X aa ab fc))
  (hm:lastMarks [op,yW] [b,c]=false):PE X (.Compare a [op,yW] [b,c] pos) (tE X aa ab (chain g g' fa fb fc)):=(JQ ho nC ha hb hc hm).imp λ_ _ _ h=>vh h
end
def cX(h:List az):PV->Option (Kd×List PV)
 | .nd k ps=>some (k,ps)
 | .ref n=>(h[n]?).bind λc=>if live c=true then some (c.k,c.ps)else none
 | _=>none
def bX{α:Type}{c:Prop} [Decidable c] {x:Option α} {y:α} (h:(if c then x else none)=some y):c/\x=some y:=by
 grind
def aJ{α:Type}{c:Prop} [Decidable c] {x y:α} (h:(if c then some x else none)=some y):c/\x=y:=by
 grind
section
variable {K:W.Frag} {aa H:Hp} {ab F:Fz} {st:cC} {σ:St}
def Rep.at(R:Rep K aa ab F st σ H){p:PV}{k:Kd}{ps:List PV}{v:V}(e:cX st.h p=some (k,ps))(b:bN K F p v):∃a vs,v=.ref a/\kX K F.F H a false k vs/\aE K F ps vs:=by
 cases p with
 | nd k' BV =>
  cases e;obtain⟨a,vs,h1,h2,h3⟩:=jv.mp b;exact⟨a,vs,h1,h2.to (cK.refl _) (λo q=>R.sub _ _ q) id,h3⟩
 | ref n =>
  obtain⟨c,e1,e2⟩:=aX e;obtain⟨hl,e3⟩:=aJ e2;cases e3;obtain⟨a,h1,h2⟩:=dI.mp b;obtain⟨_,vs,h3,h4⟩:=R.c.cell n c a e1 h1 hl;exact⟨a,vs,h2,h3.to (cK.refl _) (λo q=>q) (λz=>by cases z),h4⟩
 | _=>cases e
def Dk(h:List az)(p:PV):Option (List PV):=match cX h p with
 | some (.ay,ps)=>some ps
 | some (.lst,ps)=>some ps
 | _=>none
def Rep.seq(R:Rep K aa ab F st σ H){p:PV}{ps:List PV}{v:V}(e:Dk st.h p=some ps)(b:bN K F p v):∃a vs,v=.ref a/\(ip K H a vs\/kJ K H a vs)/\aE K F ps vs:=by
 unfold Dk at e;split at e
 ·rename_i z;cases e;obtain⟨a,vs,h1,h2,h3⟩:=R.at z b;exact⟨a,vs,h1,.inl h2.2,h3⟩
 ·rename_i z;cases e;obtain⟨a,vs,h1,h2,h3⟩:=R.at z b;exact⟨a,vs,h1,.inr h2,h3⟩
 ·cases e
def pY(h:List az):PV->Option Bool
 | .bQ=>some false
 | .bl b=>some b
 | .int i=>some (i != 0)
 | p=>match cX h p with
  | some (.ay,ps)=>some !ps.isEmpty
  | some (.lst,ps)=>some !ps.isEmpty
  | some (.gR false _,ps)=>some !ps.isEmpty
  | _=>none
def sk{ps:List PV}{vs:List V}(h:aE K F ps vs):ps.isEmpty=vs.isEmpty:=by
 cases ps with
 | nil=>rw[h.cS];rfl
 | cons p ps=>obtain⟨v,r,rfl,_,_⟩:=h.cx;rfl
def Rep.tru(R:Rep K aa ab F st σ H){p:PV}{k:Bool}{v:V}(e:pY st.h p=some k)(b:bN K F p v):NL K v H k:=by
 have more:(match cX st.h p with
  | some (.ay,ps)=>some !ps.isEmpty
  | some (.lst,ps)=>some !ps.isEmpty
  | some (.gR false _,ps)=>some !ps.isEmpty
  | _=>none)=some k->NL K v H k:=λe=>by
  split at e
  ·rename_i z;cases e;obtain⟨a,vs,rfl,h2,h3⟩:=R.at z b;exact .inr (.inl ⟨vs,h2.2,by rw[sk h3]⟩)
  ·rename_i z;cases e;obtain⟨a,vs,rfl,h2,h3⟩:=R.at z b;exact .inl ⟨vs,kJ.sq h2,by rw[sk h3]⟩
  ·rename_i z;cases e;obtain⟨a,vs,rfl,⟨kvs,h2,_,h4⟩,h3⟩:=R.at z b;refine .inr (.inr ⟨kvs,h2,?_⟩);rw[sk h3,<-h4,List.isEmpty_map]
  ·cases e
 cases p with
 | bQ=>rw[dH.mp b];exact(cH e).symm
 | bl c=>rw[cj.mp b];exact(cH e).symm
 | int i=>rw[aG.mp b];exact(cH e).symm
 | str x=>exact more e
 | ref n=>exact more e
 | fn x=>exact more e
 | nd k ps=>exact more e
end
section
variable {X:Cx} {aa:Hp} {ab:Fz} {a b c e:Expr} {es rest:List Expr} {fa fb fc:Gx PV} {ga gb:Gx Bool} {ts:Gx (List PV)} {pos:Pos}
def gM(f:Gx PV):Gx Bool:=bnd f λp=>hp λh=>pY h p
def Yt(h:PE X e (tE X aa ab fa))(he:∀jK,isTrue e X.env jK=(do let v <-jK;standAt e.pos;holding [v] (truthy v))):PT X e (tT X aa ab (gM fa)) :=
 (JT h he).imp λσ H Q ⟨F,st,R,h⟩=>⟨F,st,R,h.bnd λp v F1 br H1 R1 g1 b1 h1=>by
  obtain⟨k,e,z⟩:=h1.hp;exact⟨k,R1.tru e b1,z k H1 F1 R1 (Gr.refl _) rfl⟩⟩
def Of{op yW:CmpOp}{g g':G2}(ho:xu X (compareOp op) g)(nC:xu X (compareOp yW) g')(ha:PE X a (tE X aa ab fa))(hb:PE X b (tE X aa ab fb))(hc:PE X c (tE X aa ab fc))
  (hm:lastMarks [op,yW] [b,c]=false):PT X (.Compare a [op,yW] [b,c] pos) (tT X aa ab (toB (chain g g' fa fb fc))):=(JR ho nC ha hb hc hm).imp λ_ _ _ h=>vh (toB_imp h)
def fG{α:Type}(gc:Gx Bool)(f g:Gx α):Gx α:=bnd gc λx=>if x=true then f else g
def xw{α β:Type}{rl:Fz->α->β->Prop}{f g:Gx α}{σ:St}{H:Hp}{Q:β->Hp->Prop}(h:tX X aa ab rl (fG ga f g) σ H Q):tT X aa ab ga σ H λc H1=>if c=true then tX X aa ab rl f σ H1 Q else tX X aa ab rl g σ H1 Q:=by
 obtain⟨F,st,R,h⟩:=h;refine⟨F,st,R,h.bnd λx y F1 br H1 R1 g1 b1 h1=>?_⟩
 cases b1;cases x with
 | true=>exact⟨F1,br,R1,h1⟩
 | false=>exact⟨F1,br,R1,h1⟩
def xx{α β:Type}{rl:Fz->α->β->Prop}{a:α}{b:β}{σ:St}{H:Hp}{Q:β->Hp->Prop}(h:tX X aa ab rl (aY a) σ H Q)(hb:∀F,rl F a b):Q b H:=by
 obtain⟨F,st,R,h⟩:=h;exact h.aY b H F R (Gr.refl _) (hb F)
def Ab{P P' Q Q':Prop}{c:Bool}(h:if c=true then P else Q)(h1:P->P')(h2:Q->Q'):if c=true then P' else Q':=by
 grind
def E2{α β:Type}{rl:Fz->α->β->Prop}{f:Gx α}{σ:St}{H:Hp}{Q Q':β->Hp->Prop}(h:tX X aa ab rl f σ H Q)(i:∀b H',Q b H'->Q' b H'):tX X aa ab rl f σ H Q':=let ⟨F,st,R,h⟩:=h;⟨F,st,R,h.mono (Gr.refl _) i⟩
def Yu(ha:PT X a (tT X aa ab ga))(hb:PW X (.BoolOp .And (b::rest) pos) (tT X aa ab gb)):PW X (.BoolOp .And (a::b::rest) pos) (tT X aa ab (fG ga gb (aY false))) :=
 (S5 ha hb).imp λσ H Q h=>E2 (xw h) λ_ _ z=>Ab z id λz=>xx z λ_=>rfl
def acV(ha:PT X a (tT X aa ab ga))(hb:PW X (.BoolOp .Or (b::rest) pos) (tT X aa ab gb)):PW X (.BoolOp .Or (a::b::rest) pos) (tT X aa ab (fG ga (aY true) gb)) :=
 (Xw ha hb).imp λσ H Q h=>E2 (xw h) λ_ _ z=>Ab z (λz=>xx z λ_=>rfl) id
def uD(f:Gx Bool):Gx Bool:=bnd f λx=>aY !x
def Yv(ha:PT X a (tT X aa ab ga)):PT X (.UnaryOp .Not a pos) (tT X aa ab (uD ga)):=(S6 ha).imp λσ H Q ⟨F,st,R,h⟩=>⟨F,st,R,h.bnd λx y F1 br H1 R1 g1 b1 h1=>by
 cases b1;exact h1.aY _ H1 F1 R1 (Gr.refl _) rfl⟩
def Hg(fa fb:Gx PV):Gx PV:=bnd fa λx=>bnd (hp λh=>pY h x) λk=>if k=true then fb else aY x
def orG(fa fb:Gx PV):Gx PV:=bnd fa λx=>bnd (hp λh=>pY h x) λk=>if k=true then aY x else fb
def Kl{f g:PV->Gx PV}{ae:List (Addr×Obj)}{s:Shared}{σ:St}{H:Hp}{Q:VK}(ha:PE X a (tE X aa ab fa))(I:Inv X ae σ H s)
  (h:tE X aa ab (bnd fa λx=>bnd (hp λh=>pY h x) λk=>if k=true then f x else g x) σ H Q) :
  wpAny (model X.prog X.w) X.A (eval a X.env) (λv s1=>wpAny (model X.prog X.w) X.A (truthy v) (λk s2=>∃p xv F1 br H1,Inv X ae σ H1 s2/\RelV xv v/\Rep X.K aa ab F1 br σ H1/\bN X.K F1 p xv/\Tx X aa ab (bN X.K) F1 br (if k=true then f p else g p) σ Q) X.xe s1) X.xe s:=by
 obtain⟨F,st,R,h⟩:=h;refine thn (ha ae s σ H (λv H1=>∃F1 br p,Rep X.K aa ab F1 br σ H1/\bN X.K F1 p v/\Tx X aa ab (bN X.K) F1 br (bnd (hp λh=>pY h p) λk=>if k=true then f p else g p) σ Q) I
  ⟨F,st,R,h.bnd λp v F1 br H1 R1 g1 b1 h1=>⟨F1,br,p,R1,b1,h1⟩⟩) λv s1 ⟨xv,H1,I1,r1,F1,br,p,R1,b1,h1⟩=>?_
 obtain⟨k,e,z⟩:=At.hp (At.bnd h1);exact thn (JS ae s1 σ H1 xv v (λk' H'=>k'=k/\H'=H1) I1 r1 ⟨k,R1.tru e b1,rfl,rfl⟩) <| by
  rintro c s2 ⟨H2,I2,ec,eh⟩
  subst ec eh;exact⟨p,xv,F1,br,H2,I2,r1,R1,b1,z⟩
def acW(ha:PE X a (tE X aa ab fa))(hb:PE X (.BoolOp .Or (b::rest) pos) (tE X aa ab fb)):PE X (.BoolOp .Or (a::b::rest) pos) (tE X aa ab (orG fa fb)):=λae s σ H Q I h =>
 BoolOp_or (thn (Kl ha I h) λv s1 z=>thn z <| by
  rintro k s2 ⟨p,xv,F1,br,H1,I1,r1,R1,b1,z⟩
  cases k with
  | true=>exact⟨xv,H1,I1,r1,Tx.aY (z) _ H1 F1 R1 (Gr.refl _) b1⟩
  | false=>exact hb ae s2 σ H1 Q I1 ⟨F1,br,R1,z⟩)
def Yw(ha:PE X a (tE X aa ab fa))(hb:PE X (.BoolOp .And (b::rest) pos) (tE X aa ab fb)):PE X (.BoolOp .And (a::b::rest) pos) (tE X aa ab (Hg fa fb)):=λae s σ H Q I h =>
 BoolOp_and (thn (Kl ha I h) λv s1 z=>thn z <| by
  rintro k s2 ⟨p,xv,F1,br,H1,I1,r1,R1,b1,z⟩
  cases k with
  | false=>exact⟨xv,H1,I1,r1,Tx.aY (z) _ H1 F1 R1 (Gr.refl _) b1⟩
  | true=>exact hb ae s2 σ H1 Q I1 ⟨F1,br,R1,z⟩)
def Og(fa:Gx PV):Gx PV:=bnd (toB fa) λx=>aY (.bl !x)
def Yx(ha:PE X a (tE X aa ab fa)):PE X (.UnaryOp .Not a pos) (tE X aa ab (Og fa)):=(S7 ha).imp λσ H Q ⟨F,st,R,h⟩ =>
 toB_imp ⟨F,st,R,h.bnd λx y F1 br H1 R1 g1 b1 h1=>by
  cases b1;exact h1.aY _ H1 F1 R1 (Gr.refl _) (cj.mpr rfl)⟩
def acX(hc:PT X c (tT X aa ab ga))(ha:PE X a (tE X aa ab fa))(hb:PE X b (tE X aa ab fb)):PE X (.IfExp c a b pos) (tE X aa ab (fG ga fa fb)):=(JF hc ha hb).imp λ_ _ _ h=>xw h
def aq(f:Gx PV)(g:Gx (List PV)):Gx (List PV):=bnd f λx=>bnd g λxs=>aY (x::xs)
def Yy:PA X [] (tA X aa ab (aY [])):=rR.imp λσ H Q h=>xx h λ_=>.nil
def Ue(ha:PE X e (tE X aa ab fa))(hr:PA X es (tA X aa ab ts))(hs:starEach (e::es) X.env=(false,eval e X.env)::starEach es X.env:=by rfl):PA X (e::es) (tA X aa ab (aq fa ts)) :=
 (jz ha hr hs).imp (by rintro σ H Q ⟨F,st,R,h⟩;exact⟨F,st,R,h.bnd λp v F1 br H1 R1 g1 b1 h1=>⟨F1,br,R1,h1.bnd λps vs F2 st2 H2 R2 g2 b2 h2=>h2.aY _ H2 F2 R2 (Gr.refl _) (.cons (b1.mono g2) b2)⟩⟩)
noncomputable def f9:Nat:=4000000
def fP{n:Nat}(h:n<=f9):n<=sizeLine:=bE h (by decide)
def small(ps:List PV)(p:PV):Option PV:=if ps.length<=f9 then some p else none
def mq(k:Kd)(ts:Gx (List PV)):Gx PV:=bnd ts λps=>kM (small ps (.nd k ps))
def Yz{x1}(h:PA X es (tA X aa ab ts)):PE X (.Tuple es x1 pos) (tE X aa ab (mq .ay ts)):=(TK h).imp λσ H Q ⟨F,st,R,h⟩=>⟨F,st,R,h.bnd λps vs F1 br H1 R1 g1 b1 h1=>by
 obtain⟨p,e,z⟩:=h1.kM;obtain⟨hl,rfl⟩:=aJ e;refine⟨fP (by rw[<-b1.length];exact hl),λa hn=>?_⟩
 obtain⟨R2,s2⟩:=R1.laid (.ay vs) hn;exact z _ _ _ R2 s2 (cR.mpr ⟨a,vs,rfl,ip.of aD,b1.mono s2⟩)⟩
def YA(h:PA X es (tA X aa ab ts)):PE X (.List es pos) (tE X aa ab (mq .lst ts)):=(JV h).imp λσ H Q ⟨F,st,R,h⟩=>⟨F,st,R,h.bnd λps vs F1 br H1 R1 g1 b1 h1=>by
 obtain⟨p,e,z⟩:=h1.kM;obtain⟨hl,rfl⟩:=aJ e;refine⟨fP (by rw[<-b1.length];exact hl),λa hn=>?_⟩
 obtain⟨R2,s2⟩:=R1.laid (.lst vs) hn;exact z _ _ _ R2 s2 (gz.mpr ⟨a,vs,rfl,kJ.of aD,b1.mono s2⟩)⟩
noncomputable def mJ(c:az):Gx PV:=λst=>some (.ok (.ref st.h.length),⟨st.ρ,st.h++[c]⟩)
def Tx.mJ{c:az}{F:Fz}{st:cC}{σ:St}{H:Hp}{Q:VK}{p:Addr}{o:HO}{vs:List V}(h:Tx X aa ab (bN X.K) F st (mJ c) σ Q)(R:Rep X.K aa ab F st σ H)(hp:H p=none)
  (hn:kX X.K F.F (cw H p o) p true c.k vs) (hb:aE X.K F c.ps vs):Q (.ref p) (cw H p o):=by
 obtain⟨r,h1,h2⟩:=h;cases h1;obtain⟨C,g,hm⟩:=R.c.alloc hp hn hb;exact h2 _ _ _ ⟨C,R.l.mono g⟩ g (dI.mpr ⟨p,hm,rfl⟩)
def xy(ts:Gx (List PV)):Gx PV:=bnd ts λps=>bnd (kM (small ps .bQ)) λ_=>mJ ⟨.lst,ps⟩
def Ug(h:PA X es (tA X aa ab ts)):PE X (.List es pos) (tE X aa ab (xy ts)):=(JV h).imp λσ H Q ⟨F,st,R,h⟩=>⟨F,st,R,h.bnd λps vs F1 br H1 R1 g1 b1 h1=>by
 obtain⟨p,e,z⟩:=At.kM (At.bnd h1);obtain⟨hl,rfl⟩:=aJ e;exact⟨fP (by rw[<-b1.length];exact hl),λa hn=>Tx.mJ z R1 hn aD b1⟩⟩
end
inductive dB where
 | nx | bk | ct | rt (p:PV)
def Ac(X:Cx)(aa:Hp)(ab F:Fz)(D:uu):dB->cC->Prop
 | .nx,st=>∀F' bH H',Rep X.K aa ab F' st bH H'->Gr F F'->D.nx bH H'
 | .bk,st=>∀F' bH H',Rep X.K aa ab F' st bH H'->Gr F F'->D.bk bH H'
 | .ct,st=>∀F' bH H',Rep X.K aa ab F' st bH H'->Gr F F'->D.ct bH H'
 | .rt p,st=>∀v F' H',kL X.K aa ab F' st.h H'->Gr F F'->bN X.K F' p v->D.rt v H'
def Sa(X:Cx)(aa:Hp)(ab F:Fz)(D:uu)(st:cC)(f:Gx dB):Prop:=At X aa ab F st f (Ac X aa ab F D)
def tS(X:Cx)(aa:Hp)(ab:Fz)(f:Gx dB):TS:=λD σ H=>∃F st,Rep X.K aa ab F st σ H/\Sa X aa ab F D st f
section
variable {X:Cx} {aa:Hp} {ab F F1:Fz} {D:uu} {st:cC} {α β:Type}
theorem Ac.mono(g:Gr F F1):∀(o:dB) (st:cC),Ac X aa ab F D o st->Ac X aa ab F1 D o st
 | .nx,_,h=>λF' bH H' R z=>h F' bH H' R (g.trans z)
 | .bk,_,h=>λF' bH H' R z=>h F' bH H' R (g.trans z)
 | .ct,_,h=>λF' bH H' R z=>h F' bH H' R (g.trans z)
 | .rt _,_,h=>λv F' H' R z=>h v F' H' R (g.trans z)
def Sa.mono(h:Sa X aa ab F D st f)(g:Gr F F1):Sa X aa ab F1 D st f:=At.imp h g (Ac.mono g)
def Sa.bnd(h:Sa X aa ab F D st (bnd f k))
  (i:∀a b F1 br H1,Rep X.K aa ab F1 br σ H1->Gr F F1->rl F1 a b->Sa X aa ab F1 D br (k a)->Q b H1):Tx X aa ab rl F st f σ Q :=
 At.imp (At.bnd h) (Gr.refl F) λa br q b H1 F1 R1 g1 r1=>i a b F1 br H1 R1 g1 r1 (Sa.mono q g1)
end
section
variable {X:Cx} {aa:Hp} {ab:Fz} {a b c e tg iter:Expr} {es:List Expr} {fe:Gx PV} {gc:Gx Bool} {pos:Pos} {s:Stmt} {ss body:List Stmt} {f g fb:Gx dB}
def onK(g:Gx dB):dB->Gx dB
 | .nx=>g
 | .bk=>aY .bk
 | .ct=>aY .ct
 | .rt p=>aY (.rt p)
def eE(f g:Gx dB):Gx dB:=bnd f (onK g)
def Uh:PSs X [] (tS X aa ab (aY .nx)):=Nv.imp (by rintro D σ H ⟨F,st,R,h⟩;exact At.aY h F σ H R (Gr.refl F))
def Oh(h1:PS X s (tS X aa ab f))(h2:PSs X ss (tS X aa ab g)):PSs X (s::ss) (tS X aa ab (eE f g)):=(JG h1 h2).imp λD σ H ⟨F,st,R,h⟩ =>
 ⟨F,st,R,At.imp (At.bnd h) (Gr.refl F) λo br q=>match o,q with
  | .nx,q=>λF1 jx H1 R1 g1=>⟨F1,br,R1,Sa.mono q g1⟩
  | .bk,q=>λF' bH H'=>At.aY q F' bH H'
  | .ct,q=>λF' bH H'=>At.aY q F' bH H'
  | .rt p,q=>λv F' H'=>At.aY q v F' H'⟩
def Ui(h1:PS X s (tS X aa ab f)):PSs X [s] (tS X aa ab f):=Nw h1
def Uj:PS X (.Pass pos) (tS X aa ab (aY .nx)):=Nx.imp (by rintro D σ H ⟨F,st,R,h⟩;exact At.aY h F σ H R (Gr.refl F))
def Oi:PS X (.Break pos) (tS X aa ab (aY .bk)):=JH.imp (by rintro D σ H ⟨F,st,R,h⟩;exact At.aY h F σ H R (Gr.refl F))
def Uk:PS X (.Continue pos) (tS X aa ab (aY .ct)):=zD.imp (by rintro D σ H ⟨F,st,R,h⟩;exact At.aY h F σ H R (Gr.refl F))
def retS(fe:Gx PV):Gx dB:=bnd fe λp=>aY (.rt p)
def YB(he:PE X e (tE X aa ab fe)):PS X (.Return (some e) pos) (tS X aa ab (retS fe)):=(S9 he).imp (by rintro D σ H ⟨F,st,R,h⟩;exact⟨F,st,R,h.bnd λp v F1 br H1 R1 g1 b1 h1=>At.aY h1 v F1 H1 R1.c (Gr.refl _) b1⟩)
def Ul:PS X (.Return none pos) (tS X aa ab (aY (.rt .bQ))):=Nz.imp (by rintro D σ H ⟨F,st,R,h⟩;exact At.aY h _ F H R.c (Gr.refl _) (dH.mpr rfl))
def acY(hc:PT X c (tT X aa ab gc))(ha:PSs X p (tS X aa ab f))(hb:PSs X r (tS X aa ab g)):PS X (.If c p r pos) (tS X aa ab (fG gc f g)) :=
 (XB hc ha hb).imp λD σ H ⟨F,st,R,h⟩=>⟨F,st,R,h.bnd λx y F1 br H1 R1 g1 b1 h1=>by
  cases b1;cases x with
  | true=>exact⟨F1,br,R1,h1⟩
  | false=>exact⟨F1,br,R1,h1⟩⟩
def g9(fe:Gx PV):Gx dB:=bnd fe λ_=>aY .nx
def Um(he:PE X e (tE X aa ab fe))(hs:swapsWith e none pos.line X.env=pure false:=by rfl):PS X (.Expr e pos) (tS X aa ab (g9 fe)):=(Ny he hs).imp λD σ H ⟨F,st,R,h⟩ =>
 ⟨F,st,R,h.bnd λp v F1 br H1 R1 g1 b1 h1=>At.aY h1 F1 σ H1 R1 (Gr.refl _)⟩
abbrev Tg:=PV->cC->Option cC
abbrev WV:=List PV->cC->Option cC
def tG(K:W.Frag)(aa:Hp)(ab:Fz)(g:Tg):TG:=λv σ H Q=>∃F st p aB,Rep K aa ab F st σ H/\bN K F p v/\g p st=some aB/\∀bH H' F',Rep K aa ab F' aB bH H'->Gr F F'->Q bH H'
def YC(K:W.Frag)(aa:Hp)(ab:Fz)(g:WV):Ta:=λvs σ H Q=>∃F st ps aB,Rep K aa ab F st σ H/\aE K F ps vs/\g ps st=some aB/\∀bH H' F',Rep K aa ab F' aB bH H'->Gr F F'->Q bH H'
noncomputable def aR(i:Nat):Tg:=λp st=>if i<st.ρ.length then some ⟨st.ρ.set i (some p),st.h⟩else none
def Lc.set{K:W.Frag}(L:Lc K F ρ σ)(hi:i<ρ.length)(hb:bN K F p v):Lc K F (ρ.set i (some p)) (σ.set i (some v)) where
 av:=λj q e=>by
  by_cases h:i=j
  ·subst h;rw[nJ hi]at e;cases e;exact⟨v,nJ (by rw[<-L.len];exact hi),hb⟩
  ·rw[j4 h]at e;rw[j4 h];exact L.av j q e
 len:=by rw[rh,rh];exact L.len
def Uo(i:Nat)(h:PG X (.Name x pos) (gName i)):PG X (.Name x pos) (tG X.K aa ab (aR i)):=h.imp <| by
 rintro v σ H Q ⟨F,st,p,aB,R,hb,hf,q⟩
 obtain⟨hi,rfl⟩:=aJ hf;exact q _ _ _ ⟨R.c,R.l.set hi hb⟩ (Gr.refl F)
def pZ:WV:=λps st=>match ps with | []=>some st | _=>none
def dt(g:Tg)(r:WV):WV:=λps st=>match ps with | p::ps=>(g p st).bind λaB=>r ps aB | []=>none
def Uq:PGs X [] (YC X.K aa ab pZ):=NB.imp <| by
 rintro vs σ H Q ⟨F,st,ps,aB,R,hb,hf,q⟩
 cases ps with
 | nil=>cases hf;exact⟨hb.cS,q _ _ _ R (Gr.refl F)⟩
 | cons _ _=>cases hf
def Oj(h1:PG X e (tG X.K aa ab t))(h2:PGs X es (YC X.K aa ab u))(hs:(assignEach (e::es) X.env).map (·.2)=assign e X.env::(assignEach es X.env).map (·.2):=by rfl) :
  PGs X (e::es) (YC X.K aa ab (dt t u)):=(JK h1 h2 hs).imp <| by
 rintro vs σ H Q ⟨F,st,ps,aB,R,hb,hf,q⟩
 cases ps with
 | nil=>cases hf
 | cons p ps =>
  obtain⟨v,r,rfl,b1,b2⟩:=hb.cx;obtain⟨br,e1,e2⟩:=aX hf;exact⟨v,r,rfl,F,st,p,br,R,b1,e1,λjx H1 F1 R1 s1=>⟨F1,br,ps,aB,R1,b2.mono s1,e2,λzF H2 F2 R2 s2=>q zF H2 F2 R2 (s1.trans s2)⟩⟩
noncomputable def jB(n:Nat)(t:WV):Tg:=λp st=>match p with | .nd .ay ps=>if ps.length=n then t ps st else none | _=>none
def YD(hc:X.calm=true)(h:PGs X es (YC X.K aa ab t))(hn:(assignEach es X.env).length=n:=by rfl)(ui:(assignEach es X.env).findIdx? (·.1)=none:=by rfl) :
  PG X (.Tuple es k pos) (tG X.K aa ab (jB n t)):=(Tb hc h hn ui).imp <| by
 rintro v σ H Q ⟨F,st,p,aB,R,hb,hf,q⟩
 unfold jB at hf;split at hf
 ·rename_i ps;obtain⟨hl,hf⟩:=bX hf;obtain⟨a,vs,rfl,hs,E3⟩:=cR.mp hb;exact⟨a,vs,rfl,bL R.sub hs,by rw[<-E3.length];exact hl,F,st,ps,aB,R,E3,hf,q⟩
 ·cases hf
noncomputable def stp(g:cC->Option cC):Gx dB:=λst=>(g st).map λaB=>(.ok .nx,aB)
def Sa.stp{st:cC}{g:cC->Option cC}(h:Sa X aa ab F D st (stp g)):∃aB,g st=some aB/\∀F' bH H',Rep X.K aa ab F' aB bH H'->Gr F F'->D.nx bH H':=by
 obtain⟨r,h1,h2⟩:=h;obtain⟨aB,e1,e2⟩:=bt h1;subst e2;exact⟨aB,e1,h2⟩
def dc(fe:Gx PV)(g:Tg):Gx dB:=bnd fe λp=>stp (g p)
def Ol{g:Tg}(h:tS X aa ab (dc fe g) D σ H):NC (tE X aa ab fe) (tG X.K aa ab g) D σ H:=by
 obtain⟨F,st,R,h⟩:=h;refine⟨F,st,R,h.bnd λp v F1 br H1 R1 g1 b1 h1=>?_⟩
 obtain⟨aB,e,z⟩:=h1.stp;exact⟨F1,br,p,aB,R1,b1,e,λzF H2 F2 R2 s2=>z F2 zF H2 R2 s2⟩
def YE{g:Tg}(he:PE X e (tE X aa ab fe))(hg:PG X tg (tG X.K aa ab g))(hs:swapsWithSole [tg] e pos.line X.env=pure false:=by rfl)(hw:swappedStores [tg] e X.env=pure none:=by rfl)
  (h1:(assignEach [tg] X.env).map (·.2)=[assign tg X.env]:=by rfl):PS X (.Assign [tg] e pos) (tS X aa ab (dc fe g)):=(JL he hg hs hw h1).imp λ_ _ _ h=>Ol h
def Walk(K:W.Frag)(F:Fz)(ps:List PV)(J:It):Prop:=∀(aa:Hp) (ab F':Fz) (st:cC) (σ:St) (H:Hp),Rep K aa ab F' st σ H->Gr F F'->∀i:Nat,
 (∀p,ps[i]?=some p->J.go i H/\∀x H',J.yld i H x H'->∃Ur,Rep K aa ab Ur st σ H'/\Gr F' Ur/\bN K Ur p x)/\(ps[i]?=none->J.stop i H)
abbrev tI(X:Cx)(aa:Hp)(ab:Fz)(f:Gx (List PV)):TI:=tX X aa ab (Walk X.K) f
def vi(r:Gx dB):dB->Gx dB
 | .nx=>r
 | .ct=>r
 | .bk=>aY .nx
 | .rt p=>aY (.rt p)
def du(g:Tg)(body:Gx dB):List PV->Gx dB
 | []=>aY .nx
 | p::ps=>bnd (stp (g p)) λ_=>bnd body (vi (du g body ps))
def Sa.lU{st:cC}(N:St->Hp->Prop)(hN:∀F1 br jx H1,Rep X.K aa ab F1 br jx H1->Gr F F1->Sa X aa ab F1 D br r->N jx H1)(h:Sa X aa ab F D st (U.bnd fb (vi r))):Sa X aa ab F {D with nx:=N,ct:=N,bk:=D.nx} st fb :=
 At.imp (At.bnd h) (Gr.refl F) λo br q=>match o,q with
  | .nx,q=>λF1 jx H1 R1 g1=>hN F1 br jx H1 R1 g1 (Sa.mono q g1)
  | .ct,q=>λF1 jx H1 R1 g1=>hN F1 br jx H1 R1 g1 (Sa.mono q g1)
  | .bk,q=>λF' bH H'=>At.aY q F' bH H'
  | .rt p,q=>λv F' H'=>At.aY q v F' H'
def jC(gc:Gx Bool)(body:Gx dB):Nat->Gx dB
 | 0=>λ_=>none
 | n+1=>bnd gc λc=>if c=true then bnd body (vi (jC gc body n))else aY .nx
def Om(n:Nat)(hp:PassesOwn (model X.prog X.w) X.A X.env X.xe)(hc:PT X c (tT X aa ab gc))(hb:PSs X body (tS X aa ab fb)):PS X (.While c body [] pos) (tS X aa ab (jC gc fb n)) :=
 (JM hp hc hb).imp <| by
 rintro D σ H ⟨F,st,R,h⟩
 refine⟨λm bH H'=>∃F' aB,Rep X.K aa ab F' aB bH H'/\Sa X aa ab F' D aB (jC gc fb m),⟨n,F,st,R,h⟩,λm bH H' ⟨F',aB,R',h'⟩=>?_⟩
 cases m with
 | zero=>obtain⟨r,e,_⟩:=h';cases e
 | succ m =>
  refine⟨F',aB,R',Sa.bnd h' λx y F1 br H1 R1 g1 b1 h1=>?_⟩
  cases b1;cases x with
  | false=>exact At.aY h1 F1 bH H1 R1 (Gr.refl _)
  | true=>exact⟨λzF H2=>∃F2 st2,Rep X.K aa ab F2 st2 zF H2/\Sa X aa ab F2 D st2 (jC gc fb m),λzF H2 n2=>⟨m,q9 m,n2⟩,F1,br,R1,Sa.lU _ (λF4 jW Oo H4 R4 g4 z=>⟨F4,jW,R4,z⟩) h1⟩
end
def _root_.L2.Inv.E4(I:Inv X ae σ H s)(h:kJ X.K H a xs):∃(aH:List Value) (n:Nat),Vals xs aH/\s.heap.get? a=some {cls:=.type "list",data:=.seq aH.toArray n}/\xs.length<=sizeLine:=by
 rcases h with h | ⟨aH,n,e,z,r⟩
 ·obtain⟨z,aH,n,r,e⟩:=h.ok I.hok;exact⟨aH,n,r,e,z⟩
 ·exact⟨aH,n,r,I.rM a _ e,by rw[r.length];exact z⟩
def sizeOk(n:Nat)(p:PV):Option PV:=if n<=f9 then some p else none
def km(h:sizeOk n p=some q):n<=sizeLine/\p=q:=by
 obtain⟨h1,h2⟩:=aJ h;exact⟨fP h1,h2⟩
def Ad(h:List az)(p:PV):Option (List PV):=match cX h p with | some (.lst,ps)=>some ps | _=>none
def gT(e:Ad h p=some ps):cX h p=some (.lst,ps):=by
 unfold Ad at e;split at e
 ·grind
 ·cases e
def eU:G2:=λh p q=>match p,q with
 | .int i,.int j=>some (.int (i+j))
 | .str x,.str y=>sizeOk (x.length+y.length) (.str (x++y))
 | .nd .ay xs,.nd .ay ys=>sizeOk (xs.length+ys.length) (.ay (xs++ys))
 | p,q=>(Ad h p).bind λxs=>(Ad h q).bind λys=>sizeOk (xs.length+ys.length) (.lst (xs++ys))
noncomputable def su(c:Int->Int->Bool)(f:Int->Int->PV):G2:=λ_ p q=>match p,q with
 | .int i,.int j=>if c i j=true then some (f i j)else none
 | _,_=>none
def E5:Int:=18446744073709551616
def YF:G2:=su (λ_ _=>true) λi j=>.int (i-j)
def uE:G2:=su (λi j=>decide ((-E5<i/\i<E5)\/(-E5<j/\j<E5))) λi j=>.int (i*j)
def jc:G2:=su (λ_ j=>decide (0<j/\j<1073741824)) λi j=>.int (i/j)
def gD:G2:=su (λ_ j=>decide (0<j)) λi j=>.int (i%j)
def Oq:G2:=su (λi j=>decide (0<=j/\j<=1000/\i.natAbs<1000)) λi j=>.int (i^j.toNat)
def Km:G2:=su (λ_ _=>true) λi j=>.bl (decide (i<j))
def leO:G2:=su (λ_ _=>true) λi j=>.bl (decide (i<=j))
def geO:G2:=su (λ_ _=>true) λi j=>.bl (decide (j<=i))
section
variable {X:Cx}
def Ko{ws:List Value}(ht:IsTup s.heap t ([]:List Value).toArray)(hb:IsTup s.heap b ws.toArray)(h1:Q (.ref b) s):wpAny (model prog w) A (binaryOp .Add (.ref t) (.ref b)) Q E s:=by
 obtain⟨⟨cls,dd,data,sl⟩,ho,hc,n,hd⟩:=id ht;obtain⟨⟨acu,dd2,XS,sl2⟩,ho2,JZ,n2,XT⟩:=id hb;simp only at hc hd JZ XT;subst hc hd JZ XT;exact concat_meets ⟨_,ho,rfl⟩ ⟨_,ho2,rfl⟩ Cv seq_tuple_add B8 B4 (B3 _ _) (tuple_addW0 t b _ ws.toArray n n2 dd dd2 sl sl2 (by simp)) ⟨ho,ho2,h1⟩
def Ot:xu X (binaryOp .Add) eU:=by
 rintro ae s σ H x y v u Q I rx ry ⟨aa,ab,F,st,τ,pa,pb,p,e,R,ba,bb,k⟩
 unfold eU at e;split at e
 ·cases e;rw[aG.mp ba]at rx;rw[aG.mp bb]at ry;exact To ae s σ H _ _ v u Q I rx ry ⟨_,_,rfl,rfl,k _ H F R (Gr.refl F) (aG.mpr rfl)⟩
 ·obtain⟨hz,rfl⟩:=km e;rw[cP.mp ba]at rx;rw[cP.mp bb]at ry;exact CS ae s σ H _ _ v u Q I rx ry ⟨_,_,rfl,rfl,hz,k _ H F R (Gr.refl F) (cP.mpr rfl)⟩
 ·rename_i xs ys;obtain⟨hz,rfl⟩:=km e;obtain⟨a,vs,rfl,ha,jD⟩:=cR.mp ba;obtain⟨b,ws,rfl,hb,Us⟩:=cR.mp bb;have YG:=bL R.sub ha;have jN:=bL R.sub hb;cases xs with
  | nil =>
   rw[jD.cS]at YG;cases rx;cases ry;obtain⟨aH,r1,p1,_⟩:=I.tuple YG;obtain⟨gZ,r2,p2,_⟩:=I.tuple jN;cases r1;exact Ko p1 p2 ⟨.ref b,H,I,rfl,k _ H F R (Gr.refl F) (cR.mpr ⟨b,ws,rfl,hb,Us⟩)⟩
  | cons x0 xr =>
   refine N1 ae s σ H _ _ v u Q I rx ry ⟨a,b,vs,ws,rfl,rfl,YG,jN,?_,by rw[<-jD.length,<-Us.length];exact hz,λz=>?_,λz q hq=>?_⟩
   ·intro z;have:=jD.length;rw[z]at this;cases this
   ·subst z;have hy:=lJ Us.length;subst hy;rw[fq]at k;exact k _ H F R (Gr.refl F) (cR.mpr ⟨a,vs,rfl,ha,jD⟩)
   ·obtain⟨R2,s2⟩:=R.laid (.ay (vs++ws)) hq;exact k _ _ _ R2 s2 (cR.mpr ⟨q,_,rfl,ip.of aD,(jD.append Us).mono s2⟩)
 ·obtain⟨xs,e1,e⟩:=aX e;obtain⟨ys,e2,e⟩:=aX e;obtain⟨hz,rfl⟩:=km e;obtain⟨a,vs,rfl,ha,jD⟩:=R.at (gT e1) ba;obtain⟨b,ws,rfl,hb,Us⟩:=R.at (gT e2) bb;cases rx;cases ry;obtain⟨aH,n,r,e1,z1⟩:=I.E4 ha;obtain⟨gZ,n2,r2,e2,z2⟩:=I.E4 hb;have hl:=r.length;have Ut:=r2.length;have QV:vs.length+ws.length<=sizeLine:=by rw[<-jD.length,<-Us.length];exact hz
  refine PySem.P.add_list e1 e2 ?_ (by grind)
  have ea:aH.toArray++gZ.toArray=(aH++gZ).toArray:=by simp
  rw[ea];obtain⟨R2,s2⟩:=R.laid (.lst (vs++ws)) I.fresh;exact⟨.ref _,_,I.acC (r.append r2) (by grind),rfl,k _ _ _ R2 s2 (gz.mpr ⟨_,_,rfl,kJ.of aD,(jD.append Us).mono s2⟩)⟩
def gO(ho:OpR X f (rI C h))(hc:∀i j,c i j=true->C i j)(hg:∀i j F,bN X.K F (g i j) (h i j)):xu X f (su c g):=by
 rintro ae s σ H x y v u Q I rx ry ⟨aa,ab,F,st,τ,pa,pb,p,e,R,ba,bb,k⟩
 unfold su at e;split at e
 ·obtain⟨h1,rfl⟩:=aJ e;rw[aG.mp ba]at rx;rw[aG.mp bb]at ry;exact ho ae s σ H _ _ v u Q I rx ry ⟨_,_,rfl,rfl,hc _ _ h1,k _ H F R (Gr.refl F) (hg _ _ F)⟩
 ·cases e
def Ae(ho:OpR X f (NF h)):OpR X f (rI (λ_ _=>True) h):=(by rintro ae s σ H x y v u Q I rx ry ⟨i,j,h1,h2,_,q⟩;exact ho ae s σ H x y v u Q I rx ry ⟨i,j,h1,h2,q⟩)
end
def Uu:Operator->Option G2
 | .Add=>some eU
 | .Sub=>some YF
 | .Mult=>some uE
 | .FloorDiv=>some jc
 | .Mod=>some gD
 | .Pow=>some Oq
 | _=>none
def Ou(h:Uu op=some g):xu X (binaryOp op) g:=by
 unfold Uu at h;split at h<;>cases h
 ·exact Ot
 ·exact gO (Ae Tp) (by grind) λ_ _ _=>aG.mpr rfl
 ·exact gO Tq (λi j e=>show(-E5<i/\i<E5)\/(-E5<j/\j<E5)from eJ e) λ_ _ _=>aG.mpr rfl
 ·exact gO NH (λ_ j e=>show 0<j/\j<1073741824 from eJ e) λ_ _ _=>aG.mpr rfl
 ·exact gO Ts (λ_ _ e=>eJ e) λ_ _ _=>aG.mpr rfl
 ·exact gO Tt (λ_ _ e=>let ⟨h1,h2,h3⟩:=eJ e;⟨h1,by lia,oh h3 (by decide)⟩) λ_ _ _=>aG.mpr rfl
inductive Tr where
 | bQ | bl (b:Bool) | int (i:Int) | str (x:Str) | ay (xs:List Tr) | lst (xs:List Tr)
mutual
def eqT:Tr->Tr->Bool
 | .bQ,.bQ=>true
 | .bl a,.bl b=>a==b
 | .bl a,.int b=>(if a then 1 else 0)==b
 | .int a,.bl b=>a==(if b then 1 else 0)
 | .int a,.int b=>a==b
 | .str a,.str b=>a==b
 | .ay xs,.ay ys=>mK xs ys
 | .lst xs,.lst ys=>mK xs ys
 | _,_=>false
def mK:List Tr->List Tr->Bool
 | [],[]=>true
 | x::xs,y::ys=>eqT x y&&mK xs ys
 | _,_=>false
end
mutual
def dep:Tr->Nat
 | .ay xs=>kZ xs+1
 | .lst xs=>kZ xs+1
 | _=>0
def kZ:List Tr->Nat
 | []=>0
 | x::xs=>max (dep x) (kZ xs)
end
mutual
theorem kn:∀p:Tr,eqT p p=true
 | .bQ=>rfl
 | .bl b=>nU b
 | .int b=>nU b
 | .str b=>nU b
 | .ay xs=>oy xs
 | .lst xs=>oy xs
theorem oy:∀ps:List Tr,mK ps ps=true
 | []=>rfl
 | x::xs=>fK.mpr ⟨kn x,oy xs⟩
end
theorem mL:∀{xs ys:List Tr},xs.length≠ys.length->mK xs ys=false
 | [],[],h=>absurd rfl h
 | [],_::_,_=>rfl
 | _::_,[],_=>rfl
 | x::xs,y::ys,h=>by show(eqT x y&&mK xs ys)=false;rw[mL (by simpa using h),Bool.and_false]
noncomputable def sv(xs ys:List Tr)(j:Nat):Bool:=match xs[j]?,ys[j]? with
 | some x,some y=>eqT x y
 | _,_=>true
theorem mM:∀{xs ys:List Tr},xs.length=ys.length->(List.range xs.length).all (sv xs ys)=mK xs ys
 | [],[],_=>rfl
 | [],_::_,h=>by cases h
 | _::_,[],h=>by cases h
 | x::xs,y::ys,h=>by
  have ih:=mM (by simpa using h)
  rw[aW,List.range_succ_eq_map,gY,List.all_map];have e0:sv (x::xs) (y::ys) 0=eqT x y:=rfl;have e1:(sv (x::xs) (y::ys) ∘ Nat.succ)=sv xs ys:=by
   funext j
   simp[sv,Function.comp]
  rw[e0,e1,ih];rfl
def E6(h1:xs.length=m)(h2:ys.length=n):((List.range (min m n)).all (sv xs ys)&&(m==n))=mK xs ys:=by
 subst h1 h2;by_cases h:xs.length=ys.length
 ·rw[<-h,Nat.min_self,mM h];simp
 ·rw[mL h];simp[h]
mutual
def dJ(s:Shared):Tr->Value->Prop
 | .bQ,u=>u=.none
 | .bl b,u=>u=.bool b
 | .int i,u=>∃t,u=.int i t
 | .str x,u=>∃t,u=.str x t
 | .ay ts,u=>∃a aH,u=.ref a/\s.heap.IsTuple a aH.toArray/\cy s ts aH
 | .lst ts,u=>∃a aH,u=.ref a/\s.heap.IsList a aH.toArray/\cy s ts aH
def cy(s:Shared):List Tr->List Value->Prop
 | [],us=>us=[]
 | t::ts,us=>∃u r,us=u::r/\dJ s t u/\cy s ts r
end
section
variable {A:Around} {s:Shared}
theorem cy.len:∀{ts:List Tr} {us:List Value},cy s ts us->ts.length=us.length
 | [],_,h=>by simp only[cy]at h;rw[h];rfl
 | _::_,_,h=>by
  simp only[cy]at h;obtain⟨u,r,rfl,_,h⟩:=h;simp[cy.len h]
def kK(h1:s.heap.IsTuple a x)(h2:s.heap.IsTuple a y):x=y:=by
 obtain⟨o,e,_,n,d⟩:=h1;obtain⟨o',e',_,n',d'⟩:=h2;rw[e]at e';cases e';rw[d]at d';cases d';rfl
def my(h1:s.heap.IsList a x)(h2:s.heap.IsList a y):x=y:=by
 obtain⟨o,e,_,n,d⟩:=h1;obtain⟨o',e',_,n',d'⟩:=h2;rw[e]at e';cases e';rw[d]at d';cases d';rfl
def sx(h1:s.heap.IsTuple a x)(h2:s.heap.IsList a y):False:=by
 obtain⟨o,e,c,n,d⟩:=h1;obtain⟨o',e',c',n',d'⟩:=h2;rw[e]at e';cases e';rw[c]at c';simp at c'
mutual
theorem dJ.inj:∀{p q:Tr} {u:Value},dJ s p u->dJ s q u->p=q
 | .bQ,q,u,h,h'=>by cases q<;>simp_all [dJ]
 | .bl b,q,u,h,h'=>by cases q<;>simp_all [dJ]
 | .int b,q,u,h,h'=>by
  simp only[dJ]at h;obtain⟨t,rfl⟩:=h;cases q<;>simp_all [dJ]
 | .str b,q,u,h,h'=>by
  simp only[dJ]at h;obtain⟨t,rfl⟩:=h;cases q<;>simp_all [dJ]
 | .ay xs,q,u,h,h'=>by
  simp only[dJ]at h;obtain⟨a,aH,rfl,h1,h2⟩:=h;cases q with
  | ay ys =>
   simp only[dJ]at h';obtain⟨b,YH,e,g1,g2⟩:=h';cases e;have:=kK h1 g1;have e:aH=YH:=by simpa using this
   subst e;rw[cy.inj h2 g2]
  | lst ys =>
   simp only[dJ]at h';obtain⟨b,YH,e,g1,g2⟩:=h';cases e;exact(sx h1 g1).elim
  | _=>simp[dJ]at h'
 | .lst xs,q,u,h,h'=>by
  simp only[dJ]at h;obtain⟨a,aH,rfl,h1,h2⟩:=h;cases q with
  | lst ys =>
   simp only[dJ]at h';obtain⟨b,YH,e,g1,g2⟩:=h';cases e;have:=my h1 g1;have e:aH=YH:=by simpa using this
   subst e;rw[cy.inj h2 g2]
  | ay ys =>
   simp only[dJ]at h';obtain⟨b,YH,e,g1,g2⟩:=h';cases e;exact(sx g1 h1).elim
  | _=>simp[dJ]at h'
theorem cy.inj:∀{ps qs:List Tr} {us:List Value},cy s ps us->cy s qs us->ps=qs
 | [],qs,us,h,h'=>by
  simp only[cy]at h;subst h;cases qs with
  | nil=>rfl
  | cons _ _=>simp[cy]at h'
 | p::ps,qs,us,h,h'=>by
  simp only[cy]at h;obtain⟨u,r,rfl,h1,h2⟩:=h;cases qs with
  | nil=>simp[cy]at h'
  | cons q qs =>
   simp only[cy]at h';obtain⟨u',r',e,g1,g2⟩:=h';cases e;rw[dJ.inj h1 g1,cy.inj h2 g2]
end
def sy(h:b=c)(r:SeqAt.RcAt A s u w b):SeqAt.RcAt A s u w c:=h▸r
def lY(h:b = !c)(r:SeqAt.RcNeAt A s u w b):SeqAt.RcNeAt A s u w (!c):=h▸r
def E7(hf:∀x t,u≠.float x t)(h:SeqAt.RcAt A s u w b)(hb:u=w->b=true):SeqAt.EqAt A s u w b:=λprog v E Q hq=>by
 unfold eqBool;refine eP ?_;refine Cy (λz=>?_) (λ_=>?_)
 ·rw[hb (bj z)]at hq;exact af (gi (aj hq))
 ·cases u with
  | float x t=>exact absurd rfl (hf x t)
  | _=>exact af (h prog v E _ (lN hq))
def dJ.Rh(h:dJ s p u):∀y t,u≠.float y t:=λy t z=>by
 subst z;cases p<;>simp[dJ]at h
mutual
theorem xA:∀(p q:Tr) (A:Around) (u w:Value),dJ s p u->dJ s q w->A.units+dep p<cLine->SeqAt.RcAt A s u w (eqT p q)/\SeqAt.RcNeAt A s u w (!(eqT p q))
 | .bQ,q,A,u,w,ha,hb,hu=>by
  have hJ:A.units<cLine := ‹_›;subst ha;cases q with
  | bQ=>cases hb;exact⟨.none_none,.none_none⟩
  | bl=>cases hb;exact⟨(.none_bool _),(.none_bool _)⟩
  | int=>obtain⟨t,rfl⟩:=hb;exact⟨(.none_int _ _),(.none_int _ _)⟩
  | str=>obtain⟨t,rfl⟩:=hb;exact⟨(.none_str _ _),(.none_str _ _)⟩
  | ay=>obtain⟨a,aH,rfl,pR,_⟩:=hb;exact⟨(.none_tuple pR hJ),(.none_tuple pR hJ)⟩
  | lst=>obtain⟨a,aH,rfl,pR,_⟩:=hb;exact⟨(.none_list pR hJ),(.none_list pR hJ)⟩
 | .bl k,q,A,u,w,ha,hb,hu=>by
  have hJ:A.units<cLine := ‹_›;subst ha;cases q with
  | bQ=>cases hb;exact⟨(.bool_none _),(.bool_none _)⟩
  | bl=>cases hb;exact⟨(.bool_bool _ _),(.bool_bool _ _)⟩
  | int=>obtain⟨t,rfl⟩:=hb;exact⟨(.bool_int _ _ _),(.bool_int _ _ _)⟩
  | str=>obtain⟨t,rfl⟩:=hb;exact⟨(.bool_str _ _ _),(.bool_str _ _ _)⟩
  | ay=>obtain⟨a,aH,rfl,pR,_⟩:=hb;exact⟨(.bool_tuple _ pR hJ),(.bool_tuple _ pR hJ)⟩
  | lst=>obtain⟨a,aH,rfl,pR,_⟩:=hb;exact⟨(.bool_list _ pR hJ),(.bool_list _ pR hJ)⟩
 | .int k,q,A,u,w,ha,hb,hu=>by
  have hJ:A.units<cLine := ‹_›;obtain⟨tk,rfl⟩:=ha;cases q with
  | bQ=>cases hb;exact⟨(.int_none _ _),(.int_none _ _)⟩
  | bl=>cases hb;exact⟨(.int_bool _ _ _),(.int_bool _ _ _)⟩
  | int=>obtain⟨t,rfl⟩:=hb;exact⟨(.int_int _ _ _ _),(.int_int _ _ _ _)⟩
  | str=>obtain⟨t,rfl⟩:=hb;exact⟨(.int_str _ _ _ _),(.int_str _ _ _ _)⟩
  | ay=>obtain⟨a,aH,rfl,pR,_⟩:=hb;exact⟨(.int_tuple _ _ pR hJ),(.int_tuple _ _ pR hJ)⟩
  | lst=>obtain⟨a,aH,rfl,pR,_⟩:=hb;exact⟨(.int_list _ _ pR hJ),(.int_list _ _ pR hJ)⟩
 | .str k,q,A,u,w,ha,hb,hu=>by
  have hJ:A.units<cLine := ‹_›;obtain⟨tk,rfl⟩:=ha;cases q with
  | bQ=>cases hb;exact⟨(.str_none _ _),(.str_none _ _)⟩
  | bl=>cases hb;exact⟨(.str_bool _ _ _),(.str_bool _ _ _)⟩
  | int=>obtain⟨t,rfl⟩:=hb;exact⟨(.str_int _ _ _ _),(.str_int _ _ _ _)⟩
  | str=>obtain⟨t,rfl⟩:=hb;exact⟨(.str_str _ _ _ _),(.str_str _ _ _ _)⟩
  | ay=>obtain⟨a,aH,rfl,pR,_⟩:=hb;exact⟨(.str_tuple _ _ pR hJ),(.str_tuple _ _ pR hJ)⟩
  | lst=>obtain⟨a,aH,rfl,pR,_⟩:=hb;exact⟨(.str_list _ _ pR hJ),(.str_list _ _ pR hJ)⟩
 | .ay xs,q,A,u,w,ha,hb,hu=>by
  have hJ:A.units<cLine:=by lia
  obtain⟨al,Ov,rfl,pL,tL⟩:=ha;cases q with
  | bQ=>cases hb;exact⟨(.tuple_none pL hJ),(.tuple_none pL hJ)⟩
  | bl=>cases hb;exact⟨(.tuple_bool _ pL hJ),(.tuple_bool _ pL hJ)⟩
  | int=>obtain⟨t,rfl⟩:=hb;exact⟨(.tuple_int _ _ pL hJ),(.tuple_int _ _ pL hJ)⟩
  | str=>obtain⟨t,rfl⟩:=hb;exact⟨(.tuple_str _ _ pL hJ),(.tuple_str _ _ pL hJ)⟩
  | lst=>obtain⟨a,aH,rfl,pR,_⟩:=hb;exact⟨(.tuple_list pL pR hJ),(.tuple_list pL pR hJ)⟩
  | ay ys =>
   obtain⟨a,Ow,rfl,pR,tR⟩:=hb;have e1:xs.length=Ov.toArray.size:=by rw[e9,tL.len]
   have e2:ys.length=Ow.toArray.size:=by rw[e9,tR.len]
   have el:=λj (h1:j<Ov.toArray.size) (h2:j<Ow.toArray.size)=>xB xs ys A.in1 Ov Ow tL tR (by rw[wL];have hu:_+(kZ _+1)<_:=hu;lia) j (by simpa using h1) (by simpa using h2)
   exact⟨sy (E6 e1 e2) (.tuples pL pR hJ el),lY (by rw[E6 e1 e2];rfl) (.tuples pL pR hJ el)⟩
 | .lst xs,q,A,u,w,ha,hb,hu=>by
  have hJ:A.units<cLine:=by lia
  obtain⟨al,Ov,rfl,pL,tL⟩:=ha;cases q with
  | bQ=>cases hb;exact⟨(.list_none pL hJ),(.list_none pL hJ)⟩
  | bl=>cases hb;exact⟨(.list_bool _ pL hJ),(.list_bool _ pL hJ)⟩
  | int=>obtain⟨t,rfl⟩:=hb;exact⟨(.list_int _ _ pL hJ),(.list_int _ _ pL hJ)⟩
  | str=>obtain⟨t,rfl⟩:=hb;exact⟨(.list_str _ _ pL hJ),(.list_str _ _ pL hJ)⟩
  | ay=>obtain⟨a,aH,rfl,pR,_⟩:=hb;exact⟨(.list_tuple pL pR hJ),(.list_tuple pL pR hJ)⟩
  | lst ys =>
   obtain⟨a,Ow,rfl,pR,tR⟩:=hb;have e1:Ov.toArray.size=xs.length:=by rw[e9,tL.len]
   have e2:Ow.toArray.size=ys.length:=by rw[e9,tR.len]
   by_cases hl:xs.length=ys.length
   ·have sz:Ov.toArray.size=Ow.toArray.size:=by rw[e1,e2];exact hl
    have el:=λj (h1:j<Ov.toArray.size) (h2:j<Ow.toArray.size)=>xB xs ys A.in1 Ov Ow tL tR (by rw[wL];have hu:_+(kZ _+1)<_:=hu;lia) j (by simpa using h1) (by simpa using h2)
    exact⟨sy (by rw[e1,mM hl];rfl) (.lists pL pR sz hJ el),lY (by rw[e1,mM hl];rfl) (.lists pL pR sz hJ el)⟩
   ·have sz:(Ov.toArray.size != Ow.toArray.size)=true:=by rw[e1,e2];simpa using hl
    exact⟨sy (mL hl).symm (.lists_lengths pL pR sz hJ),lY (ej not (mL hl)).symm (.lists_lengths pL pR sz hJ)⟩
theorem xB:∀(ps qs:List Tr) A (us zs:List Value),cy s ps us->cy s qs zs->A.units+kZ ps<cLine ->
  ∀j h1 (h2:j<zs.length),SeqAt.EqAt A s us[j] zs[j] (sv ps qs j)
 | [],qs,A,us,zs,b1,b2,hu=>λj h1 h2=>by
  simp only[cy]at b1;subst b1;cases h1
 | p::ps,qs,A,us,zs,b1,b2,hu=>λj h1 h2=>by
  simp only[cy]at b1;obtain⟨u,ur,rfl,c1,d1⟩:=b1;cases qs with
  | nil =>
   simp only[cy]at b2;subst b2;cases h2
  | cons q qs =>
   simp only[cy]at b2;obtain⟨z,zr,rfl,c2,d2⟩:=b2;have hm:A.units+dep p<cLine/\A.units+kZ ps<cLine:=by
    simp only[kZ]at hu
    lia
   cases j with
   | zero =>
    refine E7 c1.Rh (xA p q A _ _ c1 c2 hm.1).1 λe=>?_
    simp only[List.getElem_cons_zero]at e;rw[e]at c1;rw[c1.inj c2];exact kn q
   | succ j=>exact xB ps qs A _ _ d1 d2 hm.2 j (by simpa using h1) (by simpa using h2)
end
def Uv(b1:dJ s p u)(b2:dJ s q w)(hu:A.units+dep p<cLine):SeqAt.EqAt A s u w (eqT p q):=by
 refine E7 b1.Rh (xA p q A _ _ b1 b2 hu).1 λz=>?_
 rw[z]at b1;rw[b1.inj b2];exact kn q
end
noncomputable def di{α β:Type}(f:α->Option β):List α->Option (List β)
 | []=>some []
 | x::xs=>(f x).bind λy=>(di f xs).map λys=>y::ys
def Kp:Kd->List Tr->Option Tr
 | .ay,ts=>some (.ay ts)
 | .lst,ts=>some (.lst ts)
 | _,_=>none
def toT(h:List az):Nat->PV->Option Tr
 | 0,_=>none
 | n+1,p=>match p with
  | .bQ=>some .bQ
  | .bl b=>some (.bl b)
  | .int i=>some (.int i)
  | .str x=>some (.str x)
  | .fn _=>none
  | p=>(cX h p).bind λq=>(di (toT h n) q.2).bind (Kp q.1)
def gj(h:di f (x::xs)=some ys):∃y r,f x=some y/\di f xs=some r/\ys=y::r:=by
 obtain⟨y,h1,h2⟩:=aX h;obtain⟨r,h3,h4⟩:=bt h2;exact⟨y,r,h1,h3,h4.symm⟩
theorem xD(h:List az):∀(n:Nat) (p:PV) (t:Tr),toT h n p=some t->dep t<=n
 | 0,_,_,e=>by cases e
 | n+1,p,t,e=>by
  have go:((cX h p).bind λq=>(di (toT h n) q.2).bind (Kp q.1))=some t->dep t<=n+1:=λe=>by
   obtain⟨q,_,e⟩:=aX e;obtain⟨ts,e1,e2⟩:=aX e;have hd:∀ps ts,di (toT h n) ps=some ts->kZ ts<=n:=by
    intro ps;induction ps with
    | nil=>intro ts z;cases z;simp[kZ]
    | cons p ps ih =>
     intro ts z;obtain⟨y,r,h1,h2,rfl⟩:=gj z;have:=xD h n p y h1;have:=ih r h2;simp only[kZ];lia
   have:=hd _ _ e1;unfold Kp at e2;split at e2<;>cases e2<;>simp only[dep]<;>lia
  unfold toT at e;split at e<;>first | (cases e;simp[dep];done) | (cases e;done) | exact go e
section
variable {X:Cx} {ae:List (Addr×Obj)} {σ τ:St} {s:Shared} {aa H:Hp} {ab F:Fz} {st:cC}
theorem Rep.tree(R:Rep X.K aa ab F st τ H)(I:Inv X ae σ H s):∀(n:Nat) (p:PV) (t:Tr) (v:V) (u:Value),toT st.h n p=some t->bN X.K F p v->RelV v u->dJ s t u
 | 0,_,_,_,_,e,_,_=>by cases e
 | n+1,p,t,v,u,e,b,r=>by
  have go:((cX st.h p).bind λq=>(di (toT st.h n) q.2).bind (Kp q.1))=some t->dJ s t u:=λe=>by
   obtain⟨⟨k,ps⟩,e0,e⟩:=aX e;obtain⟨ts,e1,e2⟩:=aX e;obtain⟨a,vs,rfl,h2,h3⟩:=R.at e0 b;have hd:∀ps ts vs us,di (toT st.h n) ps=some ts->aE X.K F ps vs->Vals vs us->cy s ts us:=by
    intro ps;induction ps with
    | nil=>intro ts vs us z b r;cases z;rw[b.cS]at r;cases r;simp[cy]
    | cons p ps ih =>
     intro ts vs us z b r;obtain⟨y,q,h1,h2,rfl⟩:=gj z;obtain⟨v,w,rfl,b1,b2⟩:=b.cx;cases r with
     | cons ra rr =>
      simp only[cy];exact⟨_,_,rfl,R.tree I n p y v _ h1 b1 ra,ih q w _ h2 b2 rr⟩
   cases r
   match k,e2,h2 with
   | .ay,e2,h2 =>
    cases e2;obtain⟨aH,rr,pl,_⟩:=I.tuple h2.2;simp only[dJ];exact⟨a,aH,rfl,pl,hd _ _ _ _ e1 h3 rr⟩
   | .lst,e2,h2 =>
    cases e2;obtain⟨aH,rr,pl,_⟩:=I.list (kJ.sq h2);simp only[dJ];exact⟨a,aH,rfl,pl.isList,hd _ _ _ _ e1 h3 rr⟩
  unfold toT at e;split at e
  ·cases e;rw[dH.mp b]at r;cases r;simp[dJ]
  ·cases e;rw[cj.mp b]at r;cases r;simp[dJ]
  ·cases e;rw[aG.mp b]at r;obtain⟨t,rfl⟩:=r;simp[dJ]
  ·cases e;rw[cP.mp b]at r;obtain⟨t,rfl⟩:=r;simp[dJ]
  ·cases e
  ·exact go e
end
def gn:Nat:=1000
def eqB(h:List az)(p q:PV):Option Bool:=(toT h gn p).bind λx=>(toT h gn q).map λy=>eqT x y
def k0:G2:=λh p q=>(eqB h p q).map .bl
def Ri:G2:=λh p q=>(eqB h p q).map λb=>.bl !b
noncomputable def Rj:PV->Bool
 | .bQ=>true
 | _=>false
def YI:G2:=λ_ p q=>match q with | .bQ=>some (.bl (Rj p)) | _=>none
def Ox(h:List az)(p:PV)(ps:List PV):Option Bool:=(toT h gn p).bind λx=>(di (toT h gn) ps).map λys=>ys.any λy=>eqT y x
section
variable {X:Cx}
def Af(e:eqB h p q=some b):∃x y,toT h gn p=some x/\toT h gn q=some y/\b=eqT x y:=by
 obtain⟨x,e1,e⟩:=aX e;obtain⟨y,e2,e3⟩:=bt e;exact⟨x,y,e1,e2,e3.symm⟩
def Uw(hu:X.A.units+1150<cLine):xu X (compareOp .Eq) k0:=by
 rintro ae s σ H x y v u Q I rx ry ⟨aa,ab,F,st,τ,pa,pb,p,e,R,ba,bb,k⟩
 obtain⟨b,e',rfl⟩:=bt e;obtain⟨ta,tb,e1,e2,rfl⟩:=Af e';have hd:=xD _ _ _ _ e1;exact(xA ta tb X.A v u (R.tree I _ _ _ _ _ e1 ba rx) (R.tree I _ _ _ _ _ e2 bb ry) (by unfold gn at hd;lia)).1 X.prog X.w X.xe _ ⟨.bl _,H,I,rfl,k _ H F R (Gr.refl F) (cj.mpr rfl)⟩
def Ux(hu:X.A.units+1150<cLine):xu X (compareOp .NotEq) Ri:=by
 rintro ae s σ H x y v u Q I rx ry ⟨aa,ab,F,st,τ,pa,pb,p,e,R,ba,bb,k⟩
 obtain⟨b,e',rfl⟩:=bt e;obtain⟨ta,tb,e1,e2,rfl⟩:=Af e';have hd:=xD _ _ _ _ e1;exact(xA ta tb X.A v u (R.tree I _ _ _ _ _ e1 ba rx) (R.tree I _ _ _ _ _ e2 bb ry) (by unfold gn at hd;lia)).2 X.prog X.w X.xe _ ⟨.bl _,H,I,rfl,k _ H F R (Gr.refl F) (cj.mpr rfl)⟩
def Oy{K:W.Frag}(b:bN K F p x):decide (x=.bQ)=Rj p:=by
 cases p with
 | bQ=>rw[dH.mp b];rfl
 | bl _=>rw[cj.mp b];rfl
 | int _=>rw[aG.mp b];rfl
 | str _=>rw[cP.mp b];rfl
 | ref _=>obtain⟨_,_,rfl⟩:=dI.mp b;rfl
 | fn _=>obtain⟨_,rfl,_⟩:=si.mp b;rfl
 | nd _ _=>obtain⟨_,_,rfl,_⟩:=jv.mp b;rfl
def Uy:xu X (compareOp .Is) YI:=by
 rintro ae s σ H x y v u Q I rx ry ⟨aa,ab,F,st,τ,pa,pb,p,e,R,ba,bb,k⟩
 unfold YI at e;split at e
 ·cases e;exact Tw ae s σ H x y v u Q I rx ry ⟨dH.mp bb,k _ H F R (Gr.refl F) (cj.mpr (by rw[Oy ba]))⟩
 ·cases e
open Classical in
noncomputable def mN (s:Shared) (p:Tr) (u:Value):Bool:=if h:∃q,dJ s q u then eqT h.choose p else false
def E8(b:dJ s q u):mN s p u=eqT q p:=by
 have h:∃q,dJ s q u:=⟨q,b⟩
 unfold mN;rw[dif_pos h,dJ.inj h.choose_spec b]
theorem xE:∀{ts:List Tr} {us:List Value},cy s ts us->us.any (mN s p)=ts.any λy=>eqT y p
 | [],_,b=>by simp only[cy]at b;subst b;rfl
 | q::ts,_,b=>by
  simp only[cy]at b;obtain⟨u,r,rfl,c1,d1⟩:=b;rw[jr,jr,E8 c1,xE d1]
theorem xF(bp:dJ s p w):∀{ts:List Tr} {us:List Value},cy s ts us->A.units+kZ ts<cLine->∀u∈us,SeqAt.EqAt A s u w (mN s p u)
 | [],_,b,_=>λu hu=>by simp only[cy]at b;subst b;cases hu
 | q::ts,_,b,hz=>λu hu=>by
  simp only[cy]at b;obtain⟨u',r,rfl,c1,d1⟩:=b;simp only[kZ]at hz;rcases aU.mp hu with rfl | hu
  ·rw[E8 c1];exact Uv c1 bp (by lia)
  ·exact xF bp d1 (by lia) u hu
theorem Rep.trees{st:cC}(R:Rep X.K aa ab F st τ H)(I:Inv X ae σ H s)(n:Nat):∀(ps:List PV) (ts:List Tr) (vs:List V) (us:List Value),di (toT st.h n) ps=some ts->aE X.K F ps vs->Vals vs us->cy s ts us/\kZ ts<=n
 | [],ts,vs,us,z,b,r=>by cases z;rw[b.cS]at r;cases r;simp[cy,kZ]
 | p::ps,ts,vs,us,z,b,r=>by
  obtain⟨y,q,h1,h2,rfl⟩:=gj z;obtain⟨v,w,rfl,b1,b2⟩:=b.cx;cases r with
  | cons ra rr =>
   obtain⟨h3,h4⟩:=R.trees I n ps q w _ h2 b2 rr;have:=xD _ _ _ _ h1;simp only[kZ];exact⟨⟨_,_,rfl,R.tree I n p y v _ h1 b1 ra,h3⟩,by lia⟩
def Kq(e:Ox h p ps=some b):∃x ys,toT h gn p=some x/\di (toT h gn) ps=some ys/\b=ys.any λy=>eqT y x:=by
 obtain⟨x,e1,e⟩:=aX e;obtain⟨y,e2,e3⟩:=bt e;exact⟨x,y,e1,e2,e3.symm⟩
def Kr(hu:X.A.units+1150<cLine){st:cC}(I:Inv X ae σ H s)(rx:RelV x v)(ry:RelV y u)(R:Rep X.K aa ab F st τ H)(ba:bN X.K F pa x)(bb:bN X.K F pb y)
  (es:Dk st.h pb=some ps) (eb:Ox st.h pa ps=some b) :
  (Q (.bl b) H->wpAny (model X.prog X.w) X.A (compareOp .In v u) (EP X ae σ Q) X.xe s)/\(Q (.bl !b) H->wpAny (model X.prog X.w) X.A (compareOp .NotIn v u) (EP X ae σ Q) X.xe s):=by
 obtain⟨t,ts,e1,e2,rfl⟩:=Kq eb;obtain⟨a,vs,rfl,hs,hb⟩:=R.seq es bb;have tp:=R.tree I _ _ _ _ _ e1 ba rx;cases ry;rcases hs with hs | hs
 ·obtain⟨aH,r,pl,_⟩:=I.tuple hs;obtain⟨h1,h2⟩:=R.trees I _ _ _ _ _ e2 hb r;have ml:=λw (hw:w∈aH.toArray)=>xF (A:=X.A.in1) tp h1 (by rw[wL];unfold gn at h2;lia) w (by grind)
  have ea:aH.toArray.any (mN s t)=ts.any λy=>eqT y t:=by rw[show aH.toArray.any (mN s t)=aH.any (mN s t) by simp,xE h1]
  exact⟨λq=>SeqAt.in_tupleAt (mN s t) pl ml ⟨.bl _,H,I,rfl,by grind⟩,λq=>SeqAt.notIn_tupleAt (mN s t) pl ml ⟨.bl _,H,I,rfl,by grind⟩⟩
 ·obtain⟨aH,r,pl,_⟩:=I.list hs.sq;obtain⟨h1,h2⟩:=R.trees I _ _ _ _ _ e2 hb r;have ml:=λw (hw:w∈aH.toArray)=>xF (A:=X.A.in1) tp h1 (by rw[wL];unfold gn at h2;lia) w (by grind)
  have ea:aH.toArray.any (mN s t)=ts.any λy=>eqT y t:=by rw[show aH.toArray.any (mN s t)=aH.any (mN s t) by simp,xE h1]
  exact⟨λq=>SeqAt.in_listAt (mN s t) pl.isList ml ⟨.bl _,H,I,rfl,by grind⟩,λq=>SeqAt.notIn_listAt (mN s t) pl.isList ml ⟨.bl _,H,I,rfl,by grind⟩⟩
end
section
variable {K:W.Frag} {F:Fz}
def aE.mn{ps:List PV}{vs:List V}{i:Int}{p:PV}(h:aE K F ps vs)(e:L2.mn ps i=some p):∃v,L2.mn vs i=some v/\bN K F p v:=by
 unfold L2.mn at e ⊢;rw[<-h.length];cases z:N2 ps.length i with
 | none=>rw[z]at e;cases e
 | some j =>
  rw[z]at e;exact h.get e
def k6(xs:List PV)(lo hi:Option Int):List PV:=(xs.drop (HT.eW xs.length 0 lo)).take (HT.eW xs.length xs.length hi-HT.eW xs.length 0 lo)
def aE.cut{ps:List PV}{vs:List V}(h:aE K F ps vs)(lo hi:Option Int):aE K F (k6 ps lo hi) (zJ vs lo hi):=by
 unfold k6 zJ;rw[h.length];exact(h.drop _).take _
def dZ{p:PV}{vs:List V}(b:aE K F [p] vs):∃v,vs=[v]/\bN K F p v:=by
 obtain⟨v,r,rfl,c,d⟩:=b.cx;rw[d.cS];exact⟨v,rfl,c⟩
def mO{p q:PV}{vs:List V}(b:aE K F [p,q] vs):∃v w,vs=[v,w]/\bN K F p v/\bN K F q w:=by
 obtain⟨v,r,rfl,c,d⟩:=b.cx;obtain⟨w,rfl,e⟩:=dZ d;exact⟨v,w,rfl,c,e⟩
end
def mP{prog:Program}{w:World}{A:Around}{E:Value->Shared->Prop}{s:Shared}{t sl:Addr}{aH:Array Value}{vl vu:Value}{lo hi:Option Int}{Q:Value->Shared->Prop}(ht:IsTup s.heap t aH)(hs:s.heap.IsSliceOf sl vl vu .none)(pl:IsPart vl lo)(pu:IsPart vu hi)
  (h0:HT.eW aH.size 0 lo=0) (h1:HT.eW aH.size aH.size hi=aH.size) (h:Q (.ref t) s):wpAny (model prog w) A (getItem (.ref t) (.ref sl)) Q E s:=by
 obtain⟨os,M6,NX,XU⟩:=id hs;have hT:s.TypeIs (.ref sl) "slice":=⟨os,M6,NX⟩;unfold getItem
 try with_reducible refine eP ?_
 first | refine af (aj ?_) | skip
 refine af (wpAny_sequenceKey ht.typeIs (by decide) ?_)
 refine af (jZ ht.typeIs nI (gX nI ht.typeIs entry_tuple_getitem ?_ (args_tuple_getitem _ _)));show wpAny _ _ (Builtin.Tuple.tupleItemsOf (.ref t) >>= _) _ _ s;refine af (tupleItemsOf_ ht (af (oi hT ?_)));refine af (HT.iZ hs pl pu ?_);have hc:(((HT.eW aH.size 0 lo:Nat):Int)==0&&(1:Int)==1&&(HT.eW aH.size aH.size hi-HT.eW aH.size 0 lo)==aH.size)=true:=by
  rw[h0,h1];simp
 show wpAny _ _ (if(((HT.eW aH.size 0 lo:Nat):Int)==0&&1==1&&(HT.eW aH.size aH.size hi-HT.eW aH.size 0 lo)==aH.size)=true then _ else _) _ _ s
 rw[if_pos hc];unfold Builtin.Tuple.tupleIsExact;refine af (af (oi ht.typeIs (aj ?_)));exact af (gi (aj ⟨_,rfl,aj h⟩))
def Ks(h:List az)(lo hi:Option Int)(p:PV):Option PV:=match cX h p with
 | some (.lst,ps)=>some (.lst (k6 ps lo hi))
 | some (.ay,ps)=>some (.ay (k6 ps lo hi))
 | _=>none
section
variable {X:Cx} {aa:Hp} {ab:Fz} {a b e:Expr} {es:List Expr} {fa fb:Gx PV} {ts:Gx (List PV)} {pos p1 p2:Pos} {lo hi:Option Expr}
def rSl(K:W.Frag):V->Option Int->Option Int->Hp->VK->Prop:=λx lo hi H Q=>∃aa ab F st τ pa p,Ks st.h lo hi pa=some p/\Rep K aa ab F st τ H/\bN K F pa x/\∀v H' F',Rep K aa ab F' st τ H'->Gr F F'->bN K F' p v->Q v H'
def slT:SlR X (rSl X.K):=by
 rintro ae s σ H x v vl vu lo hi sl Q I rx hs pl pu ⟨aa,ab,F,st,τ,pa,p,e,R,ba,k⟩
 unfold Ks at e;split at e
 ·rename_i z;cases e;obtain⟨a,vs,rfl,ha,jD⟩:=R.at z ba;refine N4 ae s σ H _ v vl vu lo hi sl Q I rx hs pl pu ⟨a,vs,rfl,kJ.sq ha,λq hq=>?_⟩
  obtain⟨R2,s2⟩:=R.laid (.lst (zJ vs lo hi)) hq;exact k _ _ _ R2 s2 (gz.mpr ⟨q,_,rfl,kJ.of aD,(jD.cut lo hi).mono s2⟩)
 ·rename_i ps z;cases e;cases pa with
  | nd kk pp =>
   cases z;obtain⟨a,vs,rfl,ha,jD⟩:=cR.mp ba;by_cases hw:HT.eW vs.length 0 lo=0/\HT.eW vs.length vs.length hi=vs.length
   ·cases rx;obtain⟨aH,r,ht,hz⟩:=I.tuple (bL R.sub ha);have eA:aH.toArray.size=vs.length:=by rw[e9];exact r.length.symm
    refine⟨"tuple",_,nI.lookup,ht.typeIs,?_⟩;refine mP ht hs pl pu (by grind) (by grind) ⟨.ref a,H,I,rfl,k _ H F R (Gr.refl F) ?_⟩
    have hc:k6 ps lo hi=ps:=by
     unfold k6;rw[jD.length,hw.1,hw.2,List.drop_zero,Nat.sub_zero,<-jD.length,List.take_length]
    rw[hc];exact ba
   ·refine TN ae s σ H _ v vl vu lo hi sl Q I rx hs pl pu ⟨a,vs,rfl,bL R.sub ha,hw,λq hq=>?_⟩
    obtain⟨R2,s2⟩:=R.laid (.ay (zJ vs lo hi)) hq;exact k _ _ _ R2 s2 (cR.mpr ⟨q,_,rfl,ip.of aD,(jD.cut lo hi).mono s2⟩)
  | ref n =>
   obtain⟨c,e1,e2⟩:=aX z;obtain⟨hl,e3⟩:=aJ e2;have hk:c.k=.ay:=by grind
   unfold live at hl;rw[hk]at hl;cases hl
  | _=>cases z
 ·cases e
abbrev Uz(X:Cx)(aa:Hp)(ab:Fz)(f:Gx (Option Int)):TO:=tX X aa ab (λ_ a b=>a=b) f
def _root_.L2.PO.imp{X:Cx}{e:Option Expr}{t t':TO}(h:PO X e t)(hi:∀σ H Q,t' σ H Q->t σ H Q):PO X e t':=λae s σ H Q I hw=>h ae s σ H Q I (hi _ _ _ hw)
def p0:PV->Option Int | .int i=>some i | _=>none
def gp{p:PV}{i:Int}(h:p0 p=some i):p=.int i:=by
 cases p<;>first | (cases h;rfl) | cases h
def vj(fe:Gx PV):Gx (Option Int):=bnd fe λp=>kM ((p0 p).map some)
def UA:PO X none (Uz X aa ab (aY none)):=NZ.imp λσ H Q h=>xx h λ_=>rfl
def UB(h:PE X e (tE X aa ab fa)):PO X (some e) (Uz X aa ab (vj fa)):=(N0 h).imp λσ H Q ⟨F,st,R,h⟩=>⟨F,st,R,h.bnd λp v F1 br H1 R1 g1 b1 h1=>by
 obtain⟨o,e,z⟩:=h1.kM;obtain⟨i,e1,rfl⟩:=bt e;rw[gp e1]at b1;exact⟨i,aG.mp b1,z _ H1 F1 R1 (Gr.refl _) rfl⟩⟩
def cutE(fa:Gx PV)(fl fh:Gx (Option Int)):Gx PV:=bnd fa λp=>bnd fl λl=>bnd fh λr=>hp λh=>Ks h l r p
def YJ{fl fh:Gx (Option Int)}(ha:PE X e (tE X aa ab fa))(hl:PO X lo (Uz X aa ab fl))(hh:PO X hi (Uz X aa ab fh)):PE X (.Subscript e (.Slice lo hi none p2) pos) (tE X aa ab (cutE fa fl fh)):=(J1 slT ha hl hh).imp λσ H Q ⟨F,st,R,h⟩ =>
 ⟨F,st,R,h.bnd λp v F1 br H1 R1 g1 b1 h1=>⟨F1,br,R1,h1.bnd λl l' F2 st2 H2 R2 g2 b2 h2=>⟨F2,st2,R2,h2.bnd λr r' F3 uw H3 R3 g3 b3 h3=>by
  cases b2;cases b3;obtain⟨o,e,z⟩:=h3.hp;exact⟨aa,ab,F3,uw,σ,p,o,e,R3,b1.mono (g2.trans g3),z⟩⟩⟩⟩
abbrev GC:=List az->List PV->Option PV
def rC(K:W.Frag)(g:GC):List V->Hp->VK->Prop:=λxs H Q=>∃aa ab F st τ ps p,g st.h ps=some p/\Rep K aa ab F st τ H/\aE K F ps xs/\∀v H' F',Rep K aa ab F' st τ H'->Gr F F'->bN K F' p v->Q v H'
abbrev Hh(X:Cx)(f:Value)(g:GC):Prop:=mz X f (rC X.K g)
def gI(g:GC)(ts:Gx (List PV)):Gx PV:=bnd ts λps=>hp λh=>g h ps
def kO{g:GC}{σ:St}{H:Hp}{Q:VK}(h:tE X aa ab (gI g ts) σ H Q):tCB (rC X.K g) (tA X aa ab ts) σ H Q:=by
 obtain⟨F,st,R,h⟩:=h;refine⟨F,st,R,h.bnd λps vs F1 br H1 R1 g1 b1 h1=>?_⟩
 obtain⟨o,e,z⟩:=h1.hp;exact⟨aa,ab,F1,br,σ,ps,o,e,R1,b1,z⟩
def YK(h:List az)(p:PV):Option Nat:=match cX h p with
 | some (.ay,ps)=>some ps.length
 | some (.lst,ps)=>some ps.length
 | some (.gR _ ks,_)=>some ks.length
 | _=>none
def gH:GC:=λh ps=>match ps with
 | [.str z]=>if z.length<=f9 then some (.int z.length)else none
 | [p]=>(YK h p).map λn=>.int n
 | _=>none
def Hj:GC:=λh ps=>match ps with
 | [.nd .ay qs]=>some (.ay qs)
 | [p]=>(Ad h p).map λqs=>.ay qs
 | _=>none
noncomputable def Hk:GC:=λ_ ps=>match ps with
 | [.int i]=>some (.int i)
 | [.bl b]=>some (.int (if b then 1 else 0))
 | _=>none
noncomputable def Hl:GC:=λ_ ps=>match ps with
 | [.int i]=>if 0<=i/\i<1000 then some (.str (toString i))else none
 | _=>none
def ly(ps:List PV):Option (List Int):=di p0 ps
def Hm:GC:=λh ps=>match ps with
 | [p]=>(Ad h p).bind λqs=>(ly qs).map λns=>.int ns.sum
 | _=>none
def Ag{A:Around}{E:Value->Shared->Prop}{s:Shared}{d:Addr}{o:Obj}{es:Array DictEntry}{ep n:Nat}{Q:Value->Shared->Prop}(hd:(d==sysModules)=false)(ho:s.heap.get? d=some o)(hc:o.ExactDict)(Dl:o.data=.dict es ep)(hn:es.size=n)(agY:(n:Int)<2^63)
  (h:Q (.int n (s.toks+1)) {s with toks:=s.toks+1+1}):wpAny (model X.prog X.w) A (call (.builtin "len") [.ref d]) Q E s:=by
 have ty:s.TypeIs (.ref d) "dict":=⟨o,ho,hc.1⟩;have hm:MeetsIn X.prog X.w (Builtin.«dict.__len__» ⟨[.ref d],[]⟩) (λ_ R s'=>s'.heap.get? d=some o/\R (.ok (.ret (.int n s'.toks))) {s' with toks:=s'.toks+1}):=.of_wp <| by
  rintro A R s' ⟨nC,hR⟩
  show wpAny _ _ (dictSize d >>= _) _ _ s';refine af (af (wpAny_dictEntries nC Dl (aj ?_)));refine af (wpAny_pendingCount_other hd ?_);refine wpAny_ret_mkInt ?_;rw[rp,hn];exact hR
 refine B0 kind_len plain_len entry_len (args_len1 _) ?_;refine af (aj ?_);refine af (jZ ty F.slot_dict_len (call_meetsIn F.slot_dict_len ty F.entry_dict_len (F.args_dict_len_1 _) hm ⟨ho,?_⟩));show wpAny _ _ _ _ _ {s with toks:=s.toks+1}
 refine af (eP (aj ?_));refine af (wpAny_letGo ?_);show wpAny _ _ (if((n:Nat):Int)>=2^63 then _ else _) _ _ _
 rw[if_neg (by lia)]
 exact af (wpAny_mkInt (aj ⟨_,rfl,h⟩))
def E9{n:Nat}(h:n<=sizeLine):(n:Int)<2^63:=by
 have h1:n<=2^62:=bE h (by decide)
 have h62:2^62=4611686018427387904:=by decide
 lia
def Oz{ae:List (Addr×Obj)}{s:Shared}{σ:St}{H:Hp}{a:Addr}{t:Bool}{ks:List (List bB)}{vs:List V}{us:List Value}{Q:VK}{F:Hp}(I:Inv X ae σ H s)(rs:Vals [V.ref a] us)(h:kX X.K F H a false (.gR t ks) vs)(q:Q (.int ks.length) H):wpAny (model X.prog X.w) X.A (call (.builtin "len") us) (λu s'=>∃v H',Inv X ae σ H' s'/\RelV v u/\Q v H') X.xe s:=by
 obtain⟨u,rfl,ru⟩:=jL rs;cases ru;cases t with
 | false =>
  obtain⟨kvs,h1,h2,h3⟩:=h;obtain⟨z,y,ws,hk,o,es,ep,g1,g2,g3,g4,g5,g6⟩:=(I.hok a _ h1);have hl:ks.length=kvs.length:=by grind
  have hn:es.size=ks.length:=by rw[hl,n6 hk,<-g5.length,c6]
  exact Ag y g1 g2 g3 hn (E9 (by grind)) ⟨.int ks.length,H,I.tok _,⟨_,rfl⟩,q⟩
 | true =>
  obtain⟨xs,h1,_,h2,_⟩:=h;obtain⟨z,y,o,es,ep,g1,g2,g3,g4,g5⟩:=(I.hok a _ h1);have hl:ks.length=xs.length:=by grind
  exact Ag y g1 g2 g3 (by rw[<-c6,g4,ak,hl]) (E9 (by grind)) ⟨.int ks.length,H,I.tok _,⟨_,rfl⟩,q⟩
def Hn:Hh X (.builtin "len") gH:=by
 rintro ae s σ H xs us Q I rs ⟨aa,ab,F,st,τ,ps,p,e,R,bs,k⟩
 unfold gH at e;split at e
 ·obtain⟨hz,rfl⟩:=aJ e;obtain⟨v,rfl,b⟩:=dZ bs;rw[cP.mp b]at rs;exact xj ae s σ H _ us Q I rs ⟨_,rfl,fP hz,k _ H F R (Gr.refl F) (aG.mpr rfl)⟩
 ·obtain⟨n,e1,rfl⟩:=bt e;obtain⟨v,rfl,b⟩:=dZ bs;unfold YK at e1;split at e1
  ·rename_i z;cases e1;obtain⟨a,vs,rfl,ha,jD⟩:=R.at z b;exact mF ae s σ H _ us Q I rs ⟨a,vs,rfl,.inr ha.2,k _ H F R (Gr.refl F) (aG.mpr (by rw[jD.length]))⟩
  ·rename_i z;cases e1;obtain⟨a,vs,rfl,ha,jD⟩:=R.at z b;exact mF ae s σ H _ us Q I rs ⟨a,vs,rfl,.inl (kJ.sq ha),k _ H F R (Gr.refl F) (aG.mpr (by rw[jD.length]))⟩
  ·rename_i z;cases e1;obtain⟨a,vs,rfl,ha,jD⟩:=R.at z b;exact Oz I rs ha (k _ H F R (Gr.refl F) (aG.mpr rfl))
  ·cases e1
 ·cases e
def Ho:Hh X (.type "tuple") Hj:=by
 rintro ae s σ H xs us Q I rs ⟨aa,ab,F,st,τ,ps,p,e,R,bs,k⟩
 unfold Hj at e;split at e
 ·cases e;obtain⟨v,rfl,b⟩:=dZ bs;obtain⟨a,vs,rfl,ha,jD⟩:=cR.mp b;exact lr ae s σ H _ us Q I rs ⟨a,vs,rfl,.inr ⟨bL R.sub ha,k _ H F R (Gr.refl F) b⟩⟩
 ·obtain⟨qs,e1,rfl⟩:=bt e;obtain⟨v,rfl,b⟩:=dZ bs;obtain⟨a,vs,rfl,ha,jD⟩:=R.at (gT e1) b;refine lr ae s σ H _ us Q I rs ⟨a,vs,rfl,.inl ⟨kJ.sq ha,λq hq=>?_⟩⟩
  obtain⟨R2,s2⟩:=R.laid (.ay vs) hq;exact k _ _ _ R2 s2 (cR.mpr ⟨q,_,rfl,ip.of aD,jD.mono s2⟩)
 ·cases e
def Hq:Hh X (.type "int") Hk:=by
 rintro ae s σ H xs us Q I rs ⟨aa,ab,F,st,τ,ps,p,e,R,bs,k⟩
 unfold Hk at e;split at e
 ·cases e;obtain⟨v,rfl,b⟩:=dZ bs;rw[aG.mp b]at rs;exact u5 ae s σ H _ us Q I rs (.inl ⟨_,rfl,k _ H F R (Gr.refl F) (aG.mpr rfl)⟩)
 ·cases e;obtain⟨v,rfl,b⟩:=dZ bs;rw[cj.mp b]at rs;exact u5 ae s σ H _ us Q I rs (.inr ⟨_,rfl,k _ H F R (Gr.refl F) (aG.mpr rfl)⟩)
 ·cases e
def Hr:Hh X (.type "str") Hl:=by
 rintro ae s σ H xs us Q I rs ⟨aa,ab,F,st,τ,ps,p,e,R,bs,k⟩
 unfold Hl at e;split at e
 ·rename_i i;obtain⟨⟨h0,h1⟩,rfl⟩:=aJ e;obtain⟨v,rfl,b⟩:=dZ bs;rw[aG.mp b]at rs;exact xf ae s σ H _ us Q I rs ⟨i,rfl,(by
   by_cases h:i.natAbs=0
   ·simp_all
   ·exact iC (Nat.log2_le_self _) (by lia)),k _ H F R (Gr.refl F) (cP.mpr rfl)⟩
 ·cases e
theorem mQ{K:W.Frag}{F:Fz}:∀{ps:List PV} {ns:List Int} {vs:List V},ly ps=some ns->aE K F ps vs->vs=ns.map V.int
 | [],ns,vs,h,b=>by cases h;exact b.cS
 | p::r,ns,vs,h,b=>by
  obtain⟨i,ms,h1,h2,rfl⟩:=gj h;obtain⟨v,vr,rfl,c,d⟩:=b.cx;rw[gp h1]at c;rw[aG.mp c,mQ h2 d];rfl
def OA{ae:List (Addr×Obj)}{σ:St}{H:Hp}{s:Shared}{F:Fz}(I:Inv X ae σ H s){a:Addr}{vs:List V}{ps:List PV}{ns:List Int}(hn:ly ps=some ns)(ha:kJ X.K H a vs)(jD:aE X.K F ps vs) :
  ∃xs:Array (Int×Tok),s.heap.IsList a (intItems xs)/\ns=xs.toList.map (·.1):=by
 obtain⟨aH,r,pl,_⟩:=I.list ha.sq;have ev:=mQ hn jD;subst ev;have hi:=lW r;obtain⟨xs,ex⟩:=hi.allInts.items;exact⟨xs,by rw[<-ex];exact pl.isList,by rw[<-hi.numsOf,<-nums_intItems,<-ex]⟩
def Hs(hc:X.A.handled=none):Hh X (.builtin "sum") Hm:=by
 rintro ae s σ H xs us Q I rs ⟨aa,ab,F,st,τ,ps,p,e,R,bs,k⟩
 unfold Hm at e;split at e
 ·obtain⟨qs,e1,e⟩:=aX e;obtain⟨ns,e2,rfl⟩:=bt e;obtain⟨v,rfl,b⟩:=dZ bs;obtain⟨a,vs,rfl,ha,jD⟩:=R.at (gT e1) b;obtain⟨xs,hl,hn⟩:=OA I e2 ha jD;obtain⟨u,rfl,ru⟩:=jL rs;cases ru;refine sum_intListG hc hl λh' tk t' hk=>⟨.int ns.sum,H,I.kept hk,⟨t',?_⟩,k _ H F R (Gr.refl F) (aG.mpr rfl)⟩
  rw[preSum_eq,nK (by simp),hn]
 ·cases e
inductive Ty where
 | int | str | bool | tuple | list
noncomputable def Ty.nm:Ty->String
 | .int=>"int" | .str=>"str" | .bool=>"bool" | .tuple=>"tuple" | .list=>"list"
def YL(h:List az):PV->Option String
 | .bQ=>some "NoneType"
 | .bl _=>some "bool"
 | .int _=>some "int"
 | .str _=>some "str"
 | p=>match cX h p with
  | some (.ay,_)=>some "tuple"
  | some (.lst,_)=>some "list"
  | _=>none
def UC(t:Ty)(y:String):Bool:=y==t.nm || (t.nm=="int"&&y=="bool")
def isV(t:Ty)(fa:Gx PV):Gx PV:=bnd fa λp=>hp λh=>(YL h p).map λy=>.bl (UC t y)
def rIs(K:W.Frag)(t:Ty):List V->Hp->VK->Prop:=λxs H Q=>∃aa ab F st τ p x y,xs=[x,.ty t.nm]/\Rep K aa ab F st τ H/\bN K F p x/\YL st.h p=some y/\Q (.bl (UC t y)) H
def OB(t:Ty):mz X (.builtin "isinstance") (rIs X.K t):=by
 rintro ae s σ H xs us Q I rs ⟨aa,ab,F,st,τ,p,x,y,ex,R,b,ey,q⟩
 subst ex;obtain⟨u,w,rfl,ru,TQ⟩:=QR rs;cases TQ;have fin:∀tk,EP X ae σ Q (.bool (UC t y)) {s with toks:=tk}:=λtk=>⟨.bl _,H,I.tok tk,rfl,q⟩
 have more:(match cX st.h p with
  | some (.ay,_)=>some "tuple"
  | some (.lst,_)=>some "list"
  | _=>none)=some y->wpAny (model X.prog X.w) X.A (call (.builtin "isinstance") [u,.type t.nm]) (EP X ae σ Q) X.xe s:=λey=>by
  split at ey
  ·rename_i z;cases ey;obtain⟨a,vs,rfl,h2,h3⟩:=R.at z b;cases ru;obtain⟨aH,_,⟨o,h1,h2,_⟩,_⟩:=I.tuple h2.2;exact W.kia_one W.kitx_tuple I.rM ⟨o,h1,h2⟩ (by cases t<;>kernel_rfl) (λz=>nomatch z) fin
  ·rename_i z;cases ey;obtain⟨a,vs,rfl,h2,h3⟩:=R.at z b;cases ru;obtain⟨aH,n,_,h1,_⟩:=I.E4 h2;exact W.kia_one W.kitx_list I.rM ⟨_,h1,rfl⟩ (by cases t<;>kernel_rfl) (λz=>nomatch z) fin
  ·cases ey
 cases p with
 | bQ =>
  cases ey;rw[dH.mp b]at ru;cases ru;exact W.kia_one W.kitx_none I.rM True.intro (by cases t<;>kernel_rfl) (λz=>nomatch z) fin
 | bl y =>
  cases ey;rw[cj.mp b]at ru;cases ru;exact W.kia_one W.kitx_bool I.rM True.intro (by cases t<;>kernel_rfl) (λz=>nomatch z) fin
 | int i =>
  cases ey;rw[aG.mp b]at ru;obtain⟨tk,rfl⟩:=ru;exact W.kia_one W.kitx_int I.rM True.intro (by cases t<;>kernel_rfl) (λz=>nomatch z) fin
 | str y =>
  cases ey;rw[cP.mp b]at ru;obtain⟨tk,rfl⟩:=ru;exact W.kia_one W.kitx_str I.rM True.intro (by cases t<;>kernel_rfl) (λz=>nomatch z) fin
 | ref n=>exact more ey
 | fn x=>exact more ey
 | nd k ps=>exact more ey
def p8:bootBuiltins "isinstance"=some (.builtin "isinstance"):=by kernel_rfl
def mR(t:Ty):bootBuiltins (Str.ofString t.nm)=some (.type t.nm):=by cases t<;>kernel_rfl
noncomputable def tys:List Ty:=[.int,.str,.bool,.tuple,.list]
def Fb(x:Str):Option Ty:=tys.find? λt=>x==Str.ofString t.nm
def Kt{x:Str}{t:Ty}(h:Fb x=some t):x=Str.ofString t.nm:=by
 have:=List.find?_some h;exact bj this
def ac1{x:Str}{t:Ty}(ht:Fb x=some t)(hg:Gl X "isinstance")(hm:X.mg "isinstance"=none)(hg2:Gl X x)(hm2:X.mg x=none)(ha:PE X a (tE X aa ab fa))(hs:∀es,starEach (a::es) X.env=(false,eval a X.env)::starEach es X.env) :
  PE X (.Call (.Name "isinstance" p1) [a,.Name x p2] [] pos) (tE X aa ab (isV t fa)):=by
 have hx:=Kt ht;subst hx;refine(mB (OB t) hg hm p8 (jz ha (jz (Nt (v:=.ty t.nm) hg2 hm2 (mR t) rfl (by cases t<;>decide) (by cases t<;>decide)) rR rfl) (hs _)) (by decide) (by decide) (hs _)).imp λσ H Q ⟨F,st,R,h⟩=>?_
 refine⟨F,st,R,h.bnd λp v F1 br H1 R1 g1 b1 h1=>?_⟩
 obtain⟨o,e,z⟩:=h1.hp;obtain⟨y,e1,rfl⟩:=bt e;exact⟨aa,ab,F1,br,σ,p,v,y,rfl,R1,b1,e1,z _ H1 F1 R1 (Gr.refl _) (cj.mpr rfl)⟩
def Ah(fa:Gx PV):Gx PV:=bnd fa λp=>kM ((p0 p).map λi=>.int (-i))
def YM(ha:PE X a (tE X aa ab fa)):PE X (.UnaryOp .USub a pos) (tE X aa ab (Ah fa)):=(XI Tu ha).imp λσ H Q ⟨F,st,R,h⟩=>⟨F,st,R,h.bnd λp v F1 br H1 R1 g1 b1 h1=>by
 obtain⟨o,e,z⟩:=h1.kM;obtain⟨i,e1,rfl⟩:=bt e;rw[gp e1]at b1;exact⟨i,aG.mp b1,z _ H1 F1 R1 (Gr.refl _) (aG.mpr rfl)⟩⟩
end
noncomputable def Ai:PV->Option bB
 | .int i=>some (.inl i)
 | .str x=>some (.inr x)
 | _=>none
def jd:Bool->PV->Option (List bB)
 | false,p=>(Ai p).map λk=>[k]
 | true,.nd .ay ps=>if ps.length<1000 then di Ai ps else none
 | true,_=>none
noncomputable def lZ(k:List bB)(ks:List (List bB)):Bool:=ks.any λj=>decide (j=k)
noncomputable def jO(k:List bB):List (List bB)->List PV->Option PV
 | j::ks,p::ps=>if j=k then some p else jO k ks ps
 | _,_=>none
noncomputable def Aj(k:List bB)(q:PV):List (List bB)->List PV->List PV
 | j::ks,p::ps=>(if j=k then q else p)::Aj k q ks ps
 | _,ps=>ps
def Ak:Aj k q [] ps=ps:=by cases ps<;>rfl
def qa(t:Bool)(k:List bB)(q:PV)(ks:List (List bB))(ps:List PV):az:=if lZ k ks=true then⟨.gR t ks,Aj k q ks ps⟩else⟨.gR t (ks++[k]),ps++[q]⟩
section
variable {K:W.Frag} {F:Fz}
def sE(h:Ai p=some k)(b:bN K F p v):v=kV k:=by
 cases p<;>cases h
 ·exact aG.mp b
 ·exact cP.mp b
theorem vk:∀{ps:List PV} {ks:List bB} {vs:List V},di Ai ps=some ks->aE K F ps vs->vs=ks.map kV
 | [],_,_,h,b=>by cases h;exact b.cS
 | _::_,_,_,h,b=>by
  obtain⟨k,r,h1,h2,rfl⟩:=gj h;obtain⟨v,w,rfl,b1,b2⟩:=b.cx;rw[sE h1 b1,vk h2 b2];rfl
def kq(h:jd false p=some k)(b:bN K F p v):∃j,k=[j]/\v=kV j:=by
 obtain⟨j,e,rfl⟩:=bt h;exact⟨j,rfl,sE e b⟩
def mT(h:jd true p=some k)(b:bN K F p v):∃c,v=.ref c/\ip K F.F c (k.map kV):=by
 unfold jd at h;split at h
 ·grind
 ·obtain⟨_,h⟩:=bX h;obtain⟨c,vs,rfl,hs,hb⟩:=cR.mp b;rw[vk h hb]at hs;exact⟨c,rfl,hs⟩
 ·cases h
theorem oz(j:bB):∀kvs:List (bB×V),lZ [j] (kvs.map λy=>[y.1])=(jS kvs j).isSome
 | []=>rfl
 | (i,v)::r=>by
  have ih:=oz j r;unfold lZ at ih ⊢;rw[aM,jr,ih];by_cases h:i=j
  ·subst h;rw[mH rfl];simp
  ·rw[mI h];simp[h]
theorem xG:∀{kvs:List (bB×V)} {ps:List PV} {p:PV},jO [j] (kvs.map λy=>[y.1]) ps=some p->aE K F ps (kvs.map (·.2))->∃v,jS kvs j=some v/\bN K F p v
 | [],_,_,h,_=>by cases h
 | (i,v)::r,[],_,h,_=>by cases h
 | (i,v)::r,q::ps,p,h,b=>by
  obtain⟨v',w,e,b1,b2⟩:=b.cx;cases e;have h:(if [i]=[j]then some q else jO [j] (r.map λy=>[y.1]) ps)=some p:=h
  by_cases hi:i=j
  ·subst hi;rw[if_pos rfl]at h;cases h;exact⟨v,mH rfl,b1⟩
  ·rw[if_neg (by grind)]at h
   rw[mI hi];exact xG h b2
def Ku(bq:bN K F q v)(b:aE K F ps (kvs.map (·.2))) :
  ∃xJ BV,qa false [j] q (kvs.map λy=>[y.1]) ps=⟨.gR false xJ,BV⟩/\(putK kvs j v).map (λy=>[y.1])=xJ/\aE K F BV ((putK kvs j v).map (·.2)):=by
 unfold qa putK;rw[oz,r9];cases e:(jS kvs j).isSome with
 | false=>exact⟨_,_,rfl,by simp,by simpa using b.append (.cons bq .nil)⟩
 | true =>
  refine⟨_,_,rfl,?_,?_⟩
  ·rw[if_pos rfl,b6];exact List.map_congr_left λy _=>by grind
  ·rw[if_pos rfl];clear e;induction kvs generalizing ps with
   | nil=>rw[og,Ak];exact b
   | cons y r ih =>
    cases ps with
    | nil=>have:=b.length;simp at this
    | cons p ps =>
     obtain⟨v',w,e,b1,b2⟩:=b.cx;simp only[aM,Cw]at e;obtain⟨rfl,rfl⟩:=e;have ih:=ih b2;by_cases hy:y.1=j
     ·simpa only[aM,Aj,hy,iJ]using aE.cons bq ih
     ·have:¬ [y.1]=[j]:=by grind
      simpa only[aM,Aj,hy,this,jt]using aE.cons b1 ih
def Dn(k:List bB)(xs:List (List bB×Addr×Value)):lZ k (xs.map (·.1))=(atKey xs k).isSome:=(He xs k).symm
theorem Fc:∀{xs:List (List bB×Addr×Value)} {ps:List PV} {vs:List V} {p:PV},jO k (xs.map (·.1)) ps=some p->aE K F ps vs->Vals vs (xs.map (·.2.2))->∃a r v,atKey xs k=some (a,r)/\RelV v r/\bN K F p v
 | [],_,_,_,h,_,_=>by cases h
 | x::r,[],_,_,h,_,_=>by cases h
 | x::r,q::ps,vs,p,h,b,rv=>by
  obtain⟨v',w,rfl,b1,b2⟩:=b.cx;cases rv with
  | cons r1 r2 =>
   have h:(if x.1=k then some q else jO k (r.map (·.1)) ps)=some p:=h
   by_cases hi:x.1=k
   ·rw[if_pos hi]at h;cases h;exact⟨x.2.1,x.2.2,v',by simp[atKey,hi],r1,b1⟩
   ·rw[if_neg hi]at h;obtain⟨a,r',v,h1,h2,h3⟩:=Fc h b2 r2;exact⟨a,r',v,by unfold atKey at h1 ⊢;rw[rj,j9 hi];exact h1,h2,h3⟩
def UD(bq:bN K F q v)(rq:RelV v r)(hc:ip K F.F c (k.map kV))(hk:gG K F.F xs)(b:aE K F ps vs)(rv:Vals vs (xs.map (·.2.2))) :
  ∃xJ BV xt,qa true k q (xs.map (·.1)) ps=⟨.gR true xJ,BV⟩/\(storedH xs k c r).map (·.1)=xJ/\gG K F.F (storedH xs k c r)/\aE K F BV xt/\Vals xt ((storedH xs k c r).map (·.2.2)):=by
 unfold qa storedH;rw[Dn];cases e:(atKey xs k).isSome with
 | false =>
  refine⟨_,_,vs++[v],rfl,by simp,λx hx=>?_,b.append (.cons bq .nil),by simpa using rv.append (.cons rq .nil)⟩
  simp only[qY,jt,bZ,bC]at hx;rcases hx with hx | rfl
  ·exact hk x hx
  ·exact hc
 | true =>
  simp only[iJ];have hm:(xs.map (putAt k r)).map (·.1)=xs.map (·.1):=by
   rw[b6];exact List.map_congr_left λy _=>by simp only[Function.comp,putAt];split<;>rfl
  have key:gG K F.F (xs.map (putAt k r)):=λx hx=>by
   obtain⟨y,hy,rfl⟩:=aF.mp hx;have:=hk y hy;unfold putAt;split<;>exact this
  suffices h:∃xt,aE K F (Aj k q (xs.map (·.1)) ps) xt/\Vals xt ((xs.map (putAt k r)).map (·.2.2)) by
   obtain⟨xt,h1,h2⟩:=h;exact⟨_,_,xt,rfl,hm,key,h1,h2⟩
  clear e hk hm key;induction xs generalizing ps vs with
  | nil=>exact⟨vs,by rw[og,Ak];exact b,rv⟩
  | cons x xs ih =>
   cases ps with
   | nil=>rw[b.cS]at rv;cases rv
   | cons p ps =>
    obtain⟨v',w,rfl,b1,b2⟩:=b.cx;cases rv with
    | cons r1 r2 =>
     obtain⟨xt,h1,h2⟩:=ih b2 r2;by_cases hx:x.1=k
     ·exact⟨v::xt,by simpa only[aM,Aj,hx,iJ]using aE.cons bq h1,by simpa only[aM,putAt,hx,iJ]using Paired.cons rq h2⟩
     ·exact⟨v'::xt,by simpa only[aM,Aj,hx,jt]using aE.cons b1 h1,by simpa only[aM,putAt,hx,jt]using Paired.cons r1 h2⟩
end
def bW:G2:=λh p q=>match p with
 | .str z=>(p0 q).bind λi=>if z.length<=f9 then(mn z.cps.toList i).map λc=>.str ⟨#[c]⟩else none
 | p=>match cX h p with
  | some (.ay,ps)=>(p0 q).bind (mn ps)
  | some (.lst,ps)=>(p0 q).bind (mn ps)
  | some (.gR t ks,ps)=>(jd t q).bind λk=>jO k ks ps
  | _=>none
section
variable {X:Cx} {aa:Hp} {ab:Fz} {a b e:Expr} {fa fb:Gx PV} {pos:Pos}
def ixT(hu:X.A.units+1150<cLine):WQ X (rT X.K bW):=by
 rintro value slice ae s σ H x y v u Q I rx ry ⟨aa,ab,F,st,τ,pa,pb,p,e,R,ba,bb,k⟩ hs
 have more:(match cX st.h pa with
  | some (.ay,ps)=>(p0 pb).bind (mn ps)
  | some (.lst,ps)=>(p0 pb).bind (mn ps)
  | some (.gR t ks,ps)=>(jd t pb).bind λk=>jO k ks ps
  | _=>none)=some p->wpAny (model X.prog X.w) X.A (subscriptTail value slice v u) (EP X ae σ Q) X.xe s:=λe=>by
  split at e
  ·rename_i z;obtain⟨i,e1,e2⟩:=aX e;rw[gp e1]at bb;rw[aG.mp bb]at ry;obtain⟨a,vs,rfl,ha,jD⟩:=R.at z ba;obtain⟨w,hw,bw⟩:=jD.mn e2;exact TR value slice ae s σ H _ _ v u Q I rx ry ⟨a,vs,_,w,rfl,rfl,ha.2,hw,k _ H F R (Gr.refl F) bw⟩ hs
  ·rename_i z;obtain⟨i,e1,e2⟩:=aX e;rw[gp e1]at bb;rw[aG.mp bb]at ry;obtain⟨a,vs,rfl,ha,jD⟩:=R.at z ba;obtain⟨w,hw,bw⟩:=jD.mn e2;exact N3 value slice ae s σ H _ _ v u Q I rx ry ⟨a,vs,_,w,rfl,rfl,kJ.sq ha,hw,k _ H F R (Gr.refl F) bw⟩ hs
  ·rename_i t ks ps z;obtain⟨kk,e1,e2⟩:=aX e;obtain⟨a,vs,rfl,ha,jD⟩:=R.at z ba;cases rx;cases t with
   | false =>
    obtain⟨kvs,g1,g2,g3⟩:=ha;obtain⟨j,rfl,rfl⟩:=kq e1 bb;subst g2 g3;obtain⟨w,hw,bw⟩:=xG e2 jD;obtain⟨_,hd,us,Ht,dd⟩:=EZ I.hok (.inl g1);have hr:=Ht.val j;rw[hw]at hr;cases hv:valueAt us j with
    | none=>rw[hv]at hr;exact hr.elim
    | some u' =>
     rw[hv]at hr;exact tail_any dd.typeIs PySem.F.slot_dict_getitem.lookup (wpAny_getItem_of (sd ry) dd.mapOf hv ⟨w,H,I.tok _,hr,k _ H F R (Gr.refl F) bw⟩) hs
   | true =>
    obtain⟨xs,g1,g2,g3,g4⟩:=ha;obtain⟨c,rfl,hc⟩:=mT e1 bb;cases ry;subst g3;obtain⟨ad,r,w,hw,TQ,bw⟩:=Fc e2 jD g4;obtain⟨_,hd,dd⟩:=zW I (.inl g1) (λz hz=>bL R.sub (g2 z hz))
    obtain⟨o,_,_,ho,hx,_⟩:=id dd;refine tail_any ⟨o,ho,hx.1⟩ PySem.F.slot_dict_getitem.lookup (Ye (by lia) I (.inl g1) (λz hz=>bL R.sub (g2 z hz)) (bL R.sub hc) hw λs' I'=>⟨w,H,I',TQ,k _ H F R (Gr.refl F) bw⟩) hs
  ·cases e
 cases pa with
 | str z =>
  obtain⟨i,e1,e2⟩:=aX e;rw[gp e1]at bb;obtain⟨hz,e2⟩:=bX e2;obtain⟨c,e3,rfl⟩:=bt e2;rw[cP.mp ba]at rx;rw[aG.mp bb]at ry;exact TU value slice ae s σ H _ _ v u Q I rx ry ⟨z,i,c,rfl,rfl,fP hz,e3,k _ H F R (Gr.refl F) (cP.mpr rfl)⟩ hs
 | bQ=>exact more e
 | bl _=>exact more e
 | int _=>exact more e
 | ref _=>exact more e
 | fn _=>exact more e
 | nd _ _=>exact more e
def ac2(hu:X.A.units+1150<cLine)(ha:PE X a (tE X aa ab fa))(hb:PE X b (tE X aa ab fb))(hs:qp b):PE X (.Subscript a b pos) (tE X aa ab (op2 bW fa fb)):=(QT (ixT hu) ha hb hs).imp λ_ _ _ h=>qw h
def oA(n:Bool):G2:=λh p q=>match cX h q with
 | some (.gR t ks,_)=>(jd t p).map λk=>.bl (if n=true then !lZ k ks else lZ k ks)
 | _=>(Dk h q).bind λqs=>(Ox h p qs).map λb=>.bl (if n=true then !b else b)
def UG(hu:X.A.units+1150<cLine):xu X (compareOp .In) (oA false):=by
 rintro ae s σ H x y v u Q I rx ry ⟨aa,ab,F,st,τ,pa,pb,p,e,R,ba,bb,k⟩
 unfold oA at e;split at e
 ·rename_i t ks ps z;obtain⟨kk,e1,rfl⟩:=bt e;obtain⟨a,vs,rfl,ha,jD⟩:=R.at z bb;cases ry;cases t with
  | false =>
   obtain⟨kvs,g1,g2,g3⟩:=ha;obtain⟨j,rfl,rfl⟩:=kq e1 ba;obtain⟨_,hd,us,Ht,dd⟩:=EZ I.hok (.inl g1);refine wpAny_in_of (sd rx) hd dd.mapOf ⟨.bl (jS kvs j).isSome,H,I.tok _,?_,k _ H F R (Gr.refl F) (cj.mpr ?_)⟩
   ·rw[(Ht.val j).ve];rfl
   ·rw[<-g2,oz];rfl
  | true =>
   obtain⟨xs,g1,g2,g3,g4⟩:=ha;obtain⟨c,rfl,hc⟩:=mT e1 ba;cases rx;exact Yc (by lia) I (.inl g1) (λz hz=>bL R.sub (g2 z hz)) (bL R.sub hc) λs' I'=>⟨.bl _,H,I',rfl,k _ H F R (Gr.refl F) (cj.mpr (by rw[<-g3,Dn];rfl))⟩
 ·obtain⟨qs,e1,e⟩:=aX e;obtain⟨b,e2,rfl⟩:=bt e;exact(Kr hu I rx ry R ba bb e1 e2).1 (k _ H F R (Gr.refl F) (cj.mpr rfl))
def Hu(hu:X.A.units+1150<cLine):xu X (compareOp .NotIn) (oA true):=by
 rintro ae s σ H x y v u Q I rx ry ⟨aa,ab,F,st,τ,pa,pb,p,e,R,ba,bb,k⟩
 unfold oA at e;split at e
 ·rename_i t ks ps z;obtain⟨kk,e1,rfl⟩:=bt e;obtain⟨a,vs,rfl,ha,jD⟩:=R.at z bb;cases ry;cases t with
  | false =>
   obtain⟨kvs,g1,g2,g3⟩:=ha;obtain⟨j,rfl,rfl⟩:=kq e1 ba;obtain⟨_,hd,us,Ht,dd⟩:=EZ I.hok (.inl g1);refine wpAny_notIn_of (sd rx) hd dd.mapOf ⟨.bl (!(jS kvs j).isSome),H,I.tok _,?_,k _ H F R (Gr.refl F) (cj.mpr ?_)⟩
   ·rw[(Ht.val j).ve];rfl
   ·rw[<-g2,oz];rfl
  | true =>
   obtain⟨xs,g1,g2,g3,g4⟩:=ha;obtain⟨c,rfl,hc⟩:=mT e1 ba;cases rx;exact Yd (by lia) I (.inl g1) (λz hz=>bL R.sub (g2 z hz)) (bL R.sub hc) λs' I'=>⟨.bl _,H,I',rfl,k _ H F R (Gr.refl F) (cj.mpr (by rw[<-g3,Dn];rfl))⟩
 ·obtain⟨qs,e1,e⟩:=aX e;obtain⟨b,e2,rfl⟩:=bt e;exact(Kr hu I rx ry R ba bb e1 e2).2 (k _ H F R (Gr.refl F) (cj.mpr rfl))
end
def Dp:CmpOp->Option G2
 | .Eq=>some k0
 | .NotEq=>some Ri
 | .Lt=>some Km
 | .LtE=>some leO
 | .GtE=>some geO
 | .Is=>some YI
 | .In=>some (oA false)
 | .NotIn=>some (oA true)
 | _=>none
def kP(hu:X.A.units+1150<cLine)(h:Dp op=some g):xu X (compareOp op) g:=by
 have nn:∀i j:Int,(λ_ _=>true) i j=true->(λ_ _=>True) i j:=by grind
 cases op<;>cases h
 ·exact Uw hu
 ·exact Ux hu
 ·exact gO (Ae XJ) nn λ_ _ _=>cj.mpr rfl
 ·exact gO (Ae XM) nn λ_ _ _=>cj.mpr rfl
 ·exact gO (Ae XN) nn λ_ _ _=>cj.mpr rfl
 ·exact Uy
 ·exact UG hu
 ·exact Hu hu
end L2.U
namespace L2
open PySem PySem.Spec PyProof.Rows
section
variable {X:Cx}
def Kv:PE X (.Dict [] [] pos) (QZ (.dK [])):=λae s σ H Q I h =>
 wpAny_Dict_empty ⟨.ref s.heap.objs.size,_,I.laid (o:=.dK []) (λ_ _ q=>aZ _ q) (ao _)
  ⟨dF _,jn.mpr (dn (bG (se I))),[],.nil,Heap.DictOf.new s.heap⟩,rfl,h _ (I.hok.fresh (ao _))⟩
def YN:V->List V->Hp->VK->Prop:=λx vs H Q=>∃a kvs k y,x=.ref a/\vs=[kV k,y]/\H a=some (.dK kvs)/\kvs.length<sizeLine/\(∀v,jS kvs k=some v->Q v H)/\(jS kvs k=none->Q y (cw H a (.dK (kvs++[(k,y)]))))
def UH:MtR X "dict.setdefault" YN:=by
 intro ae s σ H x xs v us Q I rx rv h;obtain⟨a,kvs,k,y,rfl,rfl,e,hl,h1,h2⟩:=h;cases rx;obtain⟨u1,u2,rfl,r1,r2⟩:=rv.two;obtain⟨z,hd,vs,Ht,dd⟩:=QY I.hok e;refine call_meetsIn Ji dd.typeIs PySem.F.entry_dict_setdefault (PySem.F.args_dict_setdefault_3 _ _ _) (kt_meets_setdefault (c9 X.prog X.w) a (sd r1) hd u2) ⟨vs,dd,by rw[<-Ht.length];exact z,λw hw=>?_,λhn h' T9 hs=>?_⟩
 ·have rk:=Ht.val k;rw[hw]at rk;cases hv:jS kvs k with
  | none=>rw[hv]at rk;exact rk.elim
  | some v0=>rw[hv]at rk;exact⟨v0,H,I.tok _,rk,h1 v0 hv⟩
 ·have rk:=Ht.val k;rw[hn]at rk;have hv:jS kvs k=none:=by
   cases hv:jS kvs k with
   | none=>rfl
   | some v0=>rw[hv]at rk;exact rk.elim
  have OC:=Ht.put k r2;rw[Kh y hv]at OC;have he:∃q,h'.get? a=some q:=let ⟨q,_,_,hq,_⟩:=T9;⟨q,hq⟩
  exact⟨y,_,I.write (o:=.dK (kvs++[(k,y)])) (by rw[e];exact True.intro) (.inl rfl) (λc q' hc z=>(hs.2 c hc).trans z) he ⟨by rw[bu];exact hl,hd,_,OC,T9⟩,r2,h2 hv⟩
def Fd:V->List V->Hp->VK->Prop:=λx vs H Q=>∃(l:Addr) (xs:List V) (i:Int) (y:V),x=.ref l/\vs=[.int i,y]/\H l=some (.lst xs)/\xs.length<sizeLine/\0<=i/\i<=1000000/\Q .bQ (cw H l (.lst (xs.take i.toNat++y::xs.drop i.toNat)))
def UI(h0:0<=i)(hi:i<=1000000):¬(!Builtin.List.listFitsIndex i)=true:=by
 unfold Builtin.List.listFitsIndex;have h1:decide (-(2^63:Int)<=i)=true:=by grind
 have h2:decide (i<2^63)=true:=by grind
 rw[h1,h2];simp
noncomputable def YO(i:Int)(u:Value):Array Value->Array Value:=λxs=>have k:=if i<0 then(i+((xs.size:Nat):Int)).toNat else min i.toNat xs.size;(xs.extract 0 k).push u++xs.extract k
def OD(h0:0<=i)(aH:List Value)(u:Value):YO i u aH.toArray=(aH.take i.toNat++u::aH.drop i.toNat).toArray:=by
 unfold YO;have h1:¬i<0:=by lia
 simp only[h1,e9];apply Array.ext';simp only[List.extract_eq_drop_take];by_cases hb:i.toNat<=aH.length
 ·rw[Nat.min_eq_left hb];have h2:List.take (aH.length-i.toNat) (List.drop i.toNat aH)=List.drop i.toNat aH:=nK (by grind)
  simp[h2]
 ·grind
def Hv:MtM X "list.insert" Fd:=by
 intro ae s σ H x vs v us Q I rx rv h;obtain⟨l,xs,i,y,rfl,rfl,hH,hz,h0,hi,q⟩:=h;cases rx;obtain⟨u1,u2,rfl,⟨t,rfl⟩,r2⟩:=rv.two;obtain⟨z,aH,n,r,hl,e⟩:=I.iK hH;have uj:=r.length;have J:=I.N5 (t':=s.toks) hH e (OD h0 aH u2) ((r.take i.toNat).append (.cons r2 (r.drop i.toNat))) (by grind)
 exact lR F.slot_list_insert ⟨_,e,rfl⟩ F.entry_list_insert (F.args_list_insert_3 _ _ _) (@PySem.AutoListH.list_insert_list_int_val_1 l aH.toArray n i t u2 (UI h0 hi) (by grind)) ⟨e,.bQ,_,J,rfl,q⟩
def UJ(K:W.Frag):V->List V->Hp->VK->Prop:=λx vs H Q=>∃l b xs zs,x=.ref l/\vs=[.ref b]/\H l=some (.lst xs)/\(ip K H b zs\/kJ K H b zs)/\xs.length+zs.length<=sizeLine/\Q .bQ (cw H l (.lst (xs++zs)))
def xK(l:Addr)(aH:Array Value)(n:Nat)(b:Addr)(more:Array Value)(n2:Nat)(dd:Option Addr)(sl:Array (Option Value))(h0:¬(!aH.isEmpty&&Builtin.List.listTooLong (aH.size+more.size))=true)(h1:aH.size<=sizeLine)(h2:aH.size+more.size<=sizeLine+1) :
  Meets (Builtin.«list.extend» ⟨[.ref l,.ref b],[]⟩) (λ_ R s=>s.heap.get? l=some {cls:=.type "list",dict:=none,data:=.seq aH n,slots:=#[]}/\s.heap.get? b=some {cls:=.type "tuple",dict:=dd,data:=.seq more n2,slots:=sl} /\
   R (.ok (.ret Value.none)) {s with heap:=s.heap.update l (Obj.mapSeq λx=>x++more),toks:=s.toks}) :=
 .of_wp λprog w A R s h=>by
  obtain⟨hp,g,d,tk,os⟩:=s;obtain⟨hl,hb,h⟩:=h;have f1:=AutoSeq1.idx_int;have f2:=AutoSeq1.sub_tuple_tuple;have f3:=AutoSeq1.sub_list_list;have f4:=AutoSeq1.sub_tuple_list;have f5:=AutoSeq1.sub_list_tuple
  wp_walk using (wpAny_updateSeq hl rfl (_hz':=(by rw[Array.size_append];exact h2))),jY hl,jY hb
  exact⟨_,rfl,h⟩
def UK:MtM X "list.extend" (UJ X.K):=by
 intro ae s σ H x vs v us Q I rx rv h;obtain⟨l,b,xs,zs,rfl,rfl,hH,hB,hz,q⟩:=h;cases rx;obtain⟨u,rfl,ru⟩:=rv.one;cases ru;obtain⟨z,aH,n,r,hl,e⟩:=I.iK hH;have go:∀gZ,Vals zs gZ->(¬(!aH.toArray.isEmpty&&Builtin.List.listTooLong (aH.toArray.size+gZ.toArray.size))=true/\aH.toArray.size<=sizeLine/\aH.toArray.size+gZ.toArray.size<=sizeLine+1) /\
   EP X ae σ Q Value.none {s with heap:=s.heap.update l (Obj.mapSeq λx=>x++gZ.toArray),toks:=s.toks}:=λgZ r2=>by
  have Ut:=r2.length;have hsz:aH.toArray.size+gZ.toArray.size<=sizeLine:=by grind
  refine⟨⟨?_,by grind,(B7 ‹_›)⟩,.bQ,_,I.N5 hH e (by simp) (r.append r2) (by grind),rfl,q⟩
  rw[J5 hsz,Bool.and_false];exact d9
 rcases hB with hB | hB
 ·obtain⟨gZ,r2,⟨⟨cls,dd,dat,sl⟩,e2,hc,n2,hd⟩,_⟩:=I.tuple hB;simp only at hc hd;subst hc hd;obtain⟨⟨g1,g2,g3⟩,g4⟩:=go gZ r2;exact lR F.slot_list_extend ⟨_,e,rfl⟩ F.entry_list_extend (F.args_list_extend_2 _ _) (xK l aH.toArray n b gZ.toArray n2 dd sl g1 g2 g3) ⟨e,e2,g4⟩
 ·obtain⟨gZ,n2,r2,e2,_⟩:=I.E4 hB;obtain⟨⟨g1,g2,g3⟩,g4⟩:=go gZ r2;exact lR F.slot_list_extend ⟨_,e,rfl⟩ F.entry_list_extend (F.args_list_extend_2 _ _) (AutoSeq1.list_extend_list_list_0 l aH.toArray n b gZ.toArray n2 g1 g2 g3) ⟨e,e2,g4⟩
def Ff(kvs:List (bB×V))(k:bB)(v:V):(putK kvs k v).length<=kvs.length+1:=by
 unfold putK;split
 ·grind
 ·grind
def YQ:JI:=λo i v H Q=>∃a kvs k,o=.ref a/\i=kV k/\H a=some (.dK kvs)/\kvs.length<sizeLine/\Q (cw H a (.dK (putK kvs k v)))
def UL:JJ X YQ:=by
 rintro ae s σ H o i v ov iv u Q I ro ri rv ⟨a,kvs,k,ex,ey,e1,e2,q⟩
 subst ex ey;cases ro;obtain⟨z,hd,vs,Ht,dd⟩:=QY I.hok e1;refine wpAny_setItem_pairs (sd ri) dd (λh' T9 YR=>?_) (by rw[<-Ht.length];exact z)
 have OC:=Ht.put k rv;have he:∃q,h'.get? a=some q:=let ⟨q,_,_,hq,_⟩:=T9;⟨q,hq⟩
 exact⟨_,I.write (o:=.dK (putK kvs k v)) (by rw[e1];exact True.intro) (.inl rfl) (λc q' hc z=>(YR.2 c hc).trans z) he ⟨by have:=Ff kvs k v;lia,hd,_,OC,T9⟩,q⟩
def YS(K:W.Frag):JI:=λo i v H Q=>∃a b xs k,o=.ref a/\i=.ref b/\H a=some (.dT xs)/\gG K H xs/\ip K H b (k.map kV)/\xs.length<sizeLine/\∀r,RelV v r->Q (cw H a (.dT (storedH xs k b r)))
def UM(hu:X.A.units+1<cLine):JJ X (YS X.K):=by
 rintro ae s σ H o i v ov iv u Q I ro ri rv ⟨a,b,xs,k,ex,ey,e1,e2,e3,e4,q⟩
 subst ex ey;cases ro;cases ri;exact T8 hu I e1 e2 e3 e4 λs4 I4=>⟨_,I4,q u rv⟩
end
end L2
namespace L2.U
open PySem PySem.Spec PyProof.Rows
abbrev MG:=az->List PV->Option (az×PV)
def qb(h:List az):PV->Option (Nat×az)
 | .ref n=>(h[n]?).bind λc=>if live c=true then some (n,c)else none
 | _=>none
def je(e:qb h p=some (n,c)):p=.ref n/\h[n]?=some c/\live c=true:=by
 cases p with
 | ref m =>
  obtain⟨d,e1,e2⟩:=aX e;obtain⟨hl,e3⟩:=aJ e2;cases e3;exact⟨rfl,e1,hl⟩
 | _=>cases e
def l0(g:MG)(p:PV)(as:List PV):Gx PV:=λst=>(qb st.h p).bind λc=>(g c.2 as).map λr=>(.ok r.2,⟨st.ρ,st.h.set c.1 r.1⟩)
section
variable {X:Cx} {aa H:Hp} {ab F:Fz} {st:cC} {σ:St}
def Dq(K:W.Frag)(r:V->List V->Hp->VK->Prop)(g:MG):Prop:=∀(aa H:Hp) (ab F:Fz) (st:cC) (σ:St) (n:Nat) (c c':az) (a:Addr) (as:List PV) (ws:List V) (q:PV) (Q:VK),
 Rep K aa ab F st σ H->st.h[n]?=some c->live c=true->F.μ[n]?=some a->g c as=some (c',q)->aE K F as ws->(∀v F' H',Rep K aa ab F' ⟨st.ρ,st.h.set n c'⟩ σ H'->Gr F F'->bN K F' q v->Q v H')->r (.ref a) ws H Q
def Rep.put(R:Rep X.K aa ab F st σ H){c d:az}(hc:st.h[n]?=some c)(hl:live c=true)(ha:F.μ[n]?=some a)(hn:kX X.K F.F (cw H a o) a true d.k vs)(hb:aE X.K F d.ps vs) :
  Rep X.K aa ab F ⟨st.ρ,st.h.set n d⟩ σ (cw H a o):=⟨R.c.write hc hl ha hn hb,R.l⟩
noncomputable def iK(f:List PV->List PV->Option (List PV)):MG:=λc as=>match c.k with
 | .lst=>(f c.ps as).map λqs=>(⟨.lst,qs⟩,.bQ)
 | _=>none
def xM
  (h:∀(H:Hp) (F:Fz) (ps as qs:List PV) (vs ws:List V) (a:Addr) (Q:VK) (h:List az),cK F.F H->f ps as=some qs->H a=some (.lst vs)->aE X.K F ps vs->aE X.K F as ws->(∀xt,aE X.K F qs xt->Q .bQ (cw H a (.lst xt)))->r (.ref a) ws H Q):Dq X.K r (iK f):=by
 intro aa H ab F st σ n c c' a as ws q Q R hc hl ha hg hb k;unfold iK at hg;split at hg
 ·rename_i hk;obtain⟨qs,e1,e2⟩:=bt hg;cases e2;obtain⟨_,vs,h2,h3⟩:=R.c.cell n c a hc ha hl;rw[hk]at h2;exact h H F c.ps as qs vs ws a Q st.h R.sub e1 h2 h3 hb λxt b'=>k _ F _ (R.put hc hl ha aD b') (Gr.refl _) (dH.mpr rfl)
 ·cases hg
def Al:List PV->List PV->Option (List PV):=λps as=>match as with | [p]=>if ps.length<f9 then some (ps++[p])else none | _=>none
def OF:Dq X.K EW (iK Al):=xM λH F ps as qs vs ws a Q h hs hf ha bp ba k=>by
 unfold Al at hf;split at hf
 ·obtain⟨hl,rfl⟩:=aJ hf;obtain⟨v,rfl,b⟩:=dZ ba;exact⟨a,vs,v,rfl,rfl,ha,by rw[<-bp.length];exact bY hl (fP (ao _)),k _ (bp.append ba)⟩
 ·cases hf
def OG:List PV->List PV->Option (List PV):=λps as=>match as with | []=>some ps.reverse | _=>none
def OH:Dq X.K zK (iK OG):=xM λH F ps as qs vs ws a Q h hs hf ha bp ba k=>by
 unfold OG at hf;split at hf
 ·cases hf;exact⟨a,vs,rfl,ba.cS,ha,k _ bp.reverse⟩
 ·cases hf
def Kw:List PV->List PV->Option (List PV):=λps as=>match as with
 | [.int i,p]=>if(0<=i/\i<=1000000/\ps.length<f9)then some (ps.take i.toNat++p::ps.drop i.toNat)else none
 | _=>none
def OI:Dq X.K Fd (iK Kw):=xM λH F ps as qs vs ws a Q h hs hf ha bp ba k=>by
 unfold Kw at hf;split at hf
 ·obtain⟨⟨h1,h2,h3⟩,rfl⟩:=aJ hf;obtain⟨w1,w2,rfl,b1,b2⟩:=mO ba;rw[aG.mp b1];exact⟨a,vs,_,w2,rfl,rfl,ha,bY (by rw[<-bp.length];exact h3) (fP (ao _)),h1,h2,k _ ((bp.take _).append (.cons b2 (bp.drop _)))⟩
 ·cases hf
def Am(p:PV)(as:List PV):Gx PV:=λst=>match as with
 | [q]=>(Dk st.h q).bind λrs=>l0 (iK λps _=>if ps.length+rs.length<=f9 then some (ps++rs)else none) p [] st
 | _=>none
def Hw:MG:=λc as=>match c.k,as with
 | .gR false ks,[kp,y]=>(jd false kp).bind λk=>if ks.length<f9 then(if lZ k ks=true then(jO k ks c.ps).map λp=>(c,p)else some (⟨.gR false (ks++[k]),c.ps++[y]⟩,y))else none
 | _,_=>none
def OJ:Dq X.K YN Hw:=by
 intro aa H ab F st σ n c c' a as ws q Q R hc hl ha hg hb k;unfold Hw at hg;split at hg
 ·rename_i ks kp y hk;obtain⟨kk,e1,e2⟩:=aX hg;obtain⟨hz,e2⟩:=bX e2;obtain⟨w1,w2,rfl,b1,b2⟩:=mO hb;obtain⟨j,rfl,rfl⟩:=kq e1 b1;obtain⟨_,vs,h2,h3⟩:=R.c.cell n c a hc ha hl;have YT:=h2;rw[hk]at h2;obtain⟨kvs,g1,g2,g3⟩:=h2;rw[<-g3]at h3;refine⟨a,kvs,j,w2,rfl,rfl,g1,(by
   have:ks.length=kvs.length:=by grind
   exact bY (by grind) (fP (ao _))),λv hv=>?_,λhv=>?_⟩
  ·rw[if_pos (by rw[<-g2,oz,hv];rfl)]at e2
   obtain⟨p,e3,e4⟩:=bt e2;cases e4;rw[<-g2]at e3;obtain⟨v',hv',bv⟩:=xG e3 h3;rw[hv]at hv';cases hv';have e:st.h.set n c=st.h:=by
    apply List.ext_getElem?;intro i;by_cases hi:n=i
    ·grind
    ·grind
   rw[e]at k;exact k v F H R (Gr.refl _) bv
  ·rw[if_neg (by rw[<-g2,oz,hv];simp)]at e2
   cases e2;refine k w2 F _ (R.put (vs:=kvs.map (·.2)++[w2]) hc hl ha ⟨kvs++[(j,w2)],aD,by grind⟩ ?_) (Gr.refl _) b2
   exact h3.append (.cons b2 .nil)
 ·cases hg
def Tx.mut(hg:Dq X.K r g)(h:Tx X aa ab (bN X.K) F st (l0 g p as) σ Q)(R:Rep X.K aa ab F st σ H)(bp:bN X.K F p v)(ba:aE X.K F as ws):r v ws H Q:=by
 obtain⟨q,h1,h2⟩:=h;obtain⟨⟨n,c⟩,e1,e2⟩:=aX h1;obtain⟨⟨c',x⟩,e3,e4⟩:=bt e2;subst e4;obtain⟨rfl,hc,hl⟩:=je e1;obtain⟨a,ha,rfl⟩:=dI.mp bp;exact hg aa H ab F st σ n c c' a as ws x Q R hc hl ha e3 ba λv F' H' R' g' b'=>h2 v H' F' R' g' b'
def Tx.ext{Q:VK}(h:Tx X aa ab (bN X.K) F st (Am p as) σ Q)(R:Rep X.K aa ab F st σ H)(bp:bN X.K F p v)(ba:aE X.K F as ws):UJ X.K v ws H Q:=by
 obtain⟨x,h1,h2⟩:=h;unfold Am at h1;split at h1
 ·rename_i q;obtain⟨rs,e0,h1⟩:=aX h1;obtain⟨w,rfl,bw⟩:=dZ ba;obtain⟨b,zs,rfl,hs,hb⟩:=R.seq e0 bw;obtain⟨⟨n,c⟩,e1,e2⟩:=aX h1;obtain⟨⟨c',y⟩,e3,e4⟩:=bt e2;subst e4;obtain⟨rfl,hc,hl⟩:=je e1;obtain⟨a,ha,rfl⟩:=dI.mp bp;unfold iK at e3;split at e3
  ·rename_i hk;obtain⟨qs,e5,e6⟩:=bt e3;cases e6;obtain⟨hz,rfl⟩:=aJ e5;obtain⟨_,vs,g2,g3⟩:=R.c.cell n c a hc ha hl;rw[hk]at g2;exact⟨a,b,vs,zs,rfl,rfl,g2,hs,by rw[<-g3.length,<-hb.length];exact fP hz,h2 .bQ _ F (R.put hc hl ha aD (g3.append hb)) (Gr.refl _) (dH.mpr rfl)⟩
  ·cases e3
 ·cases h1
end
section
variable {prog:Program} {w:World} {A:Around} {R:Result->Shared->Prop} {s:Shared}
abbrev nb(prog:Program)(w:World)(A:Around)(env:Env)(R:Result->Shared->Prop):Value->Shared->Prop:=notedBy (model prog w) A env λe s'=>R (.error e) s'
noncomputable abbrev Fg(ifs:List Expr)(env:Env):Sem Bool:=forIn ifs true λc r=>if r=true then do let ok <-isTrue c env (eval c env);pure (ForInStep.yield ok)else pure (ForInStep.yield r)
def Hx(I:Nat->Shared->Prop)
  (lU:∀n s,I n s->wpAny (model prog w) A (pyNext it) (λr s1=>match r with
   | none=>R (.ok .next) s1
   | some v=>wpAny (model prog w) A (letOwnedTupleGo tg it v) (λ_ YU=>wpAny (model prog w) A (assign tg env v) (λ_ s2=>wpAny (model prog w) A (Fg ifs env) (λok s3 =>
      if ok=true then wpAny (model prog w) A (eval elt env) (λx s4=>wpAny (model prog w) A (call (.builtin "list.append") [acc,x]) (λ_ s5=>∃m,m<n/\I m s5) (nb prog w A env R) s4) (nb prog w A env R) s3
      else ∃m,m<n/\I m s3) (nb prog w A env R) s2) (nb prog w A env R) YU) (nb prog w A env R) s1) (nb prog w A env R) s)
  (n:Nat) (h:I n s):codeAny (model prog w) A (.compLoop (.ListComp elt [⟨tg,iter,ifs,0⟩] scope pos) 0 it acc env) R s:=by
 refine codeAny_loop rfl I (λn s hI=>?_) n h
 refine wpAny_noted ?_;rw[compTurn_list];refine af (wpAny_standAt (af (thn (lU n s hI) λr s1 h1=>?_)))
 cases r with
 | none=>exact aj h1
 | some v =>
  refine af (thn h1 λ_ YU h1'=>af (thn h1' λ_ s2 h2=>af (thn h2 λok s3 h3=>?_)))
  cases ok with
  | false=>exact aj ⟨rfl,h3⟩
  | true=>exact af (af (thn h3 λx s4 h4=>af (thn h4 λ_ s5 h5=>aj (aj ⟨rfl,h5⟩))))
end
noncomputable def kr(env:Env):List (Str×NameKind)->List (Str×Addr)->List (Str×Addr)
 | [],cs=>cs
 | (n,k)::r,cs=>kr env r (if k==.free then(match env.cells.lookup n with | some c=>(n,c)::cs | none=>cs)else cs)
def sF(h:∀y∈scope.names,y.2=.free->∃c,env.cells.lookup y.1=some c):closureFor scope env=pure (kr env scope.names []):=by
 have all:∀(l:List (Str×NameKind)) (cs:List (Str×Addr)),(∀y∈l,y.2=.free->∃c,env.cells.lookup y.1=some c) ->
   (forIn l cs λx r=>(match x with | (name,kind)=>if(kind==NameKind.free)=true then do let a <-cellOf env name;pure (ForInStep.yield ((name,a)::r))else pure (ForInStep.yield r):Sem (ForInStep (List (Str×Addr)))))=pure (kr env l cs):=by
  intro l;induction l with
  | nil=>intro cs _;rfl
  | cons y l ih =>
   intro cs hl;obtain⟨n,k⟩:=y;rw[List.forIn_cons];by_cases hk:k=.free
   ·subst hk;obtain⟨c,hc⟩:=hl (n,.free) aN rfl;have EK:=hc;have e1:cellOf env n=pure c:=by unfold cellOf;rw[EK]
    simp only[e1,kr,EK];exact ih _ λy hy=>hl y (aK _ hy)
   ·have hb:(k==NameKind.free)=false:=by simpa using hk
    simp only[hb,kr];exact ih _ λy hy=>hl y (aK _ hy)
 unfold closureFor;have:=all scope.names [] h;simp only[bind_pure]at this ⊢;exact this
theorem An:∀(l:List (Str×NameKind)) (cs:List (Str×Addr)) (p:Str×Addr),p∈kr env l cs->p∈cs\/env.cells.lookup p.1=some p.2
 | [],_,_,h=>.inl h
 | (n,k)::r,cs,p,h=>by
  unfold kr at h;rcases An r _ p h with q | q
  ·grind
  ·grind
def cb(h:(kr env l []).lookup x=some c):env.cells.lookup x=some c:=by
 rcases An l [] (x,c) (eH h)with q | q
 ·cases q
 ·exact q
theorem vm:∀(l:List (Str×NameKind)) (cs:List (Str×Addr)),(∃c,(x,c)∈cs)->∃c,(x,c)∈kr env l cs
 | [],_,h=>h
 | (n,k)::r,cs,⟨c,h⟩=>by
  unfold kr;refine vm r _ ⟨c,?_⟩;split
  ·grind
  ·exact h
theorem ku:∀(l:List (Str×NameKind)) (cs:List (Str×Addr)),(x,NameKind.free)∈l->(∃c,env.cells.lookup x=some c)->∃c,(x,c)∈kr env l cs
 | [],_,h,_=>by cases h
 | (n,k)::r,cs,h,hc=>by
  unfold kr;rcases aU.mp h with z | z
  ·cases z;obtain⟨c,e⟩:=hc;refine vm r _ ⟨c,?_⟩;simp[e]
  ·exact ku r _ z hc
theorem iM:∀{l:List (Str×Addr)},(x,c)∈l->∃c',l.lookup x=some c'
 | [],h=>by cases h
 | (n,d)::r,h=>by
  rw[j8];cases hx:x==n with
  | true=>exact⟨d,rfl⟩
  | false =>
   rcases aU.mp h with z | z
   ·grind
   ·exact iM z
def cJ(X:Cx)(N:List Str)(scope:Scope)(C:Addr)(s:Shared)(H:Hp)(fp:List Addr):Cx where
 prog:=X.prog
 w:=X.w
 K:=X.K
 mg:=X.mg
 base:=X.base
 A:=X.A
 N:=N
 s₀:=s
 aa:=H
 env:=compEnvC scope (kr X.env scope.names []) C X.env
 aA:=X.stack
 stack:=X.stack
 ex:=fp
 fn:=λ_=>false
 calm:=X.calm
 pn:=[]
 xe:=λ_ _=>False
theorem hV{env:Env}:∀(names:List (Str×NameKind)) (x:Str),(names.map fun(n,k)=>if(k==NameKind.free&&env.scope.kind==.function&&env.kindOf n==some .cell)then(n,NameKind.cell)else(n,k)).lookup x =
  (names.lookup x).map λk=>if(k==NameKind.free&&env.scope.kind==.function&&env.kindOf x==some .cell)then NameKind.cell else k
 | [],_=>rfl
 | (n,j)::r,x=>by
  have e:(if(j==NameKind.free&&env.scope.kind==.function&&env.kindOf n==some .cell)=true then(n,NameKind.cell)else(n,j))=(n,if(j==NameKind.free&&env.scope.kind==.function&&env.kindOf n==some .cell)=true then NameKind.cell else j):=by split<;>rfl
  show List.lookup x ((if(j==NameKind.free&&env.scope.kind==.function&&env.kindOf n==some .cell)=true then(n,NameKind.cell)else(n,j))::_)=_
  rw[e,j8,j8];cases hx:x==n with
  | true =>
   have Dj:=bj hx;subst Dj;rfl
  | false=>exact hV r x
def mU{env:Env}{names:List (Str×NameKind)}(h:(names.map fun(n,k)=>if(k==NameKind.free&&env.scope.kind==.function&&env.kindOf n==some .cell)then(n,NameKind.cell)else(n,k)).lookup x=some k) :
  names.lookup x=some k\/(k=.cell/\names.lookup x=some .free):=by
 rw[hV]at h;cases z:names.lookup x with
 | none=>rw[z]at h;cases h
 | some j =>
  rw[z]at h;have h:(if(j==NameKind.free&&env.scope.kind==.function&&env.kindOf x==some .cell)=true then NameKind.cell else j)=k:=by grind
  split at h
  ·grind
  ·grind
def xN{env:Env}{names:List (Str×NameKind)}(h:names.lookup x=some .free) :
  (names.map fun(n,k)=>if(k==NameKind.free&&env.scope.kind==.function&&env.kindOf n==some .cell)then(n,NameKind.cell)else(n,k)).lookup x=some .cell \/
  (names.map fun(n,k)=>if(k==NameKind.free&&env.scope.kind==.function&&env.kindOf n==some .cell)then(n,NameKind.cell)else(n,k)).lookup x=some .free:=by
 rw[hV,h];show some (if _ then _ else _)=_\/some (if _ then _ else _)=_
 split
 ·grind
 ·grind
structure jf (X:Cx) (N:List Str) (link:List (Option Nat)) (scope:Scope):Prop where
 kind:scope.kind=.function
 cell:∀y∈scope.names,y.2≠.cell
 names:∀y∈scope.names,y.2=.local->scope.names.lookup y.1=some .local
 free:∀y∈scope.names,y.2=.free->(X.env.kindOf y.1=some .cell\/X.env.kindOf y.1=some .free)
 len:link.length=N.length
 link:∀(i j:Nat) (x:Str),link[i]?=some (some j)->N[i]?=some x->X.N[j]?=some x/\scope.names.lookup x=some .free
noncomputable def gL(link:List (Option Nat))(σ:St):St:=link.map λo=>o.bind λj=>(σ[j]?).join
section
variable {X:Cx} {ae:List (Addr×Obj)} {σ:St} {H:Hp} {s:Shared}
def Inv.adopt(I:Inv X ae σ H s)(hn:H D=none)(h1:X.s₀.heap.objs.size<=D)(h2:D≠X.env.locals)(h3:∀x c,X.env.cells.lookup x=some c->c≠D)(h4:∀p∈X.pn++ae,p.1≠D)
  (ho:fZ X.prog X.w (cw H D o) s.heap D o):Inv X ae σ (cw H D o) s:=by
 have ne:∀b u,H b=some u->b≠D:=λb u e z=>by rw[z,hn]at e;cases e
 refine I.step (ch:=[D]) (λb hb=>?_) (λb u _ _ _ e _=>e) (λb u _ _ _ e _=>⟨u.slots,e⟩) (λb u hc _ n=>?_) (λb u _ e=>⟨u,e⟩)
  (λb xs e=>by rw[aI (ne b _ e)];exact e) (λb u xs e=>by rw[aI (ne b _ e)];exact e) (λb ps e=>by rw[aI (ne b _ e)];exact e) (λm hm=>hm) (λb u e=>?_) I.bare
 ·have e:b=D:=by simpa using hb
  subst e;exact⟨.inr h1,h2,h3,h4⟩
 ·rw[aI (λz=>hc (by simp[z]))];exact n
 ·by_cases hb:b=D
  ·subst hb;rw[aD]at e;cases e;exact ho
  ·rw[aI hb]at e;exact(I.hok b u e).w5 (λ_ _ _ q=>q) (λc q=>by rw[aI (ne c _ q)];exact q) (λc xs q=>by rw[aI (ne c _ q)];exact q) λc ob v q=>by rw[aI (ne c _ q)];exact q
def Dr{N:List Str}{link:List (Option Nat)}(S:jf X N link scope)(I:Inv X ae σ H s)(hfp:∀b∈fp,xc X ae H b)
  (hC:s.heap.objs.size<=C) (ns:h.Ns C λ_=>none) (hk:∀b o,s.heap.get? b=some o->h.get? b=some o) (hex:∀b∈fp,∃o,s.heap.get? b=some o) :
  Inv (cJ X N scope C s H fp) [] (gL link σ) H {s with heap:=h,toks:=tk}:=by
 have zB:∀y∈scope.names,y.2=.free->∃c,X.env.cells.lookup y.1=some c:=λy hy hf=>I.ok.has y.1 (S.free y hy hf)
 have ac4:∀x c,X.env.cells.lookup x=some c->c<s.heap.objs.size:=λx c e=>let ⟨v,o,ho,_⟩:=I.cell x c e;aV ho
 refine⟨⟨I.ok.mod,S.kind,I.ok.glob,I.ok.blt,hC,λx y c h1 h2=>I.ok.inj x y c (cb h1) (cb h2),λx hx=>?_,λx c hx=>(by cases hx),I.ok.hd,I.ok.frames,.inl rfl,λb hb=>⟨?_,λx c e=>(hfp b hb).2.2.2.2.1 x c (cb e)⟩,I.bs,bE I.ok.bsz I.sz,
  λb o e hb=>?_,λb hb z=>?_,I.stack,I.w9,I.tabs⟩,rfl,I.bare,Un.kept hk,⟨_,ns,λi x v e1 e2 e3=>?_⟩,λx c e=>?_,I.hok.fresh hC,λx c e=>I.freeC x c (cb e),λp hp=>(by cases hp),I.hok.kept hk,by unfold gL;rw[ak];exact S.len⟩
 ·-- QI cells are there
  have Dj:=hx;have hf:scope.names.lookup x=some .free:=by
   rcases Dj with h1 | h1
   ·rcases mU h1 with q | ⟨_,q⟩
    ·exact absurd rfl (S.cell _ (eH q))
    ·exact q
   ·rcases mU h1 with q | ⟨z,_⟩
    ·exact q
    ·cases z
  have hm:=eH hf;obtain⟨c,hc⟩:=ku scope.names [] hm (zB _ hm rfl);exact iM hc
 ·intro z;obtain⟨o,ho⟩:=hex b hb;exact absurd (bY (aV ho) (bE hC (gF z.symm))) (gE _)
 ·rcases(hfp b hb).2.2.2.1 with z | z
  ·exact I.ok.noex b o e z
  ·exact absurd (bY (aV e) (bE I.ok.bsz z)) (gE _)
 ·rcases aU.mp (I.w6 b z)with q | q
  ·exact(hfp b hb).2.1 q
  ·exact(hfp b hb).2.2.1 q
 ·-- a slot: aeW ag6 from QI ac5
  have hi:i<link.length:=by
   have:=(cf.mp e2).1;unfold gL at this
   rwa [ak]at this
  unfold gL at e2;rw[bR,cO hi]at e2;have e2:=cH e2;cases z:link[i]with
  | none=>rw[z]at e2;cases e2
  | some j =>
   rw[z]at e2;have e2:(σ[j]?).join=some v:=e2;obtain⟨hX,hf⟩:=S.link i j x (by rw[cO hi,z]) e1
   have hm:=eH hf;have hk2:=S.free _ hm rfl;obtain⟨m,hn,hl⟩:=I.loc;obtain⟨u,r,l⟩:=hl j x v hX (by
    cases q:σ[j]? with
    | none=>rw[q]at e2;cases e2
    | some q'=>rw[q]at e2;cases q' with
     | none=>cases e2
     | some v'=>cases e2;rfl) (by rcases hk2 with q | q;exact .inr (.inl q);exact .inr (.inr q))
   refine⟨u,r,.inr ⟨xN hf,?_⟩⟩;obtain⟨c,hc⟩:=ku scope.names [] hm (zB _ hm rfl);obtain⟨c',EK⟩:=iM hc;refine⟨c',EK,?_⟩;rcases l with⟨lk,_⟩ | ⟨_,d,hd,ki⟩
   ·rcases hk2 with q | q<;>(rw[show X.env.kindOf x=some .local from lk]at q;cases q)
   ·have:=cb EK;rw[hd]at this;cases this;exact ki.keeps hk
 ·obtain⟨v,o,ho,hd⟩:=I.cell x c (cb e);exact⟨v,o,hk _ _ ho,hd⟩
end
abbrev TB:=V->St->Hp->(Option V->St->Hp->Prop)->Prop
def PB(X:Cx)(tg:Expr)(ifs:List Expr)(elt:Expr)(tb:TB):Prop :=
 ∀(ae:List (Addr×Obj)) (s:Shared) (σ:St) (H:Hp) (v:V) (u:Value) (Q:Option V->St->Hp->Prop),Inv X ae σ H s->RelV v u->tb v σ H Q ->
  wpAny (model X.prog X.w) X.A (assign tg X.env u) (λ_ s2=>wpAny (model X.prog X.w) X.A (Fg ifs X.env) (λok s3 =>
   if ok=true then wpAny (model X.prog X.w) X.A (eval elt X.env) (λy s4=>∃v' bH H',Inv X ae bH H' s4/\RelV v' y/\Q (some v') bH H') X.xe s3
   else ∃bH H',Inv X ae bH H' s3/\Q none bH H') X.xe s2) X.xe s
def Kx(hg:PG X tg g)(he:PE X elt te):PB X tg [] elt (λv σ H Q=>g v σ H λjx H1=>te jx H1 λy H2=>Q (some y) jx H2):=by
 intro ae s σ H v u Q I r h;refine thn (hg ae s σ H v u _ I r h) λ_ s2 ⟨jx,H1,I1,q1⟩=>aj ?_
 rw[if_pos rfl];exact thn (he ae s2 jx H1 _ I1 q1) (by rintro y s4 ⟨v',H2,I2,r2,q2⟩;exact⟨v',jx,H2,I2,r2,q2⟩)
def OK(hg:PG X tg g)(hc:PT X c tc)(he:PE X elt te) :
  PB X tg [c] elt (λv σ H Q=>g v σ H λjx H1=>tc jx H1 λb H2=>if b=true then te jx H2 λy H3=>Q (some y) jx H3 else Q none jx H2):=by
 intro ae s σ H v u Q I r h;refine thn (hg ae s σ H v u _ I r h) λ_ s2 ⟨jx,H1,I1,q1⟩=>?_
 refine wpAny_tests_one (thn (hc ae s2 jx H1 _ I1 q1) λb s3 ⟨H2,I2,q2⟩=>?_)
 cases b with
 | true =>
  rw[if_pos rfl]at q2 ⊢;exact thn (he ae s3 jx H2 _ I2 q2) (by rintro y s4 ⟨v',H3,I3,r3,q3⟩;exact⟨v',jx,H3,I3,r3,q3⟩)
 | false =>
  rw[if_neg d9]at q2 ⊢;exact⟨jx,H2,I2,q2⟩
def vn(link:List (Option Nat))(wi:TI)(tb:TB):TE:=λσ H Q=>wi σ H λJ H1=>∃W:Nat->Nat->List V->St->Hp->Prop,(∃m,W 0 m [] (gL link σ) H1)/\∀i m acc bH H',W i m acc bH H' ->
 (J.stop i H'/\acc.length<=sizeLine/\∀D,H' D=none->Q (.ref D) (cw H' D (.lst acc))) \/
 (J.go i H'/\acc.length<sizeLine/\∀x H2,J.yld i H' x H2->tb x bH H2 λo oZ H3=>∃m',m'<m/\W (i+1) m' (acc++o.toList) oZ H3)
structure ac6 (X:Cx) (ae:List (Addr×Obj)) (H:Hp) (C:Addr):Prop where
 free:H C=none
 above:X.s₀.heap.objs.size<=C
 loc:C≠X.env.locals
 cell:∀x c,X.env.cells.lookup x=some c->c≠C
 pin:∀p∈X.pn++ae,p.1≠C
def vo(hc:X.calm=true)(S:jf X N link scope)(hi:PI X tg iter wi)
  (hb:∀(C:Addr) (s:Shared) (H:Hp) (fp:List Addr),PB (cJ X N scope C s H fp) tg ifs elt tb) (hs:∀x,foldedSetIterable iter X.env x=pure x) (I:Inv X ae σ H s) (h:vn link wi tb σ H Q)
  (ac7:∀(s5:Shared) (D C:Addr) (H5:Hp) (m:Str->Option Value),Inv X ae σ H5 s5->Q (.ref D) H5->s5.heap.Ns C m->ac6 X ae H5 C->compPost (model X.prog X.w) X.A X.xe use Q' (.ref D) C (.ok .next) s5) :
  wpAny (model X.prog X.w) X.A (comprehension (.ListComp elt [⟨tg,iter,ifs,0⟩] scope pos) scope X.env uv (newList []) false (eval iter X.env) use) Q' X.xe s:=by
 have zB:∀y∈scope.names,y.2=.free->∃c,X.env.cells.lookup y.1=some c:=λy hy hf=>I.ok.has y.1 (S.free y hy hf)
 refine wpAny_comprehension_free rfl hs (sF zB) S.kind S.names (thn (hi ae s σ H _ I h) λv s1 h1=>thn h1 λitv s2 h2=>?_)
 obtain⟨it,fp,tn,J,H2,rfl,I2,T,st2,f2,W,⟨m0,w0⟩,lU⟩:=h2;refine iE (wpAny_newFunctionEnv S.cell (by grind) (λHf ns sb=>?_) S.kind)
 dsimp only at ns sb ⊢
 generalize hD:s2.heap.push {cls:=.type "list",dict:=none,data:=.seq [].toArray}=HD at ns sb ⊢
 have hC:HD.objs.size=s2.heap.objs.size+1:=by rw[<-hD,nY]
 have hDC:s2.heap.objs.size≠HD.objs.size:=by grind
 have Ky:s2.heap.objs.size<=HD.objs.size:=by grind
 have old:∀b o,s2.heap.get? b=some o->Hf.get? b=some o:=λb o e=>by
  have fO:=aV e;exact sb.extBut b o (bG (bY fO Ky)) (aZ _ (by rw[<-hD];exact aZ _ e))
 have ac8:Hf.get? s2.heap.objs.size=some {cls:=.type "list",data:=.seq [].toArray} :=
  sb.extBut _ _ hDC (aZ _ (by rw[<-hD];exact cB _ rfl))
 generalize eD:s2.heap.objs.size=D at *
 generalize eC:HD.objs.size=C at *
 have exO:∀b∈fp,∃o,s2.heap.get? b=some o:=λb jN=>let ⟨o,e,_⟩:=T.obj _ _ st2 b jN;⟨o,e⟩
 have I3:∀tk,Inv (cJ X N scope C s2 H2 fp) [] (gL link σ) H2 {s2 with heap:=Hf,toks:=tk}:=λtk =>
  Dr S I2 f2 (by rw[eD];exact Ky) ns old exO
 have fpD:∀b∈fp,b≠D:=λb jN z=>by
  obtain⟨o,e⟩:=exO b jN;have:=aV e;rw[z,<-eD]at this;exact gE _ this
 have CN:∀{H':Hp} {pl:List (Addr×Obj)},(∀b∈fp,H' b=none)->(∀p∈pl,p.1=D)->∀b∈fp,xc (cJ X N scope C s2 H2 fp) pl H' b:=λ{H' pl} hn hp b jN=>by
  have K0:=(I3 0).ok.exf b jN;exact⟨hn b jN,K0.1,(I3 0).ok.exfs b jN,.inl jN,K0.2,λp De z=>fpD b jN (z▸hp p (by simpa[cJ]using De))⟩
 have YV:∀x c,(cJ X N scope C s2 H2 fp).env.cells.lookup x=some c->c≠D:=λx c e z=>by
  obtain⟨v,o,ho,_⟩:=I2.cell x c (cb e);have:=aV ho;rw[z,<-eD]at this;exact gE _ this
 have fsD:D∉(cJ X N scope C s2 H2 fp).fs:=λz=>by
  obtain⟨_,o,ho,_⟩:=I2.stack.mem z;have:=aV ho;rw[<-eD]at this;exact gE _ this
 have loop:∀s3:Shared,s3={s2 with heap:=Hf,toks:=s2.toks+([]:List (Str×Value)).length} ->
   codeAny (model X.prog X.w) X.A (.compLoop (.ListComp elt [⟨tg,iter,ifs,0⟩] scope pos) 0 (.ref it) (.ref D) (cJ X N scope C s2 H2 fp).env) (compPost (model X.prog X.w) X.A X.xe use Q' (.ref D) C) s3:=by
  rintro s3 rfl
  refine Hx (λn s'=>∃i acc bH H' aH nn,Inv (cJ X N scope C s2 H2 fp) [] bH H' s'/\tn i s'.heap/\(∀b∈fp,H' b=none)/\H' D=none/\s'.heap.get? D=some {cls:=.type "list",data:=.seq aH.toArray nn}/\Vals acc aH/\W i n acc bH H') ?_ m0
   ⟨0,[],_,H2,[],0,I3 _,T.keep _ _ _ st2 λb jN o e=>old b o e,λb jN=>(f2 b jN).1,I2.hok.fresh (gF eD),ac8,.nil,w0⟩
  rintro n s4 ⟨i,acc,Oo,H4,aH,nn,I4,jW,fr4,hD4,J6,hv,w4⟩
  have YW:Inv (cJ X N scope C s2 H2 fp) [(D,{cls:=.type "list",data:=.seq aH.toArray nn})] Oo H4 s4:=I4.mx λp hp=>by
   have e:p=(D,{cls:=.type "list",data:=.seq aH.toArray nn}):=by simpa using hp
   subst e;exact⟨J6,hD4,hDC,fsD,λv=>by simp⟩
  have Kz:∀p∈[(D,({cls:=.type "list",data:=.seq aH.toArray nn}:Obj))],p.1=D:=λp hp=>by
   have e:p=(D,{cls:=.type "list",data:=.seq aH.toArray nn}):=by simpa using hp
   rw[e]
  rcases lU i n acc Oo H4 w4 with⟨stop,hz,q⟩ | ⟨go,hz,step⟩
  ·refine thn (T.done (cJ X N scope C s2 H2 fp) rfl rfl rfl hc i _ s4 Oo H4 _ YW (CN fr4 Kz) jW stop) λr s5 ⟨hr,I5⟩=>?_
   subst hr;obtain⟨m,hn,_⟩:=I5.loc;have pD:=I5.pin (D,{cls:=.type "list",data:=.seq aH.toArray nn}) (dD _ (bC.mpr rfl))
   have lt2:∀b o,s2.heap.get? b=some o->b≠D/\b≠C:=λb o e=>by
    have:=aV e;rw[eD]at this;exact⟨bG this,bG (bY this Ky)⟩
   have Rl:X.env.locals≠D/\X.env.locals≠C:=by
    have:=I2.lt;rw[eD]at this;exact⟨bG this,bG (bY this Ky)⟩
   have I6:=I2.QO I5.os I5.base I5.hok I5.bare λb jN=>⟨(f2 b jN).2.2.2.1,(f2 b jN).2.1,(f2 b jN).2.2.2.2.1,(f2 b jN).2.2.2.2.2⟩
   have I7:=Inv.adopt (o:=.lst acc) I6 pD.2.1 (bE I2.sz (gF eD)) (dn Rl.1) (λx c e=>let ⟨v,o,ho,_⟩:=I2.cell x c e;(lt2 c o ho).1)
    (λp hp=>(lt2 p.1 p.2 (I2.pin p hp).1).1) ⟨hz,aH,nn,hv,pD.1⟩
   exact ac7 s5 D C _ m I7 (q D pD.2.1) hn ⟨by rw[aI (dn hDC)];exact I5.free,bE (bE I2.sz (gF eD)) Ky,dn Rl.2,λx c e=>let ⟨v,o,ho,_⟩:=I2.cell x c e;(lt2 c o ho).2,λp hp=>(lt2 p.1 p.2 (I2.pin p hp).1).2⟩
  ·refine thn (T.item (cJ X N scope C s2 H2 fp) rfl rfl rfl hc i _ s4 Oo H4 _ YW (CN fr4 Kz) jW go) λr s5 ⟨u,hr,h5⟩=>?_
   subst hr;refine thn h5 λ_ s5' z9=>?_
   obtain⟨x,H5,I5,r5,y5,Th,fr5⟩:=z9;have I5':=I5.pinned (CN fr5 Kz) (T.obj _ _ Th);have fin:∀{o:Option V} {σ6:St} {H6:Hp} {s6:Shared},Inv (cJ X N scope C s2 H2 fp) ([(D,{cls:=.type "list",data:=.seq aH.toArray nn})]++rO fp s5'.heap) σ6 H6 s6 ->
     tn (i+1) s6.heap/\(∀b∈fp,H6 b=none)/\H6 D=none/\s6.heap.get? D=some {cls:=.type "list",data:=.seq aH.toArray nn}:=λ{o σ6 H6 s6} I6=>by
    have pD:=I6.pin (D,_) (dD _ (iB _ (bC.mpr rfl)));refine⟨T.keep _ _ _ Th λb jN o e=>(I6.pin (b,o) (dD _ (dD _ (jy jN e)))).1,λb jN=>?_,pD.2.1,pD.1⟩
    obtain⟨o,e,d⟩:=T.obj _ _ Th b jN;exact(I6.pin (b,o) (dD _ (dD _ (jy jN e)))).2.1
   refine js (hb C s2 H2 fp _ s5' Oo H5 x u _ I5' r5 (step x H5 y5)) (λ_ s6 h6=>js h6 (λok s7 h7=>?_) λ_ _ z=>False.elim z) λ_ _ z=>False.elim z
   cases ok with
   | false =>
    rw[if_neg d9]at h7 ⊢;obtain⟨σ8,H8,I8,m',hm',w8⟩:=h7;obtain⟨a1,a2,a3,a4⟩:=fin (o:=none) I8;exact⟨m',hm',i+1,_,σ8,H8,aH,nn,I8.mx (λp hp=>by cases hp),a1,a2,a3,a4,by simpa using hv,w8⟩
   | true =>
    rw[if_pos rfl]at h7 ⊢;refine js h7 (λy s8 z9=>?_) λ_ _ z=>False.elim z
    obtain⟨v8,σ8,H8,I8,r8,m',hm',w8⟩:=z9;obtain⟨a1,a2,a3,a4⟩:=fin (o:=some v8) I8;have hl:=hv.length;refine lR F.slot_list_append ⟨_,a4,rfl⟩ F.entry_list_append (F.args_list_append_2 _ _) (PySem.list_append D aH.toArray nn y (by rw[e9];lia)) ⟨a4,?_⟩
    have I9:Inv (cJ X N scope C s2 H2 fp) [] σ8 H8 s8:=I8.mx (λp hp=>by cases hp)
    have qq:=PySem.IsL.update a4 λz=>z.push y
    have hp:aH.toArray.push y=(aH++[y]).toArray:=by simp
    rw[hp]at qq;refine⟨m',hm',i+1,_,σ8,H8,aH++[y],_,I9.turned (λb o hne e=>(wm _ _ (dn hne)).trans e) a3 hDC (.inr (gF eD)) YV (λp hp=>by simp[cJ]at hp),T.keep _ _ _ a1 λb jN o e=>(wm _ _ (dn (fpD b jN))).trans e,a2,a3,qq,hv.append (.cons r8 .nil),w8⟩
 exact codeAny_compStart_list (loop _ rfl) (T.self _ 0 _ _ _ (T.keep _ _ _ st2 λb jN o e=>old b o e) (loop _ rfl))
def Fh(hc:X.calm=true)(S:jf X N link scope)(hi:PI X tg iter wi)
  (hb:∀(C:Addr) (s:Shared) (H:Hp) (fp:List Addr),PB (cJ X N scope C s H fp) tg ifs elt tb) (hs:∀x,foldedSetIterable iter X.env x=pure x:=by intro _;rfl) :
  PE X (.ListComp elt [⟨tg,iter,ifs,0⟩] scope pos) (vn link wi tb):=by
 intro ae s σ H Q I h;rw[eval_ListComp];refine vo hc S hi hb hs I h λs5 D C H5 m I5 q hn L=>⟨m,hn,λh' sb=>?_⟩
 exact⟨.ref D,H5,I5.turned (λb o hne e=>(sb.2 b hne).trans e) L.free L.loc (.inr L.above) L.cell L.pin,rfl,q⟩
def Fi(hc:X.calm=true)(hN:X.N.Nodup)(hx:X.N[i]?=some x)(hl:X.env.scope.names.lookup x=some .local)(S:jf X N link scope)(hi:PI X tg iter wi)
  (hb:∀(C:Addr) (s:Shared) (H:Hp) (fp:List Addr),PB (cJ X N scope C s H fp) tg ifs elt tb) (hw:swapsWith (.ListComp elt [⟨tg,iter,ifs,0⟩] scope pos) (some (.Name x uv)) Hy.line X.env=pure true) (hs:∀x,foldedSetIterable iter X.env x=pure x:=by intro _;rfl) :
  PS X (.Assign [.Name x uv] (.ListComp elt [⟨tg,iter,ifs,0⟩] scope pos) Hy) (NC (vn link wi tb) (gName i)):=by
 intro ae s σ H D I h;rw[exec_Assign_Name_used _ _ _ _ hw];refine af (wpAny_standAt (af ?_));refine af (thn (vo hc S hi hb hs I h λs5 a C H5 m I5 q hn L=>?_) λ_ s' q=>aj (aj q))
 refine wpAny_assign_Name (store_ok2 (v:=.ref a) I5 hN hx (.inl hl) rfl (λs6 I6 k=>?_) (.inr hl))
 refine⟨m,?_,λh' sb=>?_⟩
 ·obtain⟨o,es,ep,ho,r⟩:=hn;obtain⟨b,sb1,hor⟩:=k;have ne:C≠b:=λz=>by
   rcases hor with w | w
   ·exact L.loc (z.trans w)
   ·exact L.cell x b w z.symm
  exact⟨o,es,ep,(sb1.2 C ne).trans ho,r⟩
 ·exact⟨_,H5,I6.turned (λb o hne e=>(sb.2 b hne).trans e) L.free L.loc (.inr L.above) L.cell L.pin,q⟩
noncomputable def bO(link:List (Option Nat))(ρ:List (Option PV)):List (Option PV):=link.map λo=>o.bind λj=>(ρ[j]?).join
def KG(L:List Nat)(g:Tg):Prop:=∀p st br,g p st=some br->br.ρ.length=st.ρ.length/\∀j:Nat,j∉L->br.ρ[j]?=st.ρ[j]?
def YX(L:List Nat)(g:WV):Prop:=∀p st br,g p st=some br->br.ρ.length=st.ρ.length/\∀j:Nat,j∉L->br.ρ[j]?=st.ρ[j]?
def OL(i:Nat):KG [i] (aR i):=λp st br h=>by
 obtain⟨_,rfl⟩:=aJ h;exact⟨rh,λj hj=>j4 (λz=>hj (by simp[z]))⟩
def OM:YX [] pZ:=λp st br h=>by
 cases p with
 | nil=>cases h;exact⟨rfl,λ_ _=>rfl⟩
 | cons _ _=>cases h
def KA(h1:KG L g)(h2:YX M r):YX (L++M) (dt g r):=λp st br h=>by
 cases p with
 | nil=>cases h
 | cons p ps =>
  obtain⟨st2,e1,e2⟩:=aX h;obtain⟨l1,k1⟩:=h1 p st st2 e1;obtain⟨l2,k2⟩:=h2 ps st2 br e2;exact⟨l2.trans l1,λj hj=>(k2 j λz=>hj (dD _ z)).trans (k1 j λz=>hj (iB _ z))⟩
def UN(h:YX L r):KG L (jB n r):=λp st br e=>by
 unfold jB at e;split at e
 ·obtain⟨_,e⟩:=bX e;exact h _ st br e
 ·cases e
section
variable {K:W.Frag} {F:Fz} {ρ:List (Option PV)} {σ:St}
def Lc.gL(L:Lc K F ρ σ)(link:List (Option Nat)):Lc K F (bO link ρ) (gL link σ) where
 av:=λi p e=>by
  unfold bO at e;rw[bR]at e;cases z:link[i]? with
  | none=>rw[z]at e;cases e
  | some o =>
   rw[z]at e;cases o with
   | none=>cases e
   | some j =>
    have e:(ρ[j]?).join=some p:=cH e;cases w:ρ[j]? with
    | none=>rw[w]at e;cases e
    | some q =>
     rw[w]at e;cases e;obtain⟨v,h1,h2⟩:=L.av j p w;refine⟨v,?_,h2⟩;unfold L2.U.gL;rw[bR,z];show some ((σ[j]?).join)=_;rw[h1];rfl
 len:=by unfold bO L2.U.gL;rw[ak,ak]
def Lc.back{L:List Nat}(R:Lc K F sH σ)(hl:ON.length=σ.length)(h0:ON=bO link ρ)(hk:∀j:Nat,j∉L->sH[j]?=ON[j]?)(hL:∀i∈L,link[i]?=some none):Lc K F ON σ where
 av:=λi p e=>by
  refine R.av i p ?_;rw[hk i λhi=>?_]
  ·exact e
  ·rw[h0]at e;unfold bO at e;rw[bR,hL i hi]at e;cases e
 len:=hl
end
noncomputable def okR{α:Type}:Rs α×cC->Option (α×List az)
 | (.ok a,st)=>some (a,st.h)
 | _=>none
abbrev Bd:=List (Option PV)->PV->List az->Option (Option PV×List az)
def k7(g:Tg)(fe:Gx PV):Bd:=λρ p h=>(g p ⟨ρ,h⟩).bind λbr=>(fe br).bind λr=>(okR r).map λx=>(some x.1,x.2)
def k8(g:Tg)(ft:Gx Bool)(fe:Gx PV):Bd:=λρ p h=>(g p ⟨ρ,h⟩).bind λbr=>(ft br).bind λr=>match r with
 | (.ok b,st2)=>if b=true then(fe st2).bind λr=>(okR r).map λx=>(some x.1,x.2)else some (none,st2.h)
 | _=>none
noncomputable def fz(bd:PV->List az->Option (Option PV×List az)):List PV->List az->Option (List PV×List az)
 | [],h=>some ([],h)
 | p::ps,h=>(bd p h).bind λr=>(fz bd ps r.2).map λs=>(r.1.toList++s.1,s.2)
section
variable {X:Cx} {aa:Hp} {ab:Fz} {N:List Str} {link:List (Option Nat)} {scope:Scope} {tg iter elt c:Expr} {pos:Pos} {fi:Gx (List PV)} {g:Tg} {fe:Gx PV} {ft:Gx Bool} {L:List Nat} {cl:Bool}
def Ao(e:okR r=some (a,h)):∃st,r=(.ok a,st)/\st.h=h:=by
 obtain⟨r,st⟩:=r;cases r with
 | ok x=>cases e;exact⟨st,rfl,rfl⟩
 | ex m C=>cases e
def _root_.L2.U.PB.imp(h:PB Y tg ifs elt tb)(i:∀v σ H Q,tb' v σ H Q->tb v σ H Q):PB Y tg ifs elt tb':=λae s σ H v u Q I r w=>h ae s σ H v u Q I r (i _ _ _ _ w)
def tb1(X:Cx)(aa:Hp)(ab:Fz)(g:Tg)(fe:Gx PV):TB:=λv σ H Q=>tG X.K aa ab g v σ H λjx H1=>∀Y:Cx,Y.K=X.K->tE Y aa ab fe jx H1 λy H2=>Q (some y) jx H2
def tb2(X:Cx)(aa:Hp)(ab:Fz)(g:Tg)(ft:Gx Bool)(fe:Gx PV):TB:=λv σ H Q=>tG X.K aa ab g v σ H λjx H1=>∀Y:Cx,Y.K=X.K->tT Y aa ab ft jx H1 λt H2=>if t=true then tE Y aa ab fe jx H2 λy H3=>Q (some y) jx H3 else Q none jx H2
section
variable (ht:∀(C:Addr) (s:Shared) (H:Hp) (fp:List Addr),PG (cJ X N scope C s H fp) tg (tG X.K aa ab g)) (he:∀(C:Addr) (s:Shared) (H:Hp) (fp:List Addr),PE (cJ X N scope C s H fp) elt (tE (cJ X N scope C s H fp) aa ab fe))
include ht he
def pb1(C:Addr)(s:Shared)(H:Hp)(fp:List Addr):PB (cJ X N scope C s H fp) tg [] elt (tb1 X aa ab g fe) :=
 (Kx (ht C s H fp) (he C s H fp)).imp (by rintro v σ H Q ⟨F,st,p,aB,R,b,e,q⟩;exact⟨F,st,p,aB,R,b,e,λbH H' F' R' g'=>q bH H' F' R' g' _ rfl⟩)
def pb2(hw:∀(C:Addr) (s:Shared) (H:Hp) (fp:List Addr),PT (cJ X N scope C s H fp) c (tT (cJ X N scope C s H fp) aa ab ft))(C:Addr)(s:Shared)(H:Hp)(fp:List Addr):PB (cJ X N scope C s H fp) tg [c] elt (tb2 X aa ab g ft fe) :=
 (OK (ht C s H fp) (hw C s H fp) (he C s H fp)).imp (by rintro v σ H Q ⟨F,st,p,aB,R,b,e,q⟩;exact⟨F,st,p,aB,R,b,e,λbH H' F' R' g'=>q bH H' F' R' g' _ rfl⟩)
end
def qx(h:tS X aa ab (dc fe (aR i)) D σ H):tE X aa ab fe σ H λv H1=>D.nx (σ.set i (some v)) H1:=by
 obtain⟨F,st,R,h⟩:=h;refine⟨F,st,R,h.bnd λp v F1 br H1 R1 g1 b1 h1=>?_⟩
 obtain⟨aB,e,z⟩:=h1.stp;obtain⟨hi,rfl⟩:=aJ e;exact z F1 _ H1 ⟨R1.c,R1.l.set hi b1⟩ (Gr.refl _)
end
def SI(h:Heap)(it l:Addr)(k:Nat)(xs:Array Value):Prop:=(h.IsListIter it l k/\h.IsList l xs)\/(h.IsTupleIter it l k/\h.IsTuple l xs)
def SI.at{h h':Heap}{it l:Addr}{k:Nat}{xs:Array Value}(x:SI h it l k xs)(h1:∀o,h.get? it=some o->h'.get? it=some o)(h2:∀o,h.get? l=some o->h'.get? l=some o):SI h' it l k xs:=by
 rcases x with⟨⟨o,e,r⟩,⟨o',e',r'⟩⟩ | ⟨⟨o,e,r⟩,⟨o',e',r'⟩⟩
 ·exact .inl ⟨⟨o,h1 o e,r⟩,⟨o',h2 o' e',r'⟩⟩
 ·exact .inr ⟨⟨o,h1 o e,r⟩,⟨o',h2 o' e',r'⟩⟩
def SI.Rm{h:Heap}{it l:Addr}{k:Nat}{xs:Array Value}(x:SI h it l k xs):∃o,h.get? it=some o/\∃vs,o.data=.fields vs:=by
 rcases x with⟨⟨o,e,_,d⟩,_⟩ | ⟨⟨o,e,_,d⟩,_⟩
 ·grind
 ·grind
def SI.sq{h:Heap}{it l:Addr}{k:Nat}{xs:Array Value}(x:SI h it l k xs):∃o n,h.get? l=some o/\o.data=.seq xs n:=by
 rcases x with⟨_,⟨o,e,_,n,d⟩⟩ | ⟨_,⟨o,e,_,n,d⟩⟩
 ·grind
 ·grind
def SI.ne{h:Heap}{it l:Addr}{k:Nat}{xs:Array Value}(x:SI h it l k xs):l≠it:=λz=>by
 obtain⟨o,e,vs,d⟩:=x.Rm;obtain⟨o',n,e',d'⟩:=x.sq;subst z;rw[e]at e';cases e';rw[d]at d';cases d'
section
variable {prog:Program} {w:World} {A:Around} {E:Value->Shared->Prop} {s:Shared}
def Ds{it t:Addr}{i:Nat}{aH:Array Value}{x:Value}{Q:Value->Shared->Prop}(um:s.heap.IsTupleIter it t i)(ht:s.heap.IsTuple t aH)(hx:aH[i]?=some x)
  (hQ:∀h',h'.IsTupleIter it t (i+1)->Heap.SameBut it s.heap h'->Q x {s with heap:=h'}):wpAny (model prog w) A (Builtin.SmallTypes.nextOf (.ref it)) Q E s:=by
 obtain⟨o,ho,hc,hd⟩:=id um;obtain⟨ol,WX,_,nl,Rq⟩:=ht;refine af (jZ um.typeIs wc (gX wc um.typeIs Jj (by
  show wpAny _ _ (field (.ref it) 0 >>= _) _ _ s;refine af (kf ho hd rfl ?_);show wpAny _ _ (if(Value.ref t==Value.none)=true then _ else _) _ _ s
  rw[if_neg (show ¬((Value.ref t==Value.none)=true)from d9)]
  show wpAny _ _ (field (.ref it) 1 >>= _) _ _ s;refine af (kf ho hd (x:=.int i 0) rfl ?_);show wpAny _ _ (seqItems? (.ref t) >>= _) _ _ s;refine af (wpAny_seqItems WX Rq ?_);simp only[gg,hx];refine af (rm ho hd (by simp) (aj ⟨x,rfl,aj (hQ _ ⟨_,qT _ ho (Cc (nR hd _)),(Ck ..).trans hc,by rw[nR hd];simp[rawInt]⟩ (nQ ..))⟩))) (Jh _)))
def Dt{it t:Addr}{i:Nat}{aH:Array Value}{Q:Value->Shared->Prop}(hh:A.handled=none)(um:s.heap.IsTupleIter it t i)(ht:s.heap.IsTuple t aH)(hx:aH[i]?=none)
  (hE:∀h' e,Heap.ExtBut it s.heap h'->(∃o,h'.get? e=some o/\o.cls=.type "StopIteration")->E (.ref e) {s with heap:=h'}):wpAny (model prog w) A (Builtin.SmallTypes.nextOf (.ref it)) Q E s:=by
 obtain⟨o,ho,hc,hd⟩:=id um;obtain⟨ol,WX,_,nl,Rq⟩:=ht;refine af (jZ um.typeIs wc (gX wc um.typeIs Jj (by
  show wpAny _ _ (field (.ref it) 0 >>= _) _ _ s;refine af (kf ho hd rfl ?_);refine af (kf ho hd (x:=.int i 0) rfl ?_);show wpAny _ _ (seqItems? (.ref t) >>= _) _ _ s;refine af (wpAny_seqItems WX Rq ?_);simp only[gg,hx];refine af (gi (af (rm ho hd (by simp) ?_)))
  show wpAny _ _ (newExc (.type "StopIteration") [] >>= _) _ _ _;refine af ?_;simp only[newExc,newTuple];refine af (iE ?_ (by size_fits))
  refine af (m:=firstArgMember _ _) (wpAny_of_eq (a:=Value.none) (by first | rfl | (simp only[firstArgMember];rfl)) ?_)
  refine iE ?_ (by size_fits)
  simp only[raiseNew];refine af (wpAny_handled ?_)
  first | rw[show A.in1.handled=none from hh] | rw[hh]
  exact af (aj (wpAny_throw (hE _ _ (((nQ ..).extBut.push _).push _) ⟨_,cB _ rfl,rfl⟩)))) (Jh _)))
def SI.next{it l:Addr}{k:Nat}{xs:Array Value}{x:Value}{Q:Value->Shared->Prop}(hi:SI s.heap it l k xs)(hx:xs[k]?=some x)(hQ:∀h',SI h' it l (k+1) xs->Heap.SameBut it s.heap h'->Q x {s with heap:=h'}) :
  wpAny (model prog w) A (Builtin.SmallTypes.nextOf (.ref it)) Q E s:=by
 have ne:=hi.ne;rcases hi with⟨h1,h2⟩ | ⟨h1,h2⟩
 ·exact wpAny_nextOf_list_item h1 h2 hx λh' a b=>hQ h' (.inl ⟨a,h2.extBut b.extBut ne⟩) b
 ·exact Ds h1 h2 hx λh' a b=>hQ h' (.inr ⟨a,h2.extBut b.extBut ne⟩) b
def SI.stop{it l:Addr}{k:Nat}{xs:Array Value}{Q:Value->Shared->Prop}(hh:A.handled=none)(hi:SI s.heap it l k xs)(hx:xs[k]?=none)
  (hE:∀h' e,Heap.ExtBut it s.heap h'->(∃o,h'.get? e=some o/\o.cls=.type "StopIteration")->E (.ref e) {s with heap:=h'}):wpAny (model prog w) A (Builtin.SmallTypes.nextOf (.ref it)) Q E s:=by
 rcases hi with⟨h1,h2⟩ | ⟨h1,h2⟩
 ·exact wpAny_nextOf_list_end hh h1 h2 hx hE
 ·exact Dt hh h1 h2 hx hE
end
section
variable {prog:Program} {w:World} {A:Around} {E:Value->Shared->Prop} {s:Shared} {z TI TO i1 i2 l1 l2:Nat} {k:Nat} {xs ys:Array Value}
def vp(h:Heap)(l:Addr)(xs:Array Value)(c:String):Prop:=(c="list_iterator"/\h.IsList l xs)\/(c="tuple_iterator"/\h.IsTuple l xs)
def qy{l:Addr}{xs:Array Value}{c:String}{Q:Value->Shared->Prop}(h:vp s.heap l xs c)(hQ:Q (.ref s.heap.objs.size) {s with heap:=s.heap.push {cls:=.type c,data:=.fields #[.ref l,.int 0 0]}}):wpAny (model prog w) A (pyIter (.ref l)) Q E s:=by
 rcases h with⟨rfl,h⟩ | ⟨rfl,h⟩
 ·exact Cn h hQ
 ·exact Cf h hQ
end
def Ja(K:W.Frag)(H:Hp)(c:Bool)(l:Addr)(vs:List V):Prop:=if c=true then xb K H l vs else ip K H l vs
def OP(h:Heap)(c:Bool)(it l:Addr)(k:Nat):Prop:=if c=true then h.IsListIter it l k else h.IsTupleIter it l k
def KC(c:Bool):String:=if c=true then "list_iterator" else "tuple_iterator"
section
variable {X:Cx} {ae:List (Addr×Obj)} {σ:St} {H:Hp} {s:Shared}
def Ja.get(I:Inv X ae σ H s){c:Bool}{l:Addr}{vs:List V}(h:Ja X.K H c l vs):∃aH:List Value,Vals vs aH/\vp s.heap l aH.toArray (KC c):=by
 unfold KC;cases c with
 | true =>
  obtain⟨aH,r,pl,_⟩:=I.list (h);exact⟨aH,r,.inl ⟨rfl,pl.isList⟩⟩
 | false =>
  obtain⟨aH,r,pl,_⟩:=I.tuple (h);exact⟨aH,r,.inr ⟨rfl,pl⟩⟩
def Ja.inj(I:Inv X ae σ H s){c:Bool}{l:Addr}{vs ws:List V}(h:Ja X.K H c l vs)(h':Ja X.K H c l ws):vs=ws:=by
 cases c with
 | true=>exact I.my h h'
 | false=>exact I.kK h h'
def Ru{h:Heap}{c:Bool}{it l:Addr}{k:Nat}{xs:Array Value}(h1:OP h c it l k)(h2:vp h l xs (KC c)):SI h it l k xs:=by
 cases c with
 | true =>
  rcases h2 with⟨_,q⟩ | ⟨q,_⟩
  ·exact .inl ⟨h1,q⟩
  ·exact absurd q (by decide)
 | false =>
  rcases h2 with⟨q,_⟩ | ⟨_,q⟩
  ·exact absurd q (by decide)
  ·exact .inr ⟨h1,q⟩
def OQ{h:Heap}{c:Bool}{it l:Addr}{k k':Nat}{xs:Array Value}{h0:Heap}(h1:SI h it l k xs)(h2:vp h0 l xs (KC c))(kp:∀o,h0.get? l=some o->h.get? l=some o):OP h c it l k:=by
 cases c with
 | true =>
  rcases h2 with⟨_,⟨o,e,hc,_⟩⟩ | ⟨q,_⟩
  ·rcases h1 with⟨a,_⟩ | ⟨_,⟨o',e',EK,_⟩⟩
   ·exact a
   ·grind
  ·exact absurd q (by decide)
 | false =>
  rcases h2 with⟨q,_⟩ | ⟨_,⟨o,e,hc,_⟩⟩
  ·exact absurd q (by decide)
  ·rcases h1 with⟨_,⟨o',e',EK,_⟩⟩ | ⟨a,_⟩
   ·grind
   ·exact a
def Inv.turns{t':Nat}{h':Heap}{ch:List Addr}(I:Inv X ae σ H s)(hf:∀b∈ch,xc X ae H b)(kp:∀b o,b∉ch->s.heap.get? b=some o->h'.get? b=some o):Inv X ae σ H {s with heap:=h',toks:=t'}:=by
 have Xq:∀b u,H b=some u->b∉ch:=λb u e z=>by rw[(hf b z).1]at e;cases e
 refine I.step (λb hb=>⟨(hf b hb).2.2.2.1,(hf b hb).2.1,(hf b hb).2.2.2.2.1,(hf b hb).2.2.2.2.2⟩) (λb o _ _ hc e _=>kp b o hc e) (λb o _ _ hc e _=>⟨o.slots,kp b o hc e⟩) (λ_ _ _ _ n=>n)
  (λb o hc e=>⟨o,kp b o hc e⟩) (λ_ _ e=>e) (λ_ _ _ e=>e) (λ_ _ e=>e) (λm hm=>?_) (λb u e=>?_) I.bare
 ·obtain⟨o,es,ep,ho,r⟩:=hm;exact⟨o,es,ep,kp _ o (λz=>(hf _ z).2.1 rfl) ho,r⟩
 ·refine(I.hok b u e).w5 (λc v hc q=>kp c v ?_ q) (λ_ q=>q) (λ_ _ q=>q) λ_ _ _ q=>q
  rcases hc with z | z
  ·rw[z];exact Xq b u e
  ·exact Xq c _ z
end
def OP.at{h h':Heap}{c:Bool}{it l:Addr}{k:Nat}(x:OP h c it l k)(h1:∀o,h.get? it=some o->h'.get? it=some o):OP h' c it l k:=by
 cases c with
 | true =>
  obtain⟨o,e,r⟩:=(x);exact(⟨o,h1 o e,r⟩)
 | false =>
  obtain⟨o,e,r⟩:=(x);exact(⟨o,h1 o e,r⟩)
def OP.obj{h:Heap}{c:Bool}{it l:Addr}{k:Nat}(x:OP h c it l k):∃o,h.get? it=some o/\∀v,o.data≠.cell v:=by
 unfold OP at x;split at x
 ·obtain⟨o,e,_,d⟩:=x;exact⟨o,e,λv=>by grind⟩
 ·obtain⟨o,e,_,d⟩:=x;exact⟨o,e,λv=>by grind⟩
def KD{prog:Program}{w:World}{A:Around}{it l:Addr}{xs:Array Value}(hh:A.handled=none):Draws prog w A it [it,l] xs.size (λi x=>xs[i]?=some x) (λi h=>SI h it l i xs) where
 live:=λi h st=>by
  obtain⟨o,e,_⟩:=st.Rm;exact⟨o,e⟩
 frame:=λi h h' st k=>st.at (λo e=>k it (by simp) o e) (λo e=>k l (by simp) o e)
 item:=λi s Q E hi st hQ=>SI.next st (qR hi) λh' a b=>hQ _ h' s.toks (qR hi) a b
 done:=λs Q E st hE=>SI.stop hh st (Array.getElem?_eq_none (ao _)) hE
set_option maxHeartbeats 2000000 in
theorem KH(l:Addr)(xs:Array Value)(c:String)(part:Obj) :
  Meets (Builtin.«enumerate.__new__» ⟨[.type "enumerate",.ref l],[]⟩) (λ_ R s=>vp s.heap l xs c/\s.heap.get? l=some part /\
   ∀h1 h2:Heap,h1=s.heap.push {cls:=.type c,data:=.fields #[.ref l,.int 0 0]}->h2=h1.push {cls:=.type "enumerate",data:=.fields #[.none,.bool false,.ref s.heap.objs.size,rawInt 0,.none,.none]}->R (.ok (.ret (.ref h1.objs.size))) {s with heap:=h2}) :=
 .of_wp λprog w A R s h=>by
  obtain⟨hp,g,d,tk,os⟩:=s;obtain⟨hl,hpt,h⟩:=h;have hL:vp (Shared.heap ⟨hp,g,d,tk,os⟩) l xs c:=hl;have Ap:=sub_enumerate;rcases hl with⟨rfl,⟨o,e,hc,n,hd⟩⟩ | ⟨rfl,⟨o,e,hc,n,hd⟩⟩
  ·obtain⟨oc,od,odt,TL⟩:=o;replace hc:oc=.type "list":=hc;replace hd:odt=.seq xs n:=hd
   wp_walk using jY e
   refine wpAny_stack_any λst=>aj ?_
   split
   ·rename_i c' _ _ _ _ _;cases(c'==Value.type "enumerate")<;>(wp_walk using jY e,qy hL)<;>exact⟨_,rfl,h _ _ rfl rfl⟩
   ·wp_walk using jY e,qy hL
    exact⟨_,rfl,h _ _ rfl rfl⟩
  ·obtain⟨oc,od,odt,TL⟩:=o;replace hc:oc=.type "tuple":=hc;replace hd:odt=.seq xs n:=hd
   wp_walk using jY e
   refine wpAny_stack_any λst=>aj ?_
   split
   ·rename_i c' _ _ _ _ _;cases(c'==Value.type "enumerate")<;>(wp_walk using jY e,qy hL)<;>exact⟨_,rfl,h _ _ rfl rfl⟩
   ·wp_walk using jY e,qy hL
    exact⟨_,rfl,h _ _ rfl rfl⟩
def OR{prog:Program}{w:World}{A:Around}{E:Value->Shared->Prop}{s:Shared}{e it l:Addr}{k:Nat}{i:Int}{xs:Array Value}{old:Value}{Q:Option Value->Shared->Prop}(hh:A.handled=none)(a1:IsEnum s.heap e it i old)(st:SI s.heap it l k xs)(hx:xs[k]?=none)(hQ:∀h',Heap.ExtBut it s.heap h'->Q none {s with heap:=h'}):wpAny (model prog w) A (pyNext (.ref e)) Q E s:=by
 have ty:s.TypeIs (.ref e) "enumerate":=⟨_,a1,rfl⟩;unfold pyNext;refine af (wU (jZ ty F.slot_enumerate_next (gX F.slot_enumerate_next ty F.entry_enumerate_next (by
  show wpAny _ _ (field (.ref e) 2 >>= _) _ _ _;refine af (kf a1 rfl rfl (af (SI.stop hh st hx λh' y sb ⟨o,ho,hc⟩=>?_)))
  exact af (Cu ⟨o,ho,hc⟩ isSubtype_stop (aj (hQ _ sb)))) (F.args_enumerate_next_1 _))))
def Ien(K:W.Frag)(c:Bool)(l:Addr):It where
 go:=λi H=>∃vs v,Ja K H c l vs/\vs[i]?=some v
 yld:=λi H x H'=>∃T v,H T=none/\x=.ref T/\H'=cw H T (.ay [.int i,v])/\∀vs,Ja K H c l vs->vs[i]?=some v
 stop:=λi H=>∃vs,Ja K H c l vs/\vs.length<=i
def eTn(e it l:Nat)(c:Bool)(i:Nat)(h:Heap):Prop:=(∃old,IsEnum h e it i old)/\OP h c it l i
def OS{P:Program}{w:World}{K:W.Frag}{elts:List Expr}{x1:Nat}{TC:Pos}{e it l:Nat}{c:Bool}(ord:it<e)(o1:l<it) :
  Turn P w K (.Tuple elts x1 TC) (Ien K c l) [e,it] e (eTn e it l c) where
 mem:=aN
 obj:=by
  rintro i h ⟨⟨_,a1⟩,a2⟩ b hb
  simp only[aU,eK,eQ]at hb;rcases hb with rfl | rfl
  ·exact⟨_,a1,λv=>by simp⟩
  ·exact a2.obj
 keep:=(by rintro i h h' ⟨⟨old,a1⟩,a2⟩ k;exact⟨⟨old,k e (by simp) _ a1⟩,a2.at λo x=>k it (by simp) o x⟩)
 item:=by
  rintro X hP hw hK hc i ae s σ H E I hf ⟨⟨old,a1⟩,a2⟩ ⟨vs,v,hv,ev⟩
  subst hP hw hK;obtain⟨aH,r1,k1⟩:=hv.get I;obtain⟨x,ex,rx⟩:=r1.get ev;have ne:e≠it:=rA ord;have nel:e≠l:=rA (oh o1 ord);have Rq:X.A.in1.handled=none:=I.ok.hd hc;refine wpAny_pyNext_enum_itemD (KD (xs:=aH.toArray) (l:=l) Rq) a1 (Ru a2 k1) (by
   have:=(cf.mp ex).1;simpa using this) ne (by simp[ne,nel]) λx' h' tk Dj hO st hT YR kp=>⟨_,rfl,?_⟩
  have xe:x'=x:=by
   have e1:aH.toArray[i]?=some x:=by simpa using ex
   rw[e1]at Dj;cases Dj;rfl
  subst xe;refine wpAny_letOwnedTupleGo_enum hO λh'' adf sb=>?_
  have big:∀b∈[e,it],b<s.heap.objs.size:=λb hb=>by
   simp only[aU,eK,eQ]at hb;have h1:e<s.heap.objs.size:=aV a1;rcases hb with rfl | rfl<;>lia
  have eT:e≠s.heap.objs.size:=bG (big e (by simp))
  have kp2:∀b o,b∉[e,it]->s.heap.get? b=some o->h''.get? b=some o:=λb o hb z=>by
   simp only[aU,eK,eQ,not_or]at hb;exact sb.extBut _ _ hb.1 (kp b o hb.1 hb.2 z)
  have I1:Inv X ae σ H {s with heap:=h'',toks:=tk+1}:=Inv.turns I hf kp2
  have hn:H s.heap.objs.size=none:=I.fresh;have fp0:=I.GV (H':=H) (ao _) hn;have pr:h''.get? s.heap.objs.size=some {cls:=.type "tuple",data:=.seq #[.int i tk,x']}:=sb.extBut _ _ (dn eT) hT
  have I2:=Inv.adopt (D:=s.heap.objs.size) (o:=.ay [.int i,v]) I1 hn (by
    rcases fp0.2.2.2.1 with q | q
    ·exact I.sz
    ·exact q) fp0.2.1 fp0.2.2.2.2.1 fp0.2.2.2.2.2 ⟨(by show 2<=sizeLine;decide),[.int i tk,x'],.cons ⟨tk,rfl⟩ (.cons rx .nil),⟨_,pr,rfl,0,rfl⟩⟩
  refine⟨.ref s.heap.objs.size,_,I2,rfl,⟨s.heap.objs.size,v,hn,rfl,rfl,λxt h1=>?_⟩,⟨⟨_,adf⟩,?_⟩,λb hb=>?_⟩
  ·rw[<-Ja.inj I hv h1];exact ev
  ·have nli:l≠it:=bG o1;have q:=OQ (k':=i) st k1 λo z=>kp l o (dn nel) nli z
   exact q.at λo z=>sb.extBut _ _ (dn ne) z
  ·rw[aI (bG (big b hb))];exact(hf b hb).1
 done:=by
  rintro X hP hw hK hc i ae s σ H E I hf ⟨⟨old,a1⟩,a2⟩ ⟨vs,hv,he⟩
  subst hP hw hK;obtain⟨aH,r1,k1⟩:=hv.get I;have hz:aH.toArray[i]?=none:=Array.getElem?_eq_none (by rw[e9,<-r1.length];exact he)
  refine OR (I.ok.hd hc) a1 (Ru a2 k1) hz λh' sb=>⟨rfl,?_⟩
  exact Inv.turns (t':=s.toks) I hf λb o hb z=>by
   simp only[aU,eK,eQ,not_or]at hb;exact sb b o hb.2 z
 self:=(by rintro A i s Q E ⟨⟨_,a1⟩,_⟩ q;exact wpAny_pyIter_enum a1 q)
def Rv:Expr->Bool
 | .Tuple _ _ _=>true
 | _=>false
def xO:PV->Option (List PV)
 | .nd .ay ps=>some ps
 | .nd .lst ps=>some ps
 | _=>none
def Aq(p q:PV):PV:=.ay [p,q]
def KI{K:W.Frag}(h:xO p=some ps)(b:bN K F p x):∃c l vs,x=.ref l/\Ja K F.F c l vs/\aE K F ps vs/\∀F',cK F.F F'->Ja K F' c l vs:=by
 unfold xO at h;split at h
 ·cases h;obtain⟨l,vs,rfl,h1,h2⟩:=cR.mp b;exact⟨false,l,vs,rfl,h1,h2,λF' s=>bL s h1⟩
 ·cases h;obtain⟨l,vs,rfl,h1,h2⟩:=gz.mp b;exact⟨true,l,vs,rfl,h1.sq,h2,λF' s=>(zY s h1).sq⟩
 ·cases h
def Hz{K:W.Frag}(hs:xb K F.F a vs)(hb:aE K F ps vs):Walk K F ps (Itl K a):=by
 intro aa ab F' st σ H R s i;have hq:=(s.s.trans R.sub).seq hs;refine⟨λp e=>?_,λe=>?_⟩
 ·obtain⟨v,e1,b1⟩:=hb.get e;refine⟨⟨vs,v,hq,e1⟩,λx H' ⟨hH,y⟩=>?_⟩
  subst hH;have:=y vs hq;rw[e1]at this;cases this;exact⟨F',R,Gr.refl _,b1.mono s⟩
 ·refine⟨vs,hq,?_⟩;rw[<-hb.length];exact lK.mp e
def KJ{K:W.Frag}(hs:ip K F.F a vs)(hb:aE K F ps vs):Walk K F ps (Itt K a):=by
 intro aa ab F' st σ H R s i;have hq:=bL (s.s.trans R.sub) hs;refine⟨λp e=>?_,λe=>?_⟩
 ·obtain⟨v,e1,b1⟩:=hb.get e;refine⟨⟨vs,v,hq,e1⟩,λx H' ⟨hH,y⟩=>?_⟩
  subst hH;have:=y vs hq;rw[e1]at this;cases this;exact⟨F',R,Gr.refl _,b1.mono s⟩
 ·refine⟨vs,hq,?_⟩;rw[<-hb.length];exact lK.mp e
noncomputable def Du(lo:Int)(n:Nat):List PV:=(List.range n).map fun(i:Nat)=>.int (lo+i)
def sJ{K:W.Frag}(lo:Int)(n:Nat):Walk K F (Du lo n) (XD lo n):=by
 intro aa ab F' st σ H R s i;unfold Du;refine⟨λp e=>?_,λe=>?_⟩
 ·rw[bR]at e;by_cases hi:i<n
  ·rw[qW hi]at e;cases e;exact⟨hi,λx H' ⟨hH,y⟩=>by subst hH y;exact⟨F',R,Gr.refl _,aG.mpr rfl⟩⟩
  ·rw[j0 (by simpa using hi)]at e;cases e
 ·rw[bR]at e;by_cases hi:i<n
  ·rw[qW hi]at e;cases e
  ·exact nV hi
def fQ:Nat->List PV->List PV
 | _,[]=>[]
 | k,p::r=>Aq (.int k) p::fQ (k+1) r
theorem oC:∀(ps:List PV) (k i:Nat),(fQ k ps)[i]?=ps[i]?.map λp=>Aq (.int ((k+i:Nat):Int)) p
 | [],k,i=>by simp[fQ]
 | p::r,k,0=>by simp[fQ]
 | p::r,k,i+1=>by
  simp only[fQ,List.getElem?_cons_succ];rw[oC r (k+1) i,show k+1+i=k+(i+1) by lia]
def OU{K:W.Frag}(k1:∀F',cK F.F F'->Ja K F' c l vs)(b1:aE K F ps vs):Walk K F (fQ 0 ps) (Ien K c l):=by
 intro aa ab F' st σ H R s i;have h1:=k1 H (s.s.trans R.sub);refine⟨λp e=>?_,λe=>?_⟩
 ·rw[oC]at e;cases z1:ps[i]? with
  | none=>rw[z1]at e;cases e
  | some p1 =>
   rw[z1]at e;cases e;obtain⟨v,e1,c1'⟩:=b1.get z1;refine⟨⟨vs,v,h1,e1⟩,λx H' z9=>?_⟩
   obtain⟨T,v',hn,hx,hH,G8⟩:=z9;have g1:=G8 vs h1;rw[e1]at g1;cases g1;subst hx hH;obtain⟨R2,s2⟩:=R.laid (.ay [.int i,v]) hn;refine⟨_,R2,s2,cR.mpr ⟨T,[.int i,v],rfl,ip.of aD,.cons ?_ (.cons (c1'.mono (s.trans s2)) .nil)⟩⟩;rw[fu];exact aG.mpr rfl
 ·refine⟨vs,h1,?_⟩;rw[oC]at e;cases z1:ps[i]? with
  | none =>
   have:=lK.mp z1;rw[b1.length]at this;exact this
  | some p1=>rw[z1]at e;cases e
section
variable {X:Cx} {aa:Hp} {ab:Fz} {a b e tg:Expr} {fa fb:Gx PV} {ts:Gx (List PV)} {pos p:Pos}
noncomputable def HA(i j:Int):Bool:=decide (-(2^62)<=i/\i<2^62 /\ -(2^62)<=j/\j<2^62)
def xP:List PV->Option (List PV)
 | [.int j]=>if HA 0 j=true then some (Du 0 j.toNat)else none
 | _=>none
def KN:List PV->Option (List PV)
 | [.int i,.int j]=>if HA i j=true then some (Du i (j-i).toNat)else none
 | _=>none
def sL(g:List PV->Option (List PV))(ts:Gx (List PV)):Gx (List PV):=bnd ts λps=>kM (g ps)
def KO(hg:Gl X "range")(hm:X.mg "range"=none)(ha:PA X [a] (tA X aa ab ts))(hs:starEach [a] X.env=[(false,eval a X.env)]:=by rfl):PI X tg (.Call (.Name "range" p) [a] [] pos) (tI X aa ab (sL xP ts)) :=
 (GX hg hm ha hs).imp λσ H Rr ⟨F,st,R,h⟩=>⟨F,st,R,h.bnd λps vs F1 br H1 R1 g1 b1 h1=>by
  obtain⟨o,e,z⟩:=h1.kM;unfold xP at e;split at e
  ·obtain⟨hr,rfl⟩:=aJ e;obtain⟨v,rfl,b⟩:=dZ b1;obtain⟨_,_,h3,h4⟩:=eJ hr;rw[aG.mp b];exact⟨_,rfl,h3,h4,z _ H1 F1 R1 (Gr.refl _) (sJ 0 _)⟩
  ·cases e⟩
def KP(hg:Gl X "range")(hm:X.mg "range"=none)(ha:PA X [a,b] (tA X aa ab ts))(hs:starEach [a,b] X.env=[(false,eval a X.env),(false,eval b X.env)])(M3:starEach [b] X.env=[(false,eval b X.env)]):PI X tg (.Call (.Name "range" p) [a,b] [] pos) (tI X aa ab (sL KN ts)) :=
 (GY hg hm ha hs M3).imp λσ H Rr ⟨F,st,R,h⟩=>⟨F,st,R,h.bnd λps vs F1 br H1 R1 g1 b1 h1=>by
  obtain⟨o,e,z⟩:=h1.kM;unfold KN at e;split at e
  ·obtain⟨hr,rfl⟩:=aJ e;obtain⟨v,w,rfl,b,c⟩:=mO b1;have hr:=eJ hr;rw[aG.mp b,aG.mp c];exact⟨_,_,rfl,hr,z _ H1 F1 R1 (Gr.refl _) (sJ _ _)⟩
  ·cases e⟩
def vq(fa:Gx PV):Gx (List PV):=bnd fa λp=>kM ((xO p).map λps=>fQ 0 ps)
def adg(ht:Rv tg=true)(hg:Gl X "enumerate")(hm:X.mg "enumerate"=none)(ha:PE X a (tE X aa ab fa))(hs:starEach [a] X.env=[(false,eval a X.env)]) :
  PI X tg (.Call (.Name "enumerate" p) [a] [] pos) (tI X aa ab (vq fa)):=by
 rintro ae s σ H R I ⟨F,st,Rp,h⟩
 have hA:=jz ha rR hs pos ae s σ H (λvs H'=>∃F' aB x pa ps,vs=[x]/\Rep X.K aa ab F' aB σ H'/\bN X.K F' pa x/\xO pa=some ps/\∀b H'' Ur,Rep X.K aa ab Ur aB σ H''->Gr F' Ur->Walk X.K Ur (fQ 0 ps) b->R b H'') I
  ⟨F,st,Rp,h.bnd λp v F1 br H1 R1 g1 b1 h1=>by
   obtain⟨o,e,z⟩:=h1.kM;obtain⟨ps,e1,rfl⟩:=bt e;exact⟨F1,br,v,p,ps,rfl,R1,b1,e1,z⟩⟩
 refine Call_ (ld_blt I hg hm boot_enumerate (jX (thn hA λus s1 z9=>?_) hs rfl))
 obtain⟨vs,H1,I1,r1,F1,br,x,pa,ps,ev,R1,b1,f3,q⟩:=z9;subst ev;obtain⟨u1,rfl,ru1⟩:=jL r1;obtain⟨c1,l1,vs1,rfl,q1,bl1,k1⟩:=KI f3 b1;cases ru1;obtain⟨aH,v1,kk1⟩:=(k1 H1 R1.sub).get I1;obtain⟨part,Rx⟩:∃o,s1.heap.get? l1=some o:=by
  rcases kk1 with⟨_,⟨o,e,_⟩⟩ | ⟨_,⟨o,e,_⟩⟩
  ·grind
  ·grind
 have lt1:=aV Rx;refine callType_new PySem.F.called_enumerate (by decide) (PySem.F.typeCall_enumerate_1 _) (PySem.F.newCall_enumerate_1 _) (λobj=>PySem.F.args_object_init_2 obj _) PySem.F.entry_enumerate_new (KH l1 aH.toArray (KC c1) part) ⟨kk1,Rx,λh1 h2 e1 e2=>?_⟩
 have z1:h1.objs.size=s1.heap.objs.size+1:=by simp_all
 have p1:∀b o,s1.heap.get? b=some o->h1.get? b=some o:=λb o e=>by rw[e1];exact aZ _ e
 have p2:∀b o,h1.get? b=some o->h2.get? b=some o:=λb o e=>by rw[e2];exact aZ _ e
 have g2:IsEnum h2 h1.objs.size s1.heap.objs.size 0 .none:=by rw[e2];exact cB _ rfl
 have g1:=p2 _ _ (by rw[e1];exact cB _ rfl)
 have I2:Inv X ae σ H1 {s1 with heap:=h2,toks:=s1.toks}:=I1.kept λb o e=>p2 _ _ (p1 _ _ e)
 have oq:∀b,s1.heap.objs.size<=b->H1 b=none:=λb hb=>I1.hok.fresh hb
 refine⟨⟨_,g2,rfl⟩,?_⟩;show wpAny _ _ (pyIter (.ref h1.objs.size)) _ _ {s1 with heap:=h2,toks:=s1.toks}
 refine wpAny_pyIter_enum g2 ?_;cases tg with
 | Tuple elts x1 TC =>
  refine⟨h1.objs.size,[h1.objs.size,s1.heap.objs.size],_,_,H1,rfl,I2,OS (by lia) lt1,⟨⟨_,g2⟩,(by
   cases c1 with
   | true=>exact(⟨_,g1,rfl,rfl⟩)
   | false=>exact(⟨_,g1,rfl,rfl⟩))⟩,λb hb=>?_,q _ H1 F1 R1 (Gr.refl _) (OU k1 bl1)⟩
  simp only[aU,eK,eQ]at hb;have M8:s1.heap.objs.size<=b:=by rcases hb with rfl | rfl<;>lia
  exact I1.GV M8 (oq b M8)
 | _=>cases ht
end
inductive yX where
 | sq (ps:List PV) | cl (n:Nat)
def YY(K:W.Frag)(F:Fz):yX->It->Prop
 | .sq ps,J=>Walk K F ps J
 | .cl n,J=>∃a,F.μ[n]?=some a/\J=Itl K a
abbrev Jb(X:Cx)(aa:Hp)(ab:Fz)(f:Gx yX):TI:=tX X aa ab (YY X.K) f
def Fj(f:Gx (List PV)):Gx yX:=bnd f λps=>aY (.sq ps)
def KQ(n:Nat)(h:List az)(i:Nat):Option (Option PV):=match cX h (.ref n)with
 | some (.lst,ps)=>some ps[i]?
 | _=>none
def KR(h:List az)(p:PV):Option yX:=match xO p with
 | some ps=>some (.sq ps)
 | none=>match p with
  | .ref n=>match cX h (.ref n)with
   | some (.lst,_)=>some (.cl n)
   | _=>none
  | _=>none
def ik(fe:Gx PV):Gx yX:=bnd fe λp=>hp λh=>KR h p
def Ar(g:Tg)(body:Gx dB)(n:Nat):Nat->Nat->Gx dB
 | 0,_=>λ_=>none
 | f+1,i=>λst=>match KQ n st.h i with
  | some (some p)=>bnd (stp (g p)) (λ_=>bnd body (vi (Ar g body n f (i+1)))) st
  | some none=>some (.ok .nx,st)
  | none=>none
def YZ(g:Tg)(body:Gx dB):yX->Gx dB
 | .sq ps=>du g body ps
 | .cl n=>Ar g body n f9 0
def As(fi:Gx yX)(g:Tg)(body:Gx dB):Gx dB:=bnd fi (YZ g body)
section
variable {X:Cx} {aa:Hp} {ab:Fz} {e tg iter:Expr} {fa:Gx PV} {fb:Gx dB} {body:List Stmt} {pos:Pos}
def UO(h:PI X tg e (tI X aa ab f)):PI X tg e (Jb X aa ab (Fj f)):=(by rintro ae s σ H R I ⟨F,st,Rp,hh⟩;exact h ae s σ H R I ⟨F,st,Rp,hh.bnd λps J F1 br H1 R1 g1 b1 h1=>h1.aY J H1 F1 R1 (Gr.refl _) b1⟩)
def KU{K:W.Frag}{st:cC}(R:Rep K aa ab F st σ H)(ha:F.μ[n]?=some a)(e:KQ n st.h i=some o):∃ps vs,o=ps[i]?/\xb K H a vs/\aE K F ps vs:=by
 unfold KQ at e;split at e
 ·rename_i ps z;cases e;obtain⟨a',vs,e1,h1,h2⟩:=R.at z (dI.mpr ⟨a,ha,rfl⟩);cases e1;exact⟨ps,vs,rfl,kJ.sq h1,h2⟩
 ·cases e
def KW(he:PE X e (tE X aa ab fa)):PI X tg e (Jb X aa ab (ik fa)):=by
 rintro ae s σ H R I ⟨F,st,Rp,h⟩
 obtain⟨r,e1,e2⟩:=At.bnd h
 match r,e2 with
 | (.ex m C,br),e2 =>
  exact JN he ae s σ H R I ⟨F,st,Rp,_,e1,e2⟩
 | (.ok p,br),e2 =>
  obtain⟨ps,e3,q⟩:=At.hp e2;unfold KR at e3;split at e3
  ·rename_i qs e4;cases e3;unfold xO at e4;split at e4
   ·cases e4;refine JN he ae s σ H R I ⟨F,st,Rp,_,e1,λv H1 F1 R1 s1 b1=>?_⟩
    obtain⟨a,vs,rfl,hs,hb⟩:=cR.mp b1;exact⟨a,rfl,⟨vs,bL R1.sub hs⟩,q _ H1 F1 R1 s1 (KJ hs hb)⟩
   ·cases e4;refine EN he ae s σ H R I ⟨F,st,Rp,_,e1,λv H1 F1 R1 s1 b1=>?_⟩
    obtain⟨a,vs,rfl,hs,hb⟩:=gz.mp b1;exact⟨a,rfl,⟨vs,(zY R1.sub hs).sq⟩,q _ H1 F1 R1 s1 (Hz hs.sq hb)⟩
   ·cases e4
  ·split at e3
   ·rename_i n _;split at e3
    ·rename_i qs z;cases e3;refine EN he ae s σ H R I ⟨F,st,Rp,_,e1,λv H1 F1 R1 s1 b1=>?_⟩
     obtain⟨a,vs,rfl,hs,hb⟩:=R1.at z b1;obtain⟨a',ha,e5⟩:=dI.mp b1;cases e5;exact⟨a,rfl,⟨vs,kJ.sq hs⟩,q _ H1 F1 R1 s1 ⟨a,ha,rfl⟩⟩
    ·cases e3
   ·cases e3
def UP{fi:Gx yX}(hp:PassesOwn (model X.prog X.w) X.A X.env X.xe)(hc:X.calm=true)(hi:PI X tg iter (Jb X aa ab fi))(hg:PG X tg (tG X.K aa ab g))(hb:PSs X body (tS X aa ab fb))
  (hs:∀x,foldedSetIterable iter X.env x=pure x:=by intro _;rfl):PS X (.For tg iter body [] pos) (tS X aa ab (As fi g fb)):=(JO hp hc hi hg hb hs).imp <| by
 rintro D σ H ⟨F,st,R,h⟩
 refine⟨F,st,R,h.bnd λsr J F1 br H1 R1 g1 wk h1=>?_⟩
 cases sr with
 | sq ps =>
  refine⟨λi m bH H'=>m=ps.length-i/\i<=ps.length/\∃F' aB,Rep X.K aa ab F' aB bH H'/\Gr F1 F'/\Sa X aa ab F' D aB (du g fb (ps.drop i)),⟨ps.length,by simp,dF _,F1,br,R1,Gr.refl _,h1⟩,?_⟩
  rintro i m bH H' ⟨rfl,hi,F',aB,R',s',hr⟩
  obtain⟨wg,Y0⟩:=wk aa ab F' aB bH H' R' s' i;by_cases fO:i<ps.length
  ·obtain⟨go,wy⟩:=wg ps[i] (cO fO);rw[qQ fO]at hr;refine .inr ⟨go,λzF H2=>∃F2 st2,Rep X.K aa ab F2 st2 zF H2/\Gr F1 F2/\Sa X aa ab F2 D st2 (du g fb (ps.drop (i+1))),λzF H2 n2=>⟨ps.length-(i+1),by lia,rfl,fO,n2⟩,λx H2 y=>?_⟩
   obtain⟨F2,R2,s2,b2⟩:=wy x H2 y;obtain⟨r,e1,e2⟩:=At.bnd hr;obtain⟨Ry,e3,e4⟩:=bt e1;subst e4;refine⟨F2,aB,ps[i],Ry,R2,b2,e3,λoZ H3 F3 R3 s3=>⟨F3,Ry,R3,?_⟩⟩
   exact Sa.lU _ (λF4 jW Oo H4 R4 g4 z=>⟨F4,jW,R4,(s'.trans (s2.trans s3)).trans g4,z⟩) (Sa.mono (e2) (s2.trans s3))
  ·have e:i=ps.length:=by lia
   subst e;rw[rf]at hr;exact .inl ⟨Y0 (j0 (ao _)),At.aY hr F' bH H' R' (Gr.refl _)⟩
 | cl n =>
  obtain⟨a,ha,rfl⟩:=wk;refine⟨λi m bH H'=>∃F' aB,Rep X.K aa ab F' aB bH H'/\Gr F1 F'/\Sa X aa ab F' D aB (Ar g fb n m i),⟨f9,F1,br,R1,Gr.refl _,h1⟩,?_⟩
  rintro i m bH H' ⟨F',aB,R',s',hr⟩
  cases m with
  | zero=>obtain⟨r,e,_⟩:=hr;cases e
  | succ m =>
   obtain⟨r,e1,e2⟩:=hr;have e1:(match KQ n aB.h i with
    | some (some p)=>bnd (stp (g p)) (λ_=>bnd fb (vi (Ar g fb n m (i+1)))) aB
    | some none=>some (.ok .nx,aB)
    | none=>none)=some r:=e1
   cases z:KQ n aB.h i with
   | none=>rw[z]at e1;cases e1
   | some o =>
    obtain⟨ps,vs,ho,hq,E3⟩:=KU R' (s'.m n a ha) z;cases o with
    | none =>
     rw[z]at e1;cases e1;refine .inl ⟨⟨vs,hq,?_⟩,e2 F' bH H' R' (Gr.refl _)⟩;rw[<-E3.length];exact lK.mp ho.symm
    | some p =>
     rw[z]at e1;obtain⟨v,hv,bv⟩:=E3.get ho.symm;refine .inr ⟨⟨vs,v,hq,hv⟩,λzF H2=>∃F2 st2,Rep X.K aa ab F2 st2 zF H2/\Gr F1 F2/\Sa X aa ab F2 D st2 (Ar g fb n m (i+1)),λzF H2 n2=>⟨m,q9 m,n2⟩,λx H2 ⟨hH,y⟩=>?_⟩
     subst hH;have:=y vs hq;rw[hv]at this;cases this;obtain⟨r',q1,q2⟩:=At.bnd (⟨r,e1,e2⟩);obtain⟨Ry,e3,e4⟩:=bt q1;subst e4;refine⟨F',aB,p,Ry,R',bv,e3,λoZ H3 F3 R3 s3=>⟨F3,Ry,R3,?_⟩⟩
     exact Sa.lU _ (λF4 jW Oo H4 R4 g4 z=>⟨F4,jW,R4,(s'.trans s3).trans g4,z⟩) (Sa.mono (q2) s3)
end
def Fl(bd:PV->List az->Option (Option PV×List az))(n:Nat):Nat->Nat->List az->Option (List PV×List az)
 | 0,_,_=>none
 | f+1,i,h=>match KQ n h i with
  | some (some p)=>(bd p h).bind λr=>(Fl bd n f (i+1) r.2).map λs=>(r.1.toList++s.1,s.2)
  | some none=>some ([],h)
  | none=>none
def Y1(bd:PV->List az->Option (Option PV×List az))(h:List az):yX->Option (List PV×List az)
 | .sq ps=>if ps.length<=f9 then fz bd ps h else none
 | .cl n=>Fl bd n f9 0 h
def Rz(c:Bool)(ρ:List (Option PV))(r:List PV×List az):Option (Rs PV×cC):=if c=true then mJ ⟨.lst,r.1⟩ ⟨ρ,r.2⟩else some (.ok (.lst r.1),⟨ρ,r.2⟩)
def dh(c:Bool)(link:List (Option Nat))(fi:Gx yX)(bd:Bd):Gx PV:=bnd fi λs st=>(Y1 (bd (bO link st.ρ)) st.h s).bind (Rz c st.ρ)
section
variable {X:Cx} {aa:Hp} {ab:Fz} {N:List Str} {link:List (Option Nat)} {scope:Scope} {tg iter elt c:Expr} {pos:Pos} {fi:Gx yX} {g:Tg} {fe:Gx PV} {ft:Gx Bool} {L:List Nat} {cl:Bool}
def Au{br:cC}{Q:VK}(R':kL X.K aa ab F' hf H')(L1:Lc X.K F1 br.ρ σ)(g':Gr F1 F')(E3:aE X.K F' done acc)(hn:H' D=none)(e4:Rz cl br.ρ (done,hf)=some r)(e2:Kk X aa ab F1 (λa aB=>∀b H' F',Rep X.K aa ab F' aB σ H'->Gr F1 F'->bN X.K F' a b->Q b H') r):Q (.ref D) (cw H' D (.lst acc)):=by
 have Ro:Rep X.K aa ab F' ⟨br.ρ,hf⟩ σ H':=⟨R',L1.mono g'⟩;cases cl with
 | true =>
  have e4:=e4;exact Tx.mJ (Tx.mono ⟨r,e4,e2⟩ g' λ_ _ z=>z) Ro hn aD E3
 | false =>
  have e4:=e4;cases e4;obtain⟨R2,s2⟩:=Ro.laid (.lst acc) hn;exact e2 _ _ _ R2 (g'.trans s2) (gz.mpr ⟨D,acc,rfl,kJ.of aD,E3.mono s2⟩)
def vt{Q:VK}
  (hb:∀(F2:Fz) (ρ:List (Option PV)) (p:PV) (h h':List az) (o:Option PV) (x:V) (bH:St) (H2:Hp) (Q':Option V->St->Hp->Prop),bd (bO link ρ) p h=some (o,h')->Rep X.K aa ab F2 ⟨bO link ρ,h⟩ bH H2->bN X.K F2 p x ->
   (∀o' oZ H3 F3,Rep X.K aa ab F3 ⟨bO link ρ,h'⟩ oZ H3->Gr F2 F3->aE X.K F3 o.toList (Option.toList o')->Q' o' oZ H3)->tb x bH H2 Q')
  (h:tE X aa ab (dh cl link fi bd) σ H Q):vn link (Jb X aa ab fi) tb σ H Q:=by
 obtain⟨F,st,R,h⟩:=h;refine⟨F,st,R,h.bnd λsr J F1 br H1 R1 g1 wk h1=>?_⟩
 obtain⟨r,e1,e2⟩:=h1;obtain⟨⟨rs,hf⟩,e3,e4⟩:=aX e1;cases sr with
 | sq ps =>
  obtain⟨eA,e3⟩:=bX e3;refine⟨λi m acc bH H'=>m=ps.length-i/\i<=ps.length/\acc.length<=i/\∃F' h' done rest,Rep X.K aa ab F' ⟨bO link br.ρ,h'⟩ bH H'/\Gr F1 F'/\fz (bd (bO link br.ρ)) (ps.drop i) h'=some (rest,hf)/\done++rest=rs/\aE X.K F' done acc,
   ⟨ps.length,rfl,dF _,ao _,F1,br.h,[],rs,⟨R1.c,R1.l.gL link⟩,Gr.refl _,e3,rfl,.nil⟩,?_⟩
  rintro i m acc bH H' ⟨rfl,hi,ha,F',h',done,rest,R',g',hr,hd,E3⟩
  obtain⟨wg,Y0⟩:=wk aa ab F' _ bH H' R' g' i;by_cases fO:i<ps.length
  ·rw[qQ fO]at hr;obtain⟨⟨o,h2⟩,e5,e6⟩:=aX hr;obtain⟨⟨r2,h3⟩,e7,e8⟩:=bt e6;cases e8;obtain⟨go,wy⟩:=wg ps[i] (cO fO);refine .inr ⟨go,iC (bE ha hi) (iC eA (by decide)),λx H2 y=>?_⟩
   obtain⟨F2,R2,s2,b2⟩:=wy x H2 y;refine hb F2 br.ρ ps[i] h' h2 o x bH H2 _ e5 R2 b2 λo' oZ H3 F3 R3 s3 b3=>⟨ps.length-(i+1),by lia,rfl,fO,?_,F3,h2,done++o.toList,r2,R3,g'.trans (s2.trans s3),e7,by rw[<-hd,cg],(E3.mono (s2.trans s3)).append b3⟩
   rw[bu];cases o'<;>simp <;> lia
  ·have e:i=ps.length:=by lia
   subst e;rw[rf]at hr;cases hr;rw[fq]at hd;subst hd;exact .inl ⟨Y0 (j0 (ao _)),bE ha (fP eA),λD hn=>Au R'.c R1.l g' E3 hn e4 e2⟩
 | cl n =>
  obtain⟨a,hna,rfl⟩:=wk;refine⟨λi m acc bH H'=>i+m=f9/\acc.length<=i/\∃F' h' done rest,Rep X.K aa ab F' ⟨bO link br.ρ,h'⟩ bH H'/\Gr F1 F'/\Fl (bd (bO link br.ρ)) n m i h'=some (rest,hf)/\done++rest=rs/\aE X.K F' done acc,
   ⟨f9,fu _,ao _,F1,br.h,[],rs,⟨R1.c,R1.l.gL link⟩,Gr.refl _,e3,rfl,.nil⟩,?_⟩
  rintro i m acc bH H' ⟨hm,ha,F',h',done,rest,R',g',hr,hd,E3⟩
  cases m with
  | zero=>cases hr
  | succ m =>
   have hr:(match KQ n h' i with
    | some (some p)=>(bd (bO link br.ρ) p h').bind λr=>(Fl (bd (bO link br.ρ)) n m (i+1) r.2).map λs=>(r.1.toList++s.1,s.2)
    | some none=>some ([],h')
    | none=>none)=some (rest,hf):=hr
   have N8:i<=f9:=by lia
   cases z:KQ n h' i with
   | none=>rw[z]at hr;cases hr
   | some o =>
    obtain⟨ps,vs,ho,hq,hbq⟩:=KU R' (g'.m n a hna) z;rw[z]at hr;cases o with
    | none =>
     cases hr;rw[fq]at hd;subst hd;refine .inl ⟨⟨vs,hq,?_⟩,bE ha (fP N8),λD hn=>Au R'.c R1.l g' E3 hn e4 e2⟩
     rw[<-hbq.length];exact lK.mp ho.symm
    | some p =>
     obtain⟨⟨o,h2⟩,e5,e6⟩:=aX hr;obtain⟨⟨r2,h3⟩,e7,e8⟩:=bt e6;cases e8;obtain⟨v,hv,bv⟩:=hbq.get ho.symm;refine .inr ⟨⟨vs,v,hq,hv⟩,iC (bE ha N8) (by decide),λx H2 ⟨hH,y⟩=>?_⟩
     subst hH;have:=y vs hq;rw[hv]at this;cases this;refine hb F' br.ρ p h' h2 o v bH H2 _ e5 R' bv λo' oZ H3 F3 R3 s3 b3=>⟨m,q9 m,by lia,?_,F3,h2,done++o.toList,r2,R3,g'.trans s3,e7,by rw[<-hd,cg],(E3.mono s3).append b3⟩
     rw[bu];cases o'<;>simp <;> lia
def KY(hg:KG L g)(hL:∀i∈L,link[i]?=some none)(h:tE X aa ab (dh cl link fi (k7 g fe)) σ H Q):vn link (Jb X aa ab fi) (tb1 X aa ab g fe) σ H Q :=
 vt (λF2 ρ p h h' o x bH H2 Q' e R2 b2 k=>by
  obtain⟨br,e1,e⟩:=aX e;obtain⟨r,e2,e⟩:=aX e;obtain⟨⟨a,hh⟩,e3,e4⟩:=bt e;cases e4;obtain⟨uw,rfl,rfl⟩:=Ao e3;obtain⟨l1,k1⟩:=hg _ _ _ e1;refine⟨F2,_,p,br,R2,b2,e1,λoZ H3 F3 R3 s3 Y hY=>⟨F3,br,by grind,_,e2,λv H4 F4 R4 s4 b4=>?_⟩⟩
  rw[hY]at R4 b4;exact k (some v) oZ H4 F4 ⟨R4.c,(R3.l.mono s4).back (l1.symm.trans R3.l.len) rfl k1 hL⟩ (s3.trans s4) (.cons b4 .nil)) h
def KZ(hg:KG L g)(hL:∀i∈L,link[i]?=some none)(h:tE X aa ab (dh cl link fi (k8 g ft fe)) σ H Q):vn link (Jb X aa ab fi) (tb2 X aa ab g ft fe) σ H Q :=
 vt (λF2 ρ p h h' o x bH H2 Q' e R2 b2 k=>by
  obtain⟨br,e1,e⟩:=aX e;obtain⟨r,e2,e⟩:=aX e;obtain⟨l1,k1⟩:=hg _ _ _ e1;refine⟨F2,_,p,br,R2,b2,e1,λoZ H3 F3 R3 s3 Y hY=>⟨F3,br,by grind,r,e2,?_⟩⟩
  match r,e with
  | (.ok b,st2),e =>
   intro b' H4 F4 R4 s4 eb;cases eb;cases b with
   | true =>
    have e:=e;obtain⟨r,e5,e⟩:=aX e;obtain⟨⟨a,hh⟩,e6,e7⟩:=bt e;cases e7;obtain⟨uw,rfl,rfl⟩:=Ao e6;rw[if_pos rfl];refine⟨F4,st2,R4,_,e5,λv H5 F5 R5 s5 b5=>?_⟩
    rw[hY]at R5 b5;exact k (some v) oZ H5 F5 ⟨R5.c,(R3.l.mono (s4.trans s5)).back (l1.symm.trans R3.l.len) rfl k1 hL⟩ (s3.trans (s4.trans s5)) (.cons b5 .nil)
   | false =>
    have e:=e;cases e;rw[hY]at R4;exact k none oZ H4 F4 ⟨R4.c,(R3.l.mono s4).back (l1.symm.trans R3.l.len) rfl k1 hL⟩ (s3.trans s4) .nil) h
end
def Jc(P:Program)(w:World)(a:Addr)(vs:List (bB×Value))(ep:Nat):HO:=.ext λh=>h.DictAt (c9 P w) a vs ep
def Itd(P:Program)(w:World)(a:Addr)(vs:List (bB×Value))(ep:Nat):It :=
 ⟨λi H=>H a=some (Jc P w a vs ep)/\i<vs.length,λi H x H'=>H'=H/\∃k,(vs.map (·.1))[i]?=some k/\x=kV k,λi H=>H a=some (Jc P w a vs ep)/\vs.length<=i⟩
def OX{k:bB}{u:Value}(h:rJ k u=true):RelV (kV k) u:=by
 rcases cW h with⟨i,t,rfl,rfl⟩ | ⟨x,t,rfl,rfl⟩
 ·exact⟨t,rfl⟩
 ·exact⟨t,rfl⟩
def K1{P:Program}{w:World}{K:W.Frag}{tg:Expr}(a it:Addr)(vs:List (bB×Value))(ep:Nat):Turn P w K tg (Itd P w a vs ep) [it] it (λi h=>h.IsKeyIter it a i vs.length ep) where
 mem:=by simp
 obj:=λi h st b hb=>by
  rw[bC]at hb;subst hb;obtain⟨o,e,c,d⟩:=st;exact⟨o,e,λv z=>by rw[d]at z;cases z⟩
 keep:=λi h h' st k=>st.at λo e=>k it (by simp) o e
 item:=by
  intro X hP hw hK hc i ae s σ H E I hf st hg;subst hP hw hK;obtain⟨ha,hi⟩:=hg;obtain⟨f0,f1,f2,f3,f4,f5⟩:=hf it (by simp)
  have dd:s.heap.DictAt (c9 X.prog X.w) a vs ep:=(I.hok a _ ha).1;refine wpAny_pyNext_dict_item st dd (cO hi) λkey h' hk um hs=>?_
  have I1:Inv X ae σ H {s with heap:=h'}:=I.turned (λb o hb e=>hs.extBut b o hb e) f0 f1 f3 f4 f5
  obtain⟨o,ho,EK,hd⟩:=id um;exact⟨key,rfl,EM ho EK hd (by decide) ⟨kV vs[i].1,H,I1,OX hk,⟨rfl,_,by rw[bR,cO hi];rfl,rfl⟩,um,λb hb=>(hf b hb).1⟩⟩
 done:=by
  intro X hP hw hK hc i ae s σ H E I hf st hg;subst hP hw hK;obtain⟨ha,hi⟩:=hg;obtain⟨f0,f1,f2,f3,f4,f5⟩:=hf it (by simp)
  exact wpAny_pyNext_dict_end (I.ok.hd hc) st (I.hok a _ ha).1 (j0 hi) λh' eb=>⟨rfl,I.turned (λb o hb e=>eb b o hb e) f0 f1 f3 f4 f5⟩
 self:=λ_ _ _ _ _ st h=>wpAny_pyIter_keyiter st h
section
variable {X:Cx} {tg:Expr}
def adi(P:Program)(w:World)(te:TE):TI:=λσ H R=>te σ H λx H1=>∃a kvs,x=.ref a/\H1 a=some (.dK kvs)/\∀vs ep,KV kvs vs->kvs.length<=sizeLine->(a==sysModules)=false->R (Itd P w a vs ep) (cw H1 a (Jc P w a vs ep))
def UQ{l:Expr}{tl:TE}(hl:PE X l tl):PI X tg l (adi X.prog X.w tl):=by
 intro ae s σ H R I h;refine thn (hl ae s σ H _ I h) λv s1 z9=>?_
 obtain⟨x,H1,I1,r1,a,kvs,rfl,ha,q⟩:=z9;cases r1;obtain⟨hz,hS,vs,r,o,es,ep,d⟩:=I1.hok a _ ha;have dd:s1.heap.DictAt (c9 X.prog X.w) a vs ep:=⟨o,es,d⟩;have I2:Inv X ae σ (cw H1 a (Jc X.prog X.w a vs ep)) s1:=I1.write (e:=a) (by rw[ha];trivial) (.inl rfl) (λb u _ q=>q) ⟨o,d.1⟩ ⟨dd,⟨o,d.1⟩,λh1 h2 ⟨o',SX,e1,e2⟩ k=>⟨o',SX,k _ e1,e2⟩⟩
 refine wpAny_pyIter_dict hS dd ?_;refine⟨s1.heap.objs.size,[s1.heap.objs.size],_,_,_,rfl,I2.kept λb o e=>aZ _ e,K1 a _ vs ep,⟨_,cB _ rfl,rfl,rfl⟩,λb hb=>?_,q vs ep r hz hS⟩
 rw[bC]at hb;subst hb;exact I2.GV (ao _) (I2.hok.fresh (ao _))
def Unl(X:Cx)(D:uu):uu:={D with nx:=λσ H=>D.nx σ H\/∃a kvs vs ep,KV kvs vs/\kvs.length<=sizeLine/\(a==sysModules)=false/\H a=some (Jc X.prog X.w a vs ep)/\D.nx σ (cw H a (.dK kvs))}
def UR{st:Stmt}{t:TS}(h:PS X st t):PS X st (λD σ H=>t (Unl X D) σ H):=by
 intro ae s σ H D I q;refine js (h ae s σ H _ I q) (λf s1 z=>?_) λ_ _ z=>z
 cases f with
 | next =>
  obtain⟨bH,H',I',z | ⟨a,kvs,vs,ep,r,hz,hS,ha,z⟩⟩:=z
  ·exact⟨bH,H',I',z⟩
  ·obtain⟨o,es,d⟩:s1.heap.DictAt (c9 X.prog X.w) a vs ep:=(I'.hok a _ ha).1;have I2:Inv X ae bH (cw H' a (.dK kvs)) s1:=I'.write (e:=a) (by rw[ha];trivial) (.inl rfl) (λb u _ q=>q) ⟨o,d.1⟩ ⟨hz,hS,vs,r,o,es,ep,d⟩
   exact⟨bH,_,I2,z⟩
 | brk=>exact z
 | cont=>exact z
 | ret u=>exact z
end
def NE(H H':Hp):Prop:=∀c o,H c=some o->(∀φ,o≠.ext φ)->H' c=some o
section
variable {K:W.Frag} {H H' G G':Hp}
def NE.rd(e:NE H H')(h:Rd H a u)(hu:∀φ,u≠.ext φ):Rd H' a u:=by
 rcases h with h | ⟨o,h⟩
 ·exact .inl (e _ _ h hu)
 ·exact .inr ⟨o,e _ _ h λ_ z=>nomatch z⟩
def NE.ay(e:NE H H')(h:ip K H a xs):ip K H' a xs:=h.imp (λh=>e.rd h λ_ z=>nomatch z) id
def kX.ne(h:kX K G H a x k vs)(g:NE G G')(e:NE H H'):kX K G' H' a x k vs:=by
 cases k with
 | ay=>exact⟨h.1,e.ay h.2⟩
 | lst =>
  cases x with
  | true=>exact e _ _ h λ_ z=>nomatch z
  | false=>exact Or.imp (λh=>e.rd h λ_ z=>nomatch z) id h
 | oX C ns =>
  obtain⟨Ca,dx,fs,h1,h2,h3,h4,h5⟩:=h;exact⟨Ca,dx,fs,h1,h2,h3,e _ _ h4 (λ_ z=>nomatch z),h5⟩
 | gR t ks =>
  cases t with
  | false =>
   obtain⟨kvs,h1,h2⟩:=h;exact⟨kvs,e _ _ h1 (λ_ z=>nomatch z),h2⟩
  | true =>
   obtain⟨xs,h1,h2,h3⟩:=h;exact⟨xs,e _ _ h1 (λ_ z=>nomatch z),λz hz=>g.ay (h2 z hz),h3⟩
mutual
theorem bN.ne{F F':Fz}(g:NE F.F F'.F)(m:F'.μ=F.μ):∀{p:PV} {v:V},bN K F p v->bN K F' p v
 | .bQ,_,h=>h
 | .bl _,_,h=>h
 | .int _,_,h=>h
 | .str _,_,h=>h
 | .ref _,_,h=>by obtain⟨a,h1,h2⟩:=h;exact⟨a,by rw[m];exact h1,h2⟩
 | .fn _,_,h=>h
 | .nd k ps,_,h=>by obtain⟨a,vs,h1,h2,h3⟩:=h;exact⟨a,vs,h1,h2.ne g g,aE.ne g m h3⟩
theorem aE.ne{F F':Fz}(g:NE F.F F'.F)(m:F'.μ=F.μ):∀{ps:List PV} {vs:List V},aE K F ps vs->aE K F' ps vs
 | [],_,h=>h
 | _::_,_,h=>by obtain⟨v,r,h1,h2,h3⟩:=h;exact⟨v,r,h1,bN.ne g m h2,aE.ne g m h3⟩
end
end
def Av:az:=⟨.ay,[]⟩
def Aw(H:Hp)(a:Addr):Hp:=λb=>if b=a then none else H b
def sM(h:b≠a):Aw H a b=H b:=if_neg h
section
variable {K:W.Frag} {aa H:Hp} {ab F F':Fz} {st:cC} {σ:St} {a:Addr} {n:Nat} {c:az}
def RA{μ:List Addr}(hd:μ.Nodup)(h1:μ[n]?=some a)(h2:μ[m]?=some b)(hm:m≠n):b≠a:=λz=>by
 subst z;exact hm ((List.getElem?_inj (cf.mp h2).1 hd).mp (h2.trans h1.symm))
def Rep.lock(R:Rep K aa ab F st σ H)(ha:F.μ[n]?=some a)(hf:F.F a=none)(u:HO):Rep K aa ab ⟨cw F.F a u,F.μ⟩ ⟨st.ρ,st.h.set n Av⟩ σ (cw H a u)/\Gr F ⟨cw F.F a u,F.μ⟩:=by
 have g:Gr F ⟨cw F.F a u,F.μ⟩:=⟨eX hf,λ_ _ h=>h⟩
 have h0:=(R.c.new n a ha).1;refine⟨⟨⟨λb o e=>?_,λb o e=>?_,R.c.base.trans g,λb o e=>?_,λm b e=>?_,by simp[R.c.hl],R.c.nd,λm d b hd hb hl=>?_⟩,R.l.mono g⟩,g⟩
 ·have e:cw F.F a u b=some o:=e;by_cases hb:b=a
  ·subst hb;rw[aD]at e ⊢;exact e
  ·rw[aI hb]at e ⊢;exact R.c.sub _ _ e
 ·rw[aI (bU e h0)];exact R.c.keep _ _ e
 ·have e:cw F.F a u b=some o:=e;by_cases hb:b=a
  ·subst hb;exact .inr h0
  ·rw[aI hb]at e;exact R.c.fresh _ _ e
 ·obtain⟨h1,o,h2⟩:=R.c.new m b e;by_cases hb:b=a
  ·subst hb;exact⟨h1,u,aD⟩
  ·exact⟨h1,o,by rw[aI hb];exact h2⟩
 ·by_cases hm:m=n
  ·subst hm;rw[List.getElem?_set_self' ]at hd;cases z:st.h[m]? with
   | none=>rw[z]at hd;cases hd
   | some d'=>rw[z]at hd;cases hd;cases hl
  ·rw[j4 (dn hm)]at hd;have jN:=RA R.c.nd ha hb hm;obtain⟨h1,vs,h2,h3⟩:=R.c.cell m d b hd hb hl;exact⟨(aI jN).trans h1,vs,h2.to g.s (λo e=>by rw[aI jN];exact e) (λz=>z),h3.mono g⟩
def Rep.unlock{F1:Fz}(R:Rep K aa ab F' ⟨ρ,h⟩ σ H)(ha:F'.μ[n]?=some a)(hx:F'.F a=some (.ext φ))(g1:Gr F1 F')(hf:F1.F a=none)(b0:Gr ab F1)(hn:n<h.length)(u:HO)(hc:∀G,kX K G (cw H a u) a true c.k vs)(hv:aE K F1 c.ps vs) :
  Rep K aa ab ⟨Aw F'.F a,F'.μ⟩ ⟨ρ,h.set n c⟩ σ (cw H a u)/\Gr F1 ⟨Aw F'.F a,F'.μ⟩:=by
 have g:Gr F1 ⟨Aw F'.F a,F'.μ⟩:=⟨λb o e=>(sM (bU e hf)).trans (g1.s _ _ e),g1.m⟩
 have hne:NE F'.F (Aw F'.F a):=λb o e q=>by
  by_cases hb:b=a
  ·subst hb;rw[hx]at e;cases e;exact absurd rfl (q φ)
  ·rw[sM hb];exact e
 have h0:=(R.c.new n a ha).1;have hHa:H a=some (.ext φ):=R.c.sub _ _ hx;have hnH:NE H (cw H a u):=λb o e q=>by
  by_cases hb:b=a
  ·subst hb;rw[hHa]at e;cases e;exact absurd rfl (q φ)
  ·rw[aI hb];exact e
 refine⟨⟨⟨λb o e=>?_,λb o e=>?_,b0.trans g,λb o e=>?_,λm b e=>?_,by rw[rh];exact R.c.hl,R.c.nd,λm d b hd hb hl=>?_⟩,⟨λi p e=>?_,R.l.len⟩⟩,g⟩
 ·by_cases hb:b=a
  ·subst hb;exact nomatch (show none=some o from(if_pos rfl:Aw F'.F b b=none).symm.trans e)
  ·rw[aI hb];exact R.c.sub _ _ ((sM hb).symm.trans e)
 ·rw[aI (bU e h0)];exact R.c.keep _ _ e
 ·by_cases hb:b=a
  ·subst hb;exact .inr h0
  ·exact R.c.fresh _ _ ((sM hb).symm.trans e)
 ·obtain⟨h1,o,h2⟩:=R.c.new m b e;by_cases hb:b=a
  ·subst hb;exact⟨h1,u,aD⟩
  ·exact⟨h1,o,by rw[aI hb];exact h2⟩
 ·by_cases hm:m=n
  ·subst hm;rw[nJ hn]at hd;cases hd;cases ha.symm.trans hb;exact⟨if_pos rfl,vs,hc _,hv.mono g⟩
  ·rw[j4 (dn hm)]at hd;have jN:=RA R.c.nd ha hb hm;obtain⟨h1,ws,h2,h3⟩:=R.c.cell m d b hd hb hl;exact⟨(sM jN).trans h1,ws,h2.ne hne hnH,aE.ne (F:=F') (F':=⟨Aw F'.F a,F'.μ⟩) hne rfl h3⟩
 ·obtain⟨v,h1,h2⟩:=R.l.av i p e;exact⟨v,h1,bN.ne (F:=F') (F':=⟨Aw F'.F a,F'.μ⟩) hne rfl h2⟩
end
def kyP:bB->PV
 | .inl i=>.int i
 | .inr x=>.str x
def lz(ks:List (List bB)):List PV:=ks.map λk=>match k with | [j]=>kyP j | _=>.bQ
def unD(n:Nat)(c:az):Rs dB×cC->Option (Rs dB×cC)
 | (.ok .nx,st)=>if n<st.h.length then some (.ok .nx,⟨st.ρ,st.h.set n c⟩)else none
 | (.ok (.rt p),st)=>some (.ok (.rt p),st)
 | _=>none
def Y2:Kd->Option (List (List bB))
 | .gR false ks=>some ks
 | _=>none
def OY(fe:Gx PV)(g:Tg)(body:Gx dB):Gx dB:=bnd fe λp st=>(qb st.h p).bind λq=>(Y2 q.2.k).bind λks=>(du g body (lz ks) ⟨st.ρ,st.h.set q.1 Av⟩).bind (unD q.1 q.2)
theorem OZ:∀{kvs:List (bB×V)} {vs:List (bB×Value)},KV kvs vs->kvs.map (·.1)=vs.map (·.1):=λ{kvs vs} r=>by
 unfold KV at r;induction r with
 | nil=>rfl
 | cons h _ ih=>rw[aM,aM,h.1,ih]
def K2{K:W.Frag}(hF:F.F a=some (Jc P w a vs ep))(hk:vs.map (λy=>[y.1])=ks):Walk K F (lz ks) (Itd P w a vs ep):=by
 intro aa ab F' st σ H R s i;have hH:=R.c.sub _ _ (s.s _ _ hF);subst hk;unfold lz;rw[b6,bR];refine⟨λp e=>?_,λe=>⟨hH,?_⟩⟩
 ·obtain⟨y,hy,rfl⟩:=nL.mp e;refine⟨⟨hH,(cf.mp hy).1⟩,λx H' z=>?_⟩
  obtain⟨rfl,k,hk,rfl⟩:=z;rw[bR,hy]at hk;cases hk;refine⟨F',R,Gr.refl _,?_⟩;show bN K F' (kyP y.1) (kV y.1);cases y.1 with
  | inl i=>exact aG.mpr rfl
  | inr x=>exact cP.mpr rfl
 ·rw[Option.map_eq_none_iff]at e;exact lK.mp e
section
variable {X:Cx} {aa:Hp} {ab:Fz} {tg iter:Expr} {fe:Gx PV} {fb:Gx dB} {body:List Stmt} {pos:Pos} {D:uu}
def US(hp:PassesOwn (model X.prog X.w) X.A X.env X.xe)(hc:X.calm=true)(he:PE X iter (tE X aa ab fe))(hg:PG X tg (tG X.K aa ab g))(hb:PSs X body (tS X aa ab fb))
  (hs:∀x,foldedSetIterable iter X.env x=pure x:=by intro _;rfl):PS X (.For tg iter body [] pos) (tS X aa ab (OY fe g fb)):=(UR (JO hp hc (UQ he) hg hb hs)).imp λD σ H h=>by
 obtain⟨F,st,R,h⟩:=h;refine⟨F,st,R,h.bnd λp v F1 br H1 R1 g1 b1 h1=>?_⟩
 obtain⟨r,e1,e2⟩:=h1;obtain⟨⟨n,c⟩,d1,e0⟩:=aX e1;clear e1;obtain⟨rfl,hc1,hl⟩:=je d1;obtain⟨ks,d2,e1⟩:=aX e0;obtain⟨q,d3,e1⟩:=aX e1;obtain⟨a,ha,rfl⟩:=dI.mp b1;obtain⟨ck,cp⟩:=c;have d2:Y2 ck=some ks:=d2;cases ck with
 | gR t xJ =>
  cases t with
  | true=>cases d2
  | false =>
   cases d2;obtain⟨hf,ws,⟨kvs,k1,k2,k3⟩,hv⟩:=R1.c.cell n _ a hc1 ha hl;refine⟨a,kvs,rfl,k1,λvs ep kv hz hS=>?_⟩
   obtain⟨R2,g2⟩:=R1.lock ha hf (Jc X.prog X.w a vs ep);have hn:n<br.h.length:=(cf.mp hc1).1;have hF:cw F1.F a (Jc X.prog X.w a vs ep) a=some (Jc X.prog X.w a vs ep):=aD;have wk:Walk X.K ⟨cw F1.F a (Jc X.prog X.w a vs ep),F1.μ⟩ (lz ks) (Itd X.prog X.w a vs ep):=K2 hF (by
    rw[<-k2,show(λy:bB×Value=>[y.1])=(λk=>[k]) ∘ (·.1)from rfl,show(λy:bB×V=>[y.1])=(λk=>[k]) ∘ (·.1)from rfl,<-b6,<-b6,OZ kv])
   have h2:Sa X aa ab ⟨cw F1.F a (Jc X.prog X.w a vs ep),F1.μ⟩ (Unl X D) ⟨br.ρ,br.h.set n Av⟩ (du g fb (lz ks)):=by
    refine⟨q,d3,?_⟩;obtain⟨f | ⟨m,C⟩,uw⟩:=q
    ·cases f with
     | nx =>
      intro F' bH H' R' g';obtain⟨hn3,e4⟩:=bX e1;cases e4;obtain⟨R4,g4⟩:=Rep.unlock (c:=⟨.gR false ks,cp⟩) R' (g'.m n a ha) (g'.s _ _ hF) (g2.trans g') hf R1.c.base hn3 (.dK kvs) (λG=>⟨kvs,aD,k2,k3⟩) hv
      exact .inr ⟨a,kvs,vs,ep,kv,hz,hS,R'.c.sub _ _ (g'.s _ _ hF),e2 _ bH _ R4 g4⟩
     | rt p=>cases e1;exact λv F' H' C' g' b'=>e2 v F' H' C' (g2.trans g') b'
     | bk=>cases e1
     | ct=>cases e1
    ·cases e1
   generalize hps:lz ks=ps at wk h2
   generalize hF2:(⟨cw F1.F a (Jc X.prog X.w a vs ep),F1.μ⟩:Fz)=F2 at R2 wk h2
   generalize (⟨br.ρ,br.h.set n Av⟩:cC)=st2 at R2 h2
   refine⟨λi m bH H'=>m=ps.length-i/\i<=ps.length/\∃F' aB,Rep X.K aa ab F' aB bH H'/\Gr F2 F'/\Sa X aa ab F' (Unl X D) aB (du g fb (ps.drop i)),⟨ps.length,by simp,dF _,F2,st2,R2,Gr.refl _,h2⟩,?_⟩
   rintro i m bH H' ⟨rfl,hi,F',aB,R',s',hr⟩
   obtain⟨wg,Y0⟩:=wk aa ab F' aB bH H' R' s' i;by_cases fO:i<ps.length
   ·obtain⟨go,wy⟩:=wg ps[i] (cO fO);rw[qQ fO]at hr;refine .inr ⟨go,λzF H2=>∃Y3 st2,Rep X.K aa ab Y3 st2 zF H2/\Gr F2 Y3/\Sa X aa ab Y3 (Unl X D) st2 (du g fb (ps.drop (i+1))),λzF H2 n2=>⟨ps.length-(i+1),by lia,rfl,fO,n2⟩,λx H2 y=>?_⟩
    obtain⟨Y3,R2,s2,b2⟩:=wy x H2 y;obtain⟨r,e1,e2⟩:=At.bnd hr;obtain⟨Ry,e3,e4⟩:=bt e1;subst e4;refine⟨Y3,aB,ps[i],Ry,R2,b2,e3,λoZ H3 F3 R3 s3=>⟨F3,Ry,R3,?_⟩⟩
    exact Sa.lU _ (λF4 jW Oo H4 R4 g4 z=>⟨F4,jW,R4,(s'.trans (s2.trans s3)).trans g4,z⟩) (Sa.mono (e2) (s2.trans s3))
   ·have e:i=ps.length:=by lia
    subst e;rw[rf]at hr;exact .inl ⟨Y0 (j0 (ao _)),At.aY hr F' bH H' R' (Gr.refl _)⟩
 | _=>cases d2
end
def Fm{P:Program}{w:World}{H':Hp}{h1 h5 B:Heap}(x:lT P w H' h1)(hB:∀b o,H' b=some o->∃ob,B.get? b=some ob)(k1:B.StaysIn h1)(k5:B.StaysIn h5):lT P w H' h5:=λa o e=>by
 have keep:∀b u o',H' b=some o'->h1.get? b=some u->h5.get? b=some u:=λb u o' eb q=>by
  obtain⟨ob,hob⟩:=hB b o' eb;have:=k1 b ob hob;rw[q]at this;cases this;exact k5 b _ hob
 refine(x a o e).w5 (λb u hb q=>?_) (λ_ q=>q) (λ_ _ q=>q) λ_ _ _ q=>q
 rcases hb with rfl | hb
 ·exact keep _ _ _ e q
 ·exact keep _ _ _ hb q
def K3{l:List Env}{H H':Hp}{h h1 h5 B B':Heap}(u:Un (oq l) [] H H' h h1)(sm:Dm H H')(hB:∀b o,H' b=some o->∃ob,B.get? b=some ob)(hU:∀b ob,h.get? b=some ob->H b=none->b∉oq l->B.get? b=some ob)
  (k5:B.StaysIn h5) (fr:h1.FunFrames B' l) (up:h1.UpToSlots h5):Un (oq l) [] H H' h h5:=by
 have slot:∀b o,h.get? b=some o->H b=none->b∈oq l->∃sl,h5.get? b=some {o with slots:=sl}:=λb o q n hb=>by
  obtain⟨sl,e⟩:=u.slot b o q n hb (by simp)
  obtain⟨_,o',nC,hd⟩:=fr.mem hb;rw[e]at nC;cases nC;obtain⟨Xn,e'⟩:=up b _ e hd;exact⟨Xn,e'⟩
 refine⟨λb o q n hb _=>k5 b o (hU b o q n hb),λb o q n hb _=>slot b o q n hb,u.free,λb o q hx=>?_,u.tups,u.frzs,u.tbls⟩
 cases z:H b with
 | none =>
  by_cases hb:b∈oq l
  ·grind
  ·exact⟨o,k5 b o (hU b o q z hb)⟩
 | some v =>
  obtain⟨v',z'⟩:=sm b v z;obtain⟨ob,hob⟩:=hB b v' z';exact⟨ob,k5 b ob hob⟩
def HB{P:Program}{w:World}{H:Hp}{h:Heap}{a:Addr}{o:HO}(x:fZ P w H h a o):∃ob,h.get? a=some ob:=by
 cases o with
 | lst xs=>obtain⟨_,_,_,_,e⟩:=x;exact⟨_,e⟩
 | ay xs=>obtain⟨_,_,_,ob,e,_⟩:=x;exact⟨_,e⟩
 | dK kvs=>obtain⟨_,_,_,_,o,_,_,e,_⟩:=x;exact⟨_,e⟩
 | dT kvs=>obtain⟨_,_,o,_,_,e,_⟩:=x;exact⟨_,e⟩
 | set S n=>obtain⟨o,_,_,_,e,_⟩:=x;exact⟨_,e⟩
 | oX C dx fs=>obtain⟨_,_,_,e,_⟩:=x;exact⟨_,e⟩
 | own y=>obtain⟨_,e⟩:=x;exact⟨_,e⟩
 | xd fs=>obtain⟨_,⟨_,_,_,e,_⟩,_⟩:=x;exact⟨_,e⟩
 | rng lo hi=>obtain⟨_,_,_,e⟩:=x;exact⟨_,e⟩
 | oY ob u=>obtain⟨e,_⟩:=x;exact⟨_,e⟩
 | CF q=>obtain⟨_,e,_⟩:=x;exact⟨_,e⟩
 | met f y=>exact⟨_,show h.get? a=some _ from x⟩
 | ext φ=>obtain⟨_,⟨_,e⟩,_⟩:=x;exact⟨_,e⟩
section
variable {P:Program} {w:World} {K:W.Frag} {mg:Str->Option Value} {base:Heap} {N:List Str} {qual:Str} {scope:Scope} {f:Addr} {cd:Value} {A:Around} {aA:List Env} {s:Shared} {H:Hp} {E E1:XK} {ae:List (Addr×Obj)} {σ:St} {H1:Hp} {s1 s':Shared} {e:Value}
def Fo(I:Inv (fF (i9 P w) P w K mg base N qual scope f cd A aA s H E) ae σ H1 s1){b:Addr}{ob:Obj}(q:s.heap.get? b=some ob)(hb:b∉oq aA):b∉oq (envOfC qual scope s.heap.objs.size f cd::aA):=λhm=>by
 rcases aU.mp (I.w6 b hm)with z | z
 ·exact absurd (aV q) (by rw[z];exact gE _)
 ·exact hb z
def Ax(I:Inv (fF (i9 P w) P w K mg base N qual scope f cd A aA s H E) ae σ H1 s1)(h:i9 P w (envOfC qual scope s.heap.objs.size f cd::aA) H1 s1 E1 e s')(hE:∀cls H2,E1 cls none H2->Dm H H2/\E cls none H2) :
  (fF (i9 P w) P w K mg base N qual scope f cd A aA s H E).xe e s':=by
 obtain⟨a,cls,a0,B,H2,rfl,M6,hb,un,hok,sm,he,UT,hB,hU⟩:=h;obtain⟨Y4,hE⟩:=hE cls H2 he;have I2:=I.QO M6 un hok hb (λb z=>absurd z (by simp))
 refine wpAny_leaves_onW I.ok.frames rfl UT λh' UU up=>?_
 have hU':∀b ob,s.heap.get? b=some ob->H b=none->b∉oq aA->B.get? b=some ob:=λb ob q n hb=>hU b ob (I.base.keep b ob q n hb (by simp[fF])) (I.base.free b ob q n (by simp[fF])) (Fo I q hb)
 exact⟨a,cls,a0,B,H2,rfl,M6.trans I.os,hb,K3 I2.base Y4 hB hU' UU.1 UT.2.2.1.2.2 up,Fm hok hB UT.1 UU.1,Y4,hE,UU,hB,hU'⟩
def Fp{h1:Heap}{a:Addr}{cls:Value}{vs:List Value}(I:Inv (fF (i9 P w) P w K mg base N qual scope f cd A aA s H E) ae σ H1 s1)(hm:Heap.MadeExcOf s1.heap h1 a cls vs)(Y4:Dm H H1)(hE:E cls none H1) :
  (fF (i9 P w) P w K mg base N qual scope f cd A aA s H E).xe (.ref a) {s1 with heap:=h1}:=by
 have hB:∀b o,H1 b=some o->∃ob,(W.hideAll s1.heap (oq (envOfC qual scope s.heap.objs.size f cd::aA))).get? b=some ob:=λb o e=>by
  obtain⟨ob,q⟩:=HB (I.hok b o e);exact⟨ob,W.hideAll_get _ q λhb=>by
   have:=I.w9 b hb;rw[e]at this;cases this⟩
 have hU:∀b ob,s.heap.get? b=some ob->H b=none->b∉oq aA->(W.hideAll s1.heap (oq (envOfC qual scope s.heap.objs.size f cd::aA))).get? b=some ob:=λb ob q n hb =>
  W.hideAll_get _ (I.base.keep b ob q n hb (by simp[fF])) (Fo I q hb)
 refine wpAny_leaves_madeW I.ok.frames rfl (λb o q=>W.of_hideAll _ q) (W.funFrames_hide I.stack λenv he b hb=>qX.mpr ⟨env,he,hb⟩) hm λh' t UT ay tn up=>?_
 refine⟨a,cls,.ref t,_,H1,rfl,I.os,I.bare,K3 (I.base.trans (Un.kept hm.keeps)) Y4 hB hU UT.1 (I.funs.of_keeps λb o q _=>⟨o,hm.keeps b o q,rfl⟩) up,Fm (I.hok.kept hm.keeps) hB (λb o q=>hm.keeps b o (W.of_hideAll _ q)) UT.1,Y4,hE,UT,hB,hU⟩
end
def Dv(K:W.Frag)(f:Addr)(cZ:Value):Prop:=∃oc od fd yV,K.lookup f=some ⟨oc,od,.func fd,yV⟩/\fd.code=cZ
def O0{P:Program}{w:World}{K:W.Frag}{mg:Str->Option Value}{base:Heap}{x qual:Str}{st:Stmt}{f:Addr}{fd:FuncData}{N ps:List Str}{k:Nat}{sp:Sp}(F:CG K x qual st f fd)(S:dG N ps (au st))(len:∀vs H Q E,sp vs H Q E->vs.length=ps.length)
  (hbody:∀(cZ:Value) (A:Around) (aA:List Env) (s:Shared) (H:Hp) (vs:List V) (Q:VK) (E:XK),Dv K f cZ->dM k (A.deeper (envOfC qual (au st) s.heap.objs.size f cZ))->sp vs H Q E ->
   ∃t,PSs (fF (i9 P w) P w K mg base N qual (au st) f cZ A aA s H E) (dk st) t/\t {nx:=λ_ H'=>Q .bQ H',rt:=Q} (start N vs) H):FnOk P w K mg base (i9 P w) (k+1) f fd ps sp:=by
 obtain⟨oc,od,kV,doc,pm,an,cZ,ct,yV,rfl,lk,EH⟩:=F.ex;exact JY lk EH S len λA aA s H vs Q E hr NW=>hbody cZ A aA s H vs Q E ⟨oc,od,_,yV,lk,rfl⟩ hr NW
def qc(H:Hp)(μ:List Addr):Hp:=λb=>if b∈μ then none else H b
section
variable {K:W.Frag} {aa H H':Hp} {ab F F':Fz} {h h':List az}
def HC{μ:List Addr}{b:Addr}{o:HO}(e:qc H μ b=some o):H b=some o/\b∉μ:=by
 unfold qc at e;split at e
 ·cases e
 ·grind
def HE{μ:List Addr}{b:Addr}(e:qc H μ b=none):H b=none\/b∈μ:=by
 unfold qc at e;split at e
 ·grind
 ·grind
def kL.enter(C:kL K aa ab F h H):kL K (qc H F.μ) F F h H/\∀b o,H b=some o->qc H F.μ b=some o\/∃n:Nat,F.μ[n]?=some b:=by
 refine⟨⟨C.sub,λb o e=>(HC e).1,Gr.refl F,λa o e=>.inl e,λn a e=>⟨if_pos (dN e),(C.new n a e).2⟩,C.hl,C.nd,C.cell⟩,λb o e=>?_⟩
 by_cases hb:b∈F.μ
 ·obtain⟨n,hn⟩:=nM.mp hb;exact .inr ⟨n,hn⟩
 ·exact .inl (by unfold qc;rw[if_neg hb];exact e)
def kL.leave(C:kL K aa ab F h H)(D:kL K (qc H F.μ) F F' h' H'):kL K aa ab F' h' H':=by
 have none_of:∀a,qc H F.μ a=none->aa a=none:=λa e=>by
  rcases HE e with z | z
  ·exact C.keep.free z
  ·obtain⟨n,hn⟩:=nM.mp z;exact(C.new n a hn).1
 refine⟨D.sub,λb o e=>D.keep b o ?_,C.base.trans D.base,λa o e=>?_,λn a e=>⟨none_of a (D.new n a e).1,(D.new n a e).2⟩,D.hl,D.nd,D.cell⟩
 ·unfold qc;rw[if_neg λhb=>?_]
  ·exact C.keep b o e
  ·obtain⟨n,hn⟩:=nM.mp hb;rw[(C.new n b hn).1]at e;cases e
 ·rcases D.fresh a o e with z | z
  ·exact C.fresh a o z
  ·grind
end
abbrev oE:=List PV->List az->Option (Rs PV×List az)
def UW(K:W.Frag)(aa:Hp)(F:Fz)(h':List az)(Q:VK)(E:XK):Rs PV->Prop
 | .ok p=>∀v F' H',kL K aa F F' h' H'->bN K F' p v->Q v H'
 | .ex _ C=>∀cls F' H',kL K aa F F' h' H'->ClsAt K C cls->E cls none H'
def HF(K:W.Frag)(n:Nat)(f:oE):Sp:=λvs H Q E=>∃aa F h ps r h',kL K aa F F h H/\(∀b o,H b=some o->aa b=some o\/∃n:Nat,F.μ[n]?=some b)/\aE K F ps vs/\ps.length=n/\f ps h=some (r,h')/\UW K aa F h' Q E r
noncomputable def gJ(n:Nat)(ps:List PV):List (Option PV):=ps.map some++List.replicate (n-ps.length) none
noncomputable def Y5:Rs dB×cC->Option (Rs PV×List az)
 | (.ok (.rt p),st)=>some (.ok p,st.h)
 | (.ok .nx,st)=>some (.ok .bQ,st.h)
 | (.ex m C,st)=>some (.ex m C,st.h)
 | _=>none
def dU(fb:Gx dB)(n:Nat):oE:=λps h=>(fb ⟨gJ n ps,h⟩).bind Y5
def Ay{K:W.Frag}{F:Fz}{ps:List PV}{vs:List V}{N:List Str}(b:aE K F ps vs):Lc K F (gJ N.length ps) (start N vs) where
 av:=λi p e=>by
  unfold gJ at e;unfold start;by_cases hi:i<ps.length
  ·rw[iA (by simpa using hi),bR]at e
   cases z:ps[i]? with
   | none=>rw[z]at e;cases e
   | some q =>
    rw[z]at e;cases e;obtain⟨v,h1,h2⟩:=b.get z;refine⟨v,?_,h2⟩;rw[iA (by simpa using (b.length▸hi)),bR,h1]
    rfl
  ·rw[we (by simpa using hi),List.getElem?_replicate]at e
   split at e<;>cases e
 len:=by unfold gJ start;simp[b.length]
def Fq{K:W.Frag}{aa H H':Hp}{F F':Fz}{h':List az}(full:∀b o,H b=some o->aa b=some o\/∃n:Nat,F.μ[n]?=some b)(D:kL K aa F F' h' H'):Dm H H':=λb o e=>by
 rcases full b o e with z | ⟨n,hn⟩
 ·exact⟨o,D.keep b o z⟩
 ·exact(D.new n b (D.base.m n b hn)).2
def K4{P:Program}{w:World}{K:W.Frag}{mg:Str->Option Value}{base:Heap}{x qual:Str}{st:Stmt}{f:Addr}{fd:FuncData}{N ps:List Str}{k:Nat}{fb:Gx dB}(F:CG K x qual st f fd)(S:dG N ps (au st))
  (hbody:∀(cZ:Value) (A:Around) (aA:List Env) (s:Shared) (H:Hp) (E:XK),Dv K f cZ->dM k (A.deeper (envOfC qual (au st) s.heap.objs.size f cZ))->∀(aa:Hp) (ab:Fz),
   PSs (fF (i9 P w) P w K mg base N qual (au st) f cZ A aA s H E) (dk st) (tS (fF (i9 P w) P w K mg base N qual (au st) f cZ A aA s H E) aa ab fb)):FnOk P w K mg base (i9 P w) (k+1) f fd ps (HF K ps.length (dU fb N.length)):=by
 refine O0 F S (by rintro vs H Q E ⟨_,_,_,_,_,_,_,_,b,hl,_⟩;rw[<-b.length];exact hl) λcZ A aA s H vs Q E Ua hr z9=>?_
 obtain⟨aa,F,h,as,r,h',C,full,b,hl,hf,res⟩:=z9;refine⟨_,hbody cZ A aA s H E Ua hr aa F,F,⟨gJ N.length as,h⟩,⟨C,Ay b⟩,?_⟩;obtain⟨q,e1,e2⟩:=aX hf;refine⟨q,e1,?_⟩;rcases q with⟨f | ⟨m,c⟩,st⟩
 ·cases f with
  | rt=>cases e2;exact λv F' H' C' g b'=>res v F' H' C' b'
  | nx=>cases e2;exact λF' bH H' R g=>res .bQ F' H' R.c (dH.mpr rfl)
  | _=>cases e2
 ·cases e2;cases m with
  | true=>exact λF' bH H' ae s1 h1 a cls vs R sf I hc hm=>Fp I hm (Fq full R.c) (res cls F' H' R.c hc)
  | false=>exact λbH ae H1 s1 e s' I h=>Ax I h (by rintro cls H2 ⟨hc,F',R,sf⟩;exact⟨Fq full R.c,res cls F' H2 R.c hc⟩)
mutual
def noRef:PV->Bool
 | .ref _=>false
 | .nd _ ps=>ah ps
 | _=>true
def ah:List PV->Bool
 | []=>true
 | p::ps=>noRef p&&ah ps
end
section
variable {K:W.Frag} {F:Fz} {μ:List Addr}
mutual
theorem bN.any:∀{p:PV} {v:V},noRef p=true->bN K F p v->bN K ⟨F.F,μ⟩ p v
 | .bQ,_,_,b=>dH.mpr (dH.mp b)
 | .bl _,_,_,b=>cj.mpr (cj.mp b)
 | .int _,_,_,b=>aG.mpr (aG.mp b)
 | .str _,_,_,b=>cP.mpr (cP.mp b)
 | .fn _,_,_,b=>si.mpr (si.mp b)
 | .ref _,_,h,_=>by simp[noRef]at h
 | .nd k ps,_,h,b=>by
  obtain⟨a,vs,h1,h2,h3⟩:=jv.mp b;exact jv.mpr ⟨a,vs,h1,h2,aE.any h h3⟩
theorem aE.any:∀{ps:List PV} {vs:List V},ah ps=true->aE K F ps vs->aE K ⟨F.F,μ⟩ ps vs
 | [],_,_,b=>by rw[b.cS];exact .nil
 | _::_,_,h,b=>by
  simp only[ah,aO]at h;obtain⟨v,r,rfl,b1,b2⟩:=b.cx;exact .cons (b1.any h.1) (aE.any h.2 b2)
end
end
def yY(h:List az):Nat->PV->Option PV
 | 0,p=>if noRef p=true then some p else none
 | n+1,p=>if noRef p=true then some p else match p with
  | .ref m=>(h[m]?).bind λc=>if live c=true then(di (yY h n) c.ps).map (.nd c.k)else none
  | .nd k ps=>(di (yY h n) ps).map (.nd k)
  | _=>none
open Classical in
noncomputable def k9 (F:Fz) (h:List az) (H:Hp):Hp:=λa=>match F.F a with
 | some o=>some o
 | none=>if(∃(n:Nat) (c:az),F.μ[n]?=some a/\h[n]?=some c/\live c=true)then H a else none
section
variable {K:W.Frag} {aa H:Hp} {ab F:Fz} {h:List az}
def jg{a:Addr}{o:HO}(e:F.F a=some o):k9 F h H a=some o:=by unfold k9;rw[e]
def HG{a:Addr}{n:Nat}{c:az}(e:F.F a=none)(h1:F.μ[n]?=some a)(h2:h[n]?=some c)(h3:live c=true):k9 F h H a=H a:=by
 unfold k9;rw[e];exact if_pos ⟨n,c,h1,h2,h3⟩
def Az{a:Addr}{o:HO}(e:k9 F h H a=some o):F.F a=some o\/(H a=some o/\∃n:Nat,F.μ[n]?=some a):=by
 unfold k9 at e;split at e
 ·grind
 ·split at e
  ·grind
  ·cases e
def kL.yY(C:kL K aa ab F h H)(μ:List Addr):∀(n:Nat) (p q:PV) (v:V),yY h n p=some q->bN K F p v->bN K ⟨k9 F h H,μ⟩ q v:=by
 have keep:∀{p:PV} {v:V},noRef p=true->bN K F p v->bN K ⟨k9 F h H,μ⟩ p v:=λhn b =>
  bN.mono (F:=⟨F.F,μ⟩) (F':=⟨k9 F h H,μ⟩) ⟨λb o e=>jg e,λ_ _ e=>e⟩ (b.any hn)
 intro n;induction n with
 | zero =>
  intro p q v e b;obtain⟨hn,rfl⟩:=aJ e;exact keep hn b
 | succ n ih =>
  intro p q v e b;unfold U.yY at e;split at e
  ·grind
  ·have list:∀(ps qs:List PV) vs,di (U.yY h n) ps=some qs->aE K F ps vs->aE K ⟨k9 F h H,μ⟩ qs vs:=by
    intro ps;induction ps with
    | nil=>intro qs vs e b;cases e;rw[b.cS];exact .nil
    | cons p ps ih2 =>
     intro qs vs e b;obtain⟨y,r,e1,e2,rfl⟩:=gj e;obtain⟨v,w,rfl,b1,b2⟩:=b.cx;exact .cons (ih p y v e1 b1) (ih2 r w e2 b2)
   split at e
   ·obtain⟨c,e1,e⟩:=aX e;obtain⟨hl,e⟩:=bX e;obtain⟨qs,e2,rfl⟩:=bt e;obtain⟨a,h1,h2⟩:=dI.mp b;obtain⟨hF,vs,h3,h4⟩:=C.cell _ c a e1 h1 hl;exact jv.mpr ⟨a,vs,h2,h3.to (λb o e=>jg e) (λo e=>by rw[show(Fz.mk (k9 F h H) μ).F a=k9 F h H a from rfl,HG hF h1 e1 hl];exact e) (λz=>by cases z),list _ _ _ e2 h4⟩
   ·obtain⟨qs,e2,rfl⟩:=bt e;obtain⟨a,vs,h1,h2,h3⟩:=jv.mp b;exact jv.mpr ⟨a,vs,h1,h2.to (λb o e=>jg e) (λo e=>jg e) id,list _ _ _ e2 h3⟩
   ·cases e
end
section
variable {X:Cx} {aa:Hp} {ab:Fz} {e:Expr} {es:List Expr} {ts:Gx (List PV)} {pos p:Pos} {k n:Nat} {f:Addr} {fd:FuncData} {ps:List Str} {x:Str} {g:oE}
def qz{CX:IZ}{sp:Sp}{E:XK}{ae:List (Addr×Obj)}{σ:St}{H:Hp}{s:Shared}{Q:VK}{us:List Value}{vs:List V}(F:FnOk X.prog X.w X.K X.mg X.base CX k f fd ps sp)(hr:dM k X.A)(hb:gK X.K fd ps [])(hx:∀e s',CX X.stack H s E e s'->X.xe e s')
  (I:Inv X ae σ H s) (r:Vals vs us) (h:sp vs H Q E):wpAny (model X.prog X.w) X.A (call (.ref f) us) (EP X ae σ Q) X.xe s:=by
 have hbb:=hb s us I.rM (by rw[fq,<-r.length];exact F.len _ _ _ _ h)
 rw[fq]at hbb;refine rE (ka (F.run X.A X.stack s H ⟨us,[]⟩ us vs Q E hr I.NT hbb r h) λr s' hq=>?_)
 cases r with
 | error e=>exact hx e s' hq
 | ok fl =>
  cases fl with
  | ret u=>exact I.after hq
  | next=>exact False.elim hq
  | brk=>exact False.elim hq
  | cont=>exact False.elim hq
noncomputable def Y6:Rs PV->Rs PV
 | .ok p=>.ok p
 | .ex _ C=>.ex false C
def oF(h:List az)(p:PV):Option PV:=if h.isEmpty=true then some p else yY h 4 p
def UX(st:cC):Rs PV×List az->Option (Rs PV×cC)
 | (.ok p,h)=>(oF h p).map λq=>(.ok q,st)
 | (.ex _ C,_)=>some (.ex false C,st)
def Dw(n:Nat)(g:oE)(as:List PV):Gx PV:=λst=>if as.length=n then(g as st.h).map λr=>(Y6 r.1,⟨st.ρ,r.2⟩)else none
def oG(n:Nat)(g:oE)(as:List PV):Gx PV:=λst=>if as.length=n/\(st.h.isEmpty || ah as)=true then(g as []).bind (UX st)else none
def RC(n:Nat)(g:oE)(ts:Gx (List PV)):Gx PV:=bnd ts (oG n g)
def O1(X:Cx)(f:Addr)(w:List PV->Gx PV):Prop:=∀(aa H:Hp) (ab F:Fz) (st:cC) (σ:St) (ae:List (Addr×Obj)) (s:Shared) (Q:VK) (as:List PV) (us:List Value) (vs:List V),Inv X ae σ H s->Rep X.K aa ab F st σ H->aE X.K F as vs->Vals vs us->Tx X aa ab (bN X.K) F st (w as) σ Q ->
 wpAny (model X.prog X.w) X.A (call (.ref f) us) (EP X ae σ Q) X.xe s
def adj(G:FnOk X.prog X.w X.K X.mg X.base (i9 X.prog X.w) k f fd ps (HF X.K n g))(hr:dM k X.A)(hb:gK X.K fd ps []):O1 X f (Dw n g):=by
 rintro aa H ab F st σ ae s Q as us vs I R b r ⟨q,e1,e2⟩
 obtain⟨hl,e1⟩:=bX e1;obtain⟨⟨rs,h'⟩,e3,e4⟩:=bt e1;subst e4;obtain⟨C,full⟩:=R.c.enter;cases rs with
 | ok p'=>exact qz G hr hb (λe s' hx=>zZ ae σ H s e s' I hx) I r ⟨_,F,st.h,as,_,h',C,full,b,hl,e3,λv F' H' D b'=>e2 v H' F' ⟨R.c.leave D,R.l.mono D.base⟩ D.base b'⟩
 | ex m c=>exact thn (qz (Q:=λ_ _=>False) G hr hb (λe s' hx=>e2 σ ae H s e s' I hx) I r ⟨_,F,st.h,as,_,h',C,full,b,hl,e3,λcls F' H' D hc=>⟨hc,F',⟨R.c.leave D,R.l.mono D.base⟩,D.base⟩⟩) (by rintro v s3 ⟨_,_,_,_,z⟩;exact z.elim)
def Rep.back{K:W.Frag}{aa H H1 H':Hp}{ab F F':Fz}{μ:List Addr}{st:cC}{σ:St}{h':List az}(R:Rep K aa ab F st σ H)(hH:cK H H1)(D:kL K H1 ⟨F.F,μ⟩ F' h' H'):Rep K aa ab ⟨k9 F' h' H',F.μ⟩ st σ H'/\Gr F ⟨k9 F' h' H',F.μ⟩:=by
 have g:cK F.F (k9 F' h' H'):=λb o e=>jg (D.base.s b o e)
 refine⟨R.after (hH.trans D.keep) g rfl (λb o e=>?_) (λa o e=>?_),g,λ_ _ z=>z⟩
 ·rcases Az e with z | ⟨z,_⟩
  ·exact D.sub b o z
  ·exact z
 ·rcases Az e with z | ⟨_,n,z⟩
  ·exact(D.fresh a o z).imp_right hH.free
  ·exact .inr (hH.free (D.new n a z).1)
def kL.pure{K:W.Frag}{aa H:Hp}{ab F:Fz}{h:List az}(C:kL K aa ab F h H):kL K H ⟨F.F,[]⟩ ⟨F.F,[]⟩ [] H :=
 ⟨C.sub,cK.refl H,Gr.refl _,λa o e=>.inl e,λn a e=>by simp at e,rfl,nZ,λn c a e=>by simp at e⟩
def K5{K:W.Frag}{H H':Hp}{G F':Fz}{h':List az}{p q:PV}{v:V}(μ:List Addr)(D:kL K H G F' h' H')(e:oF h' p=some q)(b:bN K F' p v):bN K ⟨k9 F' h' H',μ⟩ q v:=by
 unfold oF at e;split at e
 ·rename_i z;cases e;have e0:F'.μ=[]:=lJ (by rw[<-D.hl,wJ.mp z];rfl)
  exact b.mono ⟨λb o e=>jg e,λn a e=>by rw[e0]at e;simp at e⟩
 ·exact D.yY μ _ _ _ _ e b
def vv{K:W.Frag}{aa H:Hp}{ab F:Fz}{st:cC}{σ:St}{as:List PV}{vs:List V}(R:Rep K aa ab F st σ H)(hn:(st.h.isEmpty || ah as)=true)(b:aE K F as vs)(μ:List Addr):aE K ⟨F.F,μ⟩ as vs:=by
 rcases CB _ _▸hn with z | z
 ·have e0:F.μ=[]:=lJ (by rw[<-R.c.hl,wJ.mp z];rfl)
  exact aE.mono (F:=F) (F':=⟨F.F,μ⟩) ⟨cK.refl _,λn a e=>by rw[e0]at e;simp at e⟩ b
 ·exact b.any z
def Y7(G:FnOk X.prog X.w X.K X.mg X.base (i9 X.prog X.w) k f fd ps (HF X.K n g))(hr:dM k X.A)(hb:gK X.K fd ps []):O1 X f (oG n g):=by
 rintro aa H ab F st σ ae s Q as us vs I R b r ⟨q,e1,e2⟩
 obtain⟨⟨hl,hn⟩,e1⟩:=bX e1;obtain⟨⟨rs,h'⟩,e3,e4⟩:=aX e1;have full:∀b o,H b=some o->H b=some o\/∃n:Nat,(Fz.mk F.F []).μ[n]?=some b:=by grind
 have b3:=vv R hn b [];cases rs with
 | ok p' =>
  obtain⟨p2,e5,e6⟩:=bt e4;subst e6;refine qz G hr hb (λe s' hx=>zZ ae σ H s e s' I hx) I r ⟨H,⟨F.F,[]⟩,[],as,_,h',R.c.pure,full,b3,hl,e3,λv F' H' D b'=>?_⟩
  obtain⟨R3,g3⟩:=R.back (cK.refl _) D;exact e2 v H' _ R3 g3 (K5 F.μ D e5 b')
 | ex m c =>
  cases e4;refine thn (qz (Q:=λ_ _=>False) G hr hb (λe s' hx=>e2 σ ae H s e s' I hx) I r ⟨H,⟨F.F,[]⟩,[],as,_,h',R.c.pure,full,b3,hl,e3,λcls F' H' D hc=>?_⟩) (by rintro v s3 ⟨_,_,_,_,z⟩;exact z.elim)
  obtain⟨R3,g3⟩:=R.back (cK.refl _) D;exact⟨hc,_,R3,g3⟩
def UY{w:List PV->Gx PV}(G:O1 X f w)(hg:Gl X x)(hm:X.mg x=some (.ref f))(hk:W.keepIn X.K (.ref f)=true)(ha:PA X (e::es) (tA X aa ab ts))(NV:(x==("__debug__":Str))=false)
  (he:starEach (e::es) X.env=(false,eval e X.env)::starEach es X.env) (nE:(backTo pos (starEach es X.env)).any (·.1)=false):PE X (.Call (.Name x p) (e::es) [] pos) (tE X aa ab (bnd ts w)):=by
 rintro ae s σ H Q I ⟨F1,st,R,h⟩
 refine j5 (ld_glob I hg hm ?_ NV);exact W.callWith_K I.ok.mod.kin hk (thn (ha pos ae s σ H (λvs H2=>∃F2 st2 as,Rep X.K aa ab F2 st2 σ H2/\aE X.K F2 as vs/\Tx X aa ab (bN X.K) F2 st2 (w as) σ Q) I
  ⟨F1,st,R,h.bnd λas vs F2 st2 H2 R2 g2 b2 h2=>⟨F2,st2,as,R2,b2,h2⟩⟩) (by rintro us s1 ⟨vs,H2,I2,r,F2,st2,as,R2,b2,z⟩;exact⟨I2.rM,G _ _ _ _ _ _ _ _ _ _ _ _ I2 R2 b2 r z⟩)) he nE
end
def Y8(T:String):Kd->Bool
 | .lst=>T=="list"
 | .gR _ _=>T=="dict"
 | _=>false
def tyG(T:String)(p:PV):Gx Unit:=hp λh=>(cX h p).bind λq=>if Y8 T q.1=true then some ()else none
section
variable {X:Cx} {aa:Hp} {ab:Fz} {e o:Expr} {es:List Expr} {fo fe:Gx PV} {ts:Gx (List PV)} {pos rF kY:Pos} {T id:String} {name:Str} {r:V->List V->Hp->VK->Prop}
def Rep.tyV{K:W.Frag}{st:cC}(R:Rep K aa ab F st σ H)(e:cX st.h p=some (k,ps))(ht:Y8 T k=true)(b:bN K F p v):L2.tyV K T v H:=by
 obtain⟨a,vs,rfl,h2,h3⟩:=R.at e b
 match k,ht,h2 with
 | .lst,ht,h2=>exact .inl ⟨bj ht,vs,kJ.sq h2⟩
 | .gR false ks,ht,⟨kvs,h2,_⟩=>exact .inr (.inr (.inl ⟨bj ht,.inl ⟨kvs,h2⟩⟩))
 | .gR true ks,ht,⟨xs,h2,_⟩=>exact .inr (.inr (.inl ⟨bj ht,.inr ⟨xs,h2⟩⟩))
def Dx(T:String)(w:PV->List PV->Gx PV)(fo:Gx PV)(ts:Gx (List PV)):Gx PV:=bnd fo λp=>bnd (tyG T p) λ_=>bnd ts λas=>w p as
def WdT(X:Cx)(r:V->List V->Hp->VK->Prop)(w:PV->List PV->Gx PV):Prop:=∀(aa H:Hp) (ab F:Fz) (st:cC) (σ:St) (p:PV) (as:List PV) (v:V) (ws:List V) (Q:VK),Tx X aa ab (bN X.K) F st (w p as) σ Q->Rep X.K aa ab F st σ H->bN X.K F p v->aE X.K F as ws->r v ws H Q
def xQ(hw:WdT X r w)(h:tE X aa ab (Dx T w fo ts) σ H Q):tBM X.K T r (tE X aa ab fo) (tA X aa ab ts) σ H Q:=by
 obtain⟨F,st,R,h⟩:=h;refine⟨F,st,R,h.bnd λp v F1 br H1 R1 g1 b1 h1=>?_⟩
 obtain⟨u,e,z⟩:=At.hp (At.bnd h1);obtain⟨⟨k,ps⟩,e1,e2⟩:=aX e;obtain⟨hk,_⟩:=aJ e2;refine⟨R1.tyV e1 hk b1,F1,br,R1,Tx.bnd z λas ws F2 st2 H2 R2 g2 b2 h2=>hw aa H2 ab F2 st2 σ p as v ws Q h2 R2 (b1.mono g2) b2⟩
def O2(hw:WdT X r w)(h:tE X aa ab (Dx T w fo (aY [])) σ H Q):XZ X.K T r (tE X aa ab fo) σ H Q:=by
 obtain⟨F,st,R,h⟩:=h;refine⟨F,st,R,h.bnd λp v F1 br H1 R1 g1 b1 h1=>?_⟩
 obtain⟨u,e,z⟩:=At.hp (At.bnd h1);obtain⟨⟨k,ps⟩,e1,e2⟩:=aX e;obtain⟨hk,_⟩:=aJ e2;exact⟨R1.tyV e1 hk b1,hw aa H1 ab F1 br σ p [] v [] Q (At.aY (At.bnd z)) R1 b1 .nil⟩
def xT(hg:Dq X.K r g):WdT X r (l0 g):=λ_ _ _ _ _ _ _ _ _ _ _ h R bp ba=>Tx.mut hg h R bp ba
def UZ:WdT X (UJ X.K) Am:=λ_ _ _ _ _ _ _ _ _ _ _ h R bp ba=>Tx.ext h R bp ba
def Fs(m:Str):Option (String×(PV->List PV->Gx PV)) :=
 if m==("append":Str)then some ("list",l0 (iK Al))
 else if m==("extend":Str)then some ("list",Am)
 else if m==("insert":Str)then some ("list",l0 (iK Kw))
 else if m==("setdefault":Str)then some ("dict",l0 Hw)
 else none
def Dy(m:Str):Option (String×(PV->List PV->Gx PV)) :=
 if m==("reverse":Str)then some ("list",l0 (iK OG))
 else if m==("pop":Str)then none
 else if m==("clear":Str)then none
 else none
def adk(ht:Fs name=some (T,w))(ho:PE X o (tE X aa ab fo))(ha:PA X (e::es) (tA X aa ab ts))(lu:attributeBase o name X.env (eval o X.env)=eval o X.env)
  (G5:((backTo kY (starEach (e::es) X.env)).all (λx=>!x.1)&&(backToKw kY (keywordEach [] X.env)).all (λx=>x.1.isSome)&&decide ((e::es).length+([]:List Keyword).length+(if([]:List Keyword).isEmpty then 0 else 1)<30))=true)
  (jM:(rF.endLine==kY.line)=true) (ui:starEach (e::es) X.env=(false,eval e X.env)::starEach es X.env) (nE:(backTo kY (starEach es X.env)).any (·.1)=false):PE X (.Call (.Attribute o name rF) (e::es) [] kY) (tE X aa ab (Dx T w fo ts)):=by
 unfold Fs at ht;split at ht
 ·rename_i hx;cases ht;have hx:=bj hx;subst hx;exact(EV wj PySem.F.slot_list_append PySem.F.type_list_append G6 ho ha lu G5 jM ui nE).imp λ_ _ _ h=>xQ (xT OF) h
 ·split at ht
  ·rename_i hx;cases ht;have hx:=bj hx;subst hx;exact(EV wj PySem.F.slot_list_extend PySem.F.type_list_extend UK ho ha lu G5 jM ui nE).imp λ_ _ _ h=>xQ UZ h
  ·split at ht
   ·rename_i hx;cases ht;have hx:=bj hx;subst hx;exact(EV wj PySem.F.slot_list_insert PySem.F.type_list_insert Hv ho ha lu G5 jM ui nE).imp λ_ _ _ h=>xQ (xT OI) h
   ·split at ht
    ·rename_i hx;cases ht;have hx:=bj hx;subst hx;exact(EV PySem.F.plainAttrs_dict Ji PySem.F.type_dict_setdefault UH ho ha lu G5 jM ui nE).imp λ_ _ _ h=>xQ (xT OJ) h
    ·cases ht
def Y9(ht:Dy name=some (T,w))(ho:PE X o (tE X aa ab fo))(lu:attributeBase o name X.env (eval o X.env)=eval o X.env)(jM:(rF.endLine==kY.line)=true) :
  PE X (.Call (.Attribute o name rF) [] [] kY) (tE X aa ab (Dx T w fo (aY []))):=by
 unfold Dy at ht;split at ht
 ·rename_i hx;cases ht;have hx:=bj hx;subst hx;exact(J4 wj PySem.F.slot_list_reverse PySem.F.type_list_reverse C7 ho lu jM).imp λ_ _ _ h=>O2 (xT OH) h
 ·grind
def AA(po pi pv:PV):cC->Option cC:=λst=>(qb st.h po).bind λc=>match c.2.k with
 | .lst=>(p0 pi).bind λi=>(N2 c.2.ps.length i).map λj=>⟨st.ρ,st.h.set c.1 ⟨.lst,c.2.ps.set j pv⟩⟩
 | .gR t ks=>(jd t pi).bind λk=>if ks.length<f9 then some ⟨st.ρ,st.h.set c.1 (qa t k pv ks c.2.ps)⟩else none
 | _=>none
def adl(K:W.Frag):JI:=λo i v H Q=>∃aa ab F st τ po pi pv aB,AA po pi pv st=some aB/\Rep K aa ab F st τ H/\bN K F po o/\bN K F pi i/\bN K F pv v/\∀H' F',Rep K aa ab F' aB τ H'->Gr F F'->Q H'
def Za(hu:X.A.units+1150<cLine):JJ X (adl X.K):=by
 rintro ae s σ H o i v ov iv u Q I ro ri rv ⟨aa,ab,F,st,τ,po,pi,pv,aB,e,R,bo,bi,bv,k⟩
 obtain⟨⟨n,c⟩,e1,e0⟩:=aX e;clear e;have e:=e0;clear e0;obtain⟨rfl,hc,hl⟩:=je e1;obtain⟨a,ha,rfl⟩:=dI.mp bo;obtain⟨_,vs,h2,h3⟩:=R.c.cell n c a hc ha hl;split at e
 ·rename_i hk;obtain⟨j,e2,e⟩:=aX e;obtain⟨m,e3,rfl⟩:=bt e;rw[gp e2]at bi;have hk:=hk;rw[hk]at h2;refine J2 ae s σ H _ _ v ov iv u Q I ro ri rv ⟨a,vs,j,m,rfl,aG.mp bi,h2,by rw[<-h3.length];exact e3,k _ F (R.put hc hl ha aD (h3.set bv m)) (Gr.refl _)⟩
 ·rename_i t ks hk;have hk:=hk;obtain⟨kk,e2,e⟩:=aX e;obtain⟨hz,rfl⟩:=aJ e;rw[hk]at h2;cases t with
  | false =>
   obtain⟨kvs,g1,g2,g3⟩:=h2;obtain⟨j,rfl,rfl⟩:=kq e2 bi;rw[<-g3]at h3;obtain⟨xJ,BV,p1,p2,p3⟩:=Ku (j:=j) bv h3;have eA:kvs.length<sizeLine:=by
    have:ks.length=kvs.length:=by grind
    exact bY (by grind) (fP (ao _))
   rw[g2]at p1;refine UL ae s σ H _ _ v ov iv u Q I ro ri rv ⟨a,kvs,j,rfl,rfl,g1,eA,k _ F ?_ (Gr.refl _)⟩;simp only[p1];exact R.put hc hl ha ⟨_,aD,p2,rfl⟩ p3
  | true =>
   obtain⟨xs,g1,g2,g3,g4⟩:=h2;obtain⟨cc,rfl,hcc⟩:=mT e2 bi;refine UM (by lia) ae s σ H _ _ v ov iv u Q I ro ri rv ⟨a,cc,xs,kk,rfl,rfl,g1,λz hz=>bL R.sub (g2 z hz),bL R.sub hcc,(by
    have:ks.length=xs.length:=by grind
    exact bY (by grind) (fP (ao _))),λr hr=>?_⟩
   obtain⟨xJ,BV,xt,p1,p2,p3,p4,p5⟩:=UD bv hr hcc g2 h3 g4;rw[g3]at p1;refine k _ F ?_ (Gr.refl _);simp only[p1];exact R.put hc hl ha ⟨_,aD,p3,p2,p5⟩ p4
 ·cases e
def O3(fv fo fi:Gx PV):Gx dB:=bnd fv λv=>bnd fo λo=>bnd fi λi=>stp (AA o i v)
def Zb(hu:X.A.units+1150<cLine)(he:PE X e (tE X aa ab fv))(ho:PE X o (tE X aa ab fo))(hi:PE X k (tE X aa ab fi))
  (ha:∀v,assign (.Subscript o k Hy) X.env v=(do
   let ov <-holding [v] (eval o X.env)
   let iv <-holding [v,ov] (eval k X.env)
   standAt Hy
   holding [v,ov,iv] (setItem ov iv v)
   release [v,ov,iv] []))
  (hs:swapsWithSole [.Subscript o k Hy] e pos.line X.env=pure false) (hw:swappedStores [.Subscript o k Hy] e X.env=pure none):PS X (.Assign [.Subscript o k Hy] e pos) (tS X aa ab (O3 fv fo fi)) :=
 (JL he (Tc ho hi (Za hu) ha) hs hw rfl).imp λD σ H ⟨F,st,R,h⟩=>⟨F,st,R,h.bnd λpv v F1 br H1 R1 g1 b1 h1=>⟨F1,br,R1,h1.bnd λpo o F2 st2 H2 R2 g2 b2 h2=>⟨F2,st2,R2,h2.bnd λpi i F3 uw H3 R3 g3 b3 h3=>by
  obtain⟨aB,e,z⟩:=h3.stp;exact⟨aa,ab,F3,uw,σ,po,pi,pv,aB,e,R3,b2.mono g3,b3,b1.mono (g2.trans g3),λH' F' R' g'=>z F' σ H' R' g'⟩⟩⟩⟩
def K6(t:Bool):Gx PV:=mJ ⟨.gR t [],[]⟩
def Zc(t:Bool):PE X (.Dict [] [] pos) (tE X aa ab (K6 t)):=by
 cases t with
 | false=>exact Kv.imp (by rintro σ H Q ⟨F,st,R,h⟩ p hp;exact Tx.mJ h R hp ⟨[],aD,rfl,rfl⟩ .nil)
 | true=>exact Oa.imp (by rintro σ H Q ⟨F,st,R,h⟩ p hp;exact Tx.mJ h R hp ⟨[],aD,(λ_ z=>nomatch z),rfl,.nil⟩ .nil)
end
def Ft(K:W.Frag)(mg:Str->Option Value)(P:Params)(T:Str)(rows:List (Str×Str)):Prop :=
 ∃a es n,mg T=some (.ref a)/\K.lookup a=some ⟨.type "dict",none,.dict es n,#[]⟩/\W.KeysLit P es.toList/\∀k fn,rows.lookup k=some fn->∃f,W.nsIn K a k=some (some (.ref f))/\mg fn=some (.ref f)/\W.nsIn K mainGlobals fn=some (some (.ref f))
def adm(K:W.Frag)(a:Addr):R2:=λx y H Q=>∃k u v,x=.ref a/\y=.str k/\W.nsIn K a k=some (some u)/\RelV v u/\Q v H
def U0:PV->Option Str | .str x=>some x | _=>none
def HH(h:U0 p=some i):p=.str i:=by
 cases p<;>first | (cases h;rfl) | cases h
section
variable {X:Cx} {aa:Hp} {ab:Fz} {e ke:Expr} {es:List Expr} {fk fe ff:Gx PV} {ts:Gx (List PV)} {pos p sp:Pos} {T:Str}
def U1{es:Array DictEntry}(hl:X.K.lookup a=some ⟨.type "dict",none,.dict es n,#[]⟩)(hk:W.KeysLit X.w.params es.toList):WQ X (adm X.K a):=by
 rintro value slice ae s σ H x y v u Q I rx ry ⟨k,u',v',ex,ey,e,rv,q⟩ hs
 subst ex ey;cases rx;obtain⟨t,rfl⟩:=ry;have hm:=W.mapOf_K (prog:=X.prog) I.rM hl hk;exact tail_any hm.typeIs slot_dict_getitem.lookup (wpAny_getItem_of (strKind_is X.prog X.w k t) hm (W.find_K hl e) ⟨v',H,I.tok _,rv,q⟩) hs
def K8(NO:Str->Option PV)(fk:Gx PV):Gx PV:=bnd fk λq=>kM ((U0 q).bind NO)
def Zd(ht:Ft X.K X.mg X.w.params T rows)(hg:Gl X T)(hk:PE X ke (tE X aa ab fk))(hs:qp ke)(NV:(T==("__debug__":Str))=false):PE X (.Subscript (.Name T p) ke sp) (tE X aa ab (K8 (λk=>(rows.lookup k).map .fn) fk)):=by
 obtain⟨a,SX,n,t1,t2,t3,t4⟩:=ht;refine(QT (U1 t2 t3) (EL (v:=.ref a) hg t1 rfl NV) hk hs).imp λσ H Q ⟨F,st,R,h⟩=>?_
 refine⟨F,st,R,h.bnd λpk v F1 br H1 R1 g1 b1 h1=>?_⟩
 obtain⟨q,e1,z⟩:=h1.kM;obtain⟨k,e2,e3⟩:=aX e1;obtain⟨fn,e4,rfl⟩:=bt e3;rw[HH e2]at b1;obtain⟨f,n1,n2,n3⟩:=t4 k fn e4;exact⟨k,.ref f,.ref f,rfl,cP.mp b1,n1,rfl,z _ H1 F1 R1 (Gr.refl _) (si.mpr ⟨f,rfl,n3⟩)⟩
def RD(X:Cx)(fns:List (Str×Nat))(call:Str->oE):Prop:=∀x n,fns.lookup x=some n->∃k f fd ps,FnOk X.prog X.w X.K X.mg X.base (i9 X.prog X.w) k f fd ps (HF X.K n (call x))/\dM k X.A/\X.mg x=some (.ref f)/\W.keepIn X.K (.ref f)=true/\gK X.K fd ps []
def fnP:PV->Option Str | .fn x=>some x | _=>none
def K9{p:PV}(h:fnP p=some i):p=.fn i:=by
 cases p<;>first | (cases h;rfl) | cases h
def AB(fns:List (Str×Nat))(call:Str->oE)(ff:Gx PV)(ts:Gx (List PV)):Gx PV:=bnd ff λq=>bnd (kM ((fnP q).bind λx=>(fns.lookup x).map λn=>(x,n))) λx=>RC x.2 (call x.1) ts
def xU(v k:Expr)(sp:Pos)(args:List Expr)(pos:Pos)(env:Env):eval (.Call (.Subscript v k sp) args [] pos) env=(do callWith pos (<-eval (.Subscript v k sp) env) [] (backTo pos (starEach args env)) (backToKw pos (keywordEach [] env))):=rfl
def O4{call:Str->oE}(EJ:RD X fns call)(J8:∀x a,W.nsIn X.K mainGlobals x=some (some (.ref a))->X.mg x=some (.ref a))(hf:PE X (.Subscript v k sp) (tE X aa ab ff))(ha:PA X (e::es) (tA X aa ab ts))
  (he:starEach (e::es) X.env=(false,eval e X.env)::starEach es X.env) (nE:(backTo pos (starEach es X.env)).any (·.1)=false):PE X (.Call (.Subscript v k sp) (e::es) [] pos) (tE X aa ab (AB fns call ff ts)):=by
 rintro ae s σ H Q I ⟨F,st,R,h⟩
 rw[xU];refine af (thn (hf ae s σ H (λv H1=>∃F1 br q,Rep X.K aa ab F1 br σ H1/\bN X.K F1 q v/\Tx X aa ab (bN X.K) F1 br (bnd (kM ((fnP q).bind λx=>(fns.lookup x).map λn=>(x,n))) λx=>RC x.2 (call x.1) ts) σ Q) I
  ⟨F,st,R,h.bnd λq v F1 br H1 R1 g1 b1 h1=>⟨F1,br,q,R1,b1,h1⟩⟩) λu s1 ⟨x,H1,I1,rx,F1,br,q,R1,b1,h1⟩=>?_)
 obtain⟨⟨y,n⟩,e1,z⟩:=At.kM (At.bnd h1);obtain⟨y',e2,e3⟩:=aX e1;obtain⟨n',e4,e5⟩:=bt e3;simp only[rn]at e5;obtain⟨rfl,rfl⟩:=e5;rw[K9 e2]at b1;obtain⟨a,rfl,YG⟩:=si.mp b1;obtain⟨j,f',fd,ps,G,hr,m1,m2,m3⟩:=EJ _ _ e4;have:=cH ((J8 _ a YG).symm.trans m1);cases this;cases rx;exact W.callWith_K I.ok.mod.kin m2 (thn (ha pos ae s1 σ H1 (λvs H2=>∃F2 st2 as,Rep X.K aa ab F2 st2 σ H2/\aE X.K F2 as vs/\Tx X aa ab (bN X.K) F2 st2 (oG _ _ as) σ Q) I1
  ⟨F1,br,R1,Tx.bnd z λas vs F2 st2 H2 R2 g2 b2 h2=>⟨F2,st2,as,R2,b2,h2⟩⟩) (by rintro us s2 ⟨vs,H2,I2,r,F2,st2,as,R2,b2,z⟩;exact⟨I2.rM,Y7 G hr m3 _ _ _ _ _ _ _ _ _ _ _ _ I2 R2 b2 r z⟩)) he nE
noncomputable def Fu(f:Str):List Str->List PV->Option PV
 | g::ns,p::ps=>if g=f then some p else Fu f ns ps
 | _,_=>none
def U2(f:Str)(fe:Gx PV):Gx PV:=bnd fe λp=>hp λh=>match cX h p with
 | some (.oX _ ns,ps)=>Fu f ns ps
 | _=>none
theorem AD{K:W.Frag}:∀{fs:List (Str×V)} {ps:List PV} {p:PV},Fu f (fs.map (·.1)) ps=some p->aE K F ps (fs.map (·.2))->f∈fs.map (·.1)/\∃v,fs.lookup f=some v/\bN K F p v
 | [],_,_,h,_=>by cases h
 | (g,v)::r,[],_,h,_=>by cases h
 | (g,v)::r,q::ps,p,h,b=>by
  obtain⟨v',w,e,b1,b2⟩:=b.cx;cases e;have h:(if g=f then some q else Fu f (r.map (·.1)) ps)=some p:=h
  by_cases hg:g=f
  ·grind
  ·rw[if_neg hg]at h;obtain⟨h1,v2,h2,h3⟩:=AD h b2;have hgf:(f==g)=false:=by grind
   exact⟨aK _ h1,v2,by grind,h3⟩
def Ze(he:PE X e (tE X aa ab fe))(hb:attributeBase e f X.env (eval e X.env)=eval e X.env):PE X (.Attribute e f pos) (tE X aa ab (U2 f fe)):=(TF he hb).imp λσ H Q ⟨F,st,R,h⟩=>⟨F,st,R,h.bnd λq v F1 br H1 R1 g1 b1 h1=>by
 obtain⟨o,e,z⟩:=h1.hp;split at e
 ·rename_i C ns ps hd;obtain⟨a,vs,rfl,⟨Ca,dx,fs,h2,h3,h4,h5,h6,h7⟩,h8⟩:=R1.at hd b1;subst h6 h7;obtain⟨hm,w,hl,bw⟩:=AD e h8;exact⟨a,Ca,dx,fs,w,rfl,h5,h3,h4 f hm,hl,z _ H1 F1 R1 (Gr.refl _) bw⟩
 ·cases e⟩
noncomputable def qd(f:Str)(q:PV):List Str->List PV->List Str×List PV
 | g::ns,p::ps=>if g=f then(g::ns,q::ps)else(g::(qd f q ns ps).1,p::(qd f q ns ps).2)
 | _,_=>([f],[q])
theorem Fv{K:W.Frag}(bq:bN K F q v):∀{fs:List (Str×V)} {ps:List PV},aE K F ps (fs.map (·.2))->(iY f v fs).map (·.1)=(qd f q (fs.map (·.1)) ps).1/\aE K F (qd f q (fs.map (·.1)) ps).2 ((iY f v fs).map (·.2))/\∀g∈(qd f q (fs.map (·.1)) ps).1,g=f\/g∈fs.map (·.1)
 | [],ps,b=>by
  have e:=lJ b.length;subst e;exact⟨rfl,.cons bq .nil,λg hg=>.inl (by simpa[qd]using hg)⟩
 | (g,w)::r,[],b=>by have:=b.length;simp at this
 | (g,w)::r,p::ps,b=>by
  obtain⟨v',w',e,b1,b2⟩:=b.cx;cases e;obtain⟨h1,h2,h3⟩:=Fv bq b2;by_cases hg:g=f
  ·subst hg;have e1:iY g v ((g,w)::r)=(g,v)::r:=if_pos rfl;have e2:qd g q (((g,w)::r).map (·.1)) (p::ps)=(g::r.map (·.1),q::ps):=if_pos rfl;rw[e1,e2];exact⟨rfl,.cons bq b2,λy hy=>.inr hy⟩
  ·have e1:iY f v ((g,w)::r)=(g,w)::iY f v r:=if_neg hg;have e2:qd f q (((g,w)::r).map (·.1)) (p::ps)=(g::(qd f q (r.map (·.1)) ps).1,p::(qd f q (r.map (·.1)) ps).2):=if_neg hg;rw[e1,e2];refine⟨by rw[aM,h1],.cons b1 h2,λy hy=>?_⟩
   rcases aU.mp hy with rfl | hy
   ·grind
   ·grind
def La(K:W.Frag)(cls:List Str)(flds:List Str):Prop:=∀C,cls.contains C=true->∃Ca,ClsAt K C (.ref Ca)/\GL K Ca/\∀f,flds.contains f=true->ju K Ca f
def ado(cls flds:List Str)(f:Str)(po pv:PV):cC->Option cC:=λst=>(qb st.h po).bind λc=>match c.2.k with
 | .oX C ns=>if(cls.contains C&&flds.contains f&&decide (ns.length<900))=true then some ⟨st.ρ,st.h.set c.1 ⟨.oX C (qd f pv ns c.2.ps).1,(qd f pv ns c.2.ps).2⟩⟩else none
 | _=>none
def U3(cls flds:List Str)(f:Str)(fv fo:Gx PV):Gx dB:=bnd fv λv=>bnd fo λo=>stp (ado cls flds f o v)
def Zf{cls flds:List Str}(hc:La X.K cls flds)(ho:PE X o (tE X aa ab fo))(he:PE X e (tE X aa ab fv))(hs:swapsWith e (some (.Attribute o f uv)) pos.line X.env=pure false):PS X (.Assign [.Attribute o f uv] e pos) (tS X aa ab (U3 cls flds f fv fo)) :=
 (TJ ho he hs).imp λD σ H ⟨F,st,R,h⟩=>⟨F,st,R,h.bnd λpv v F1 br H1 R1 g1 b1 h1=>⟨F1,br,R1,h1.bnd λpo o F2 st2 H2 R2 g2 b2 h2=>by
  obtain⟨aB,e,z⟩:=h2.stp;obtain⟨⟨n,c⟩,e1,e0⟩:=aX e;clear e;have e:=e0;clear e0;obtain⟨rfl,EK,hl⟩:=je e1;obtain⟨a,ha,rfl⟩:=dI.mp b2;obtain⟨_,vs,g2',g3⟩:=R2.c.cell n c a EK ha hl;split at e
  ·rename_i C ns hk;have hk:=hk;obtain⟨hq,rfl⟩:=aJ e;rw[aO,aO]at hq;rw[hk]at g2';obtain⟨Ca,dx,fs,k1,k2,k3,k4,rfl,rfl⟩:=g2';obtain⟨Cb,m1,m2,m3⟩:=hc C hq.1.1;have eC:Ca=Cb:=by
    have:=k1.symm.trans m1;cases this;rfl
   subst eC;have eA:=eJ hq.2;rw[ak]at eA;obtain⟨p1,p2,p3⟩:=Fv (b1.mono g2) g3;refine⟨a,Ca,dx,fs,rfl,k4,k2,m3 f hq.1.2,(Nat.le_add_left_of_le ‹_›),z F2 σ _ (R2.put EK hl ha ⟨Ca,dx,_,k1,k2,λg hg=>?_,aD,p1,rfl⟩ p2) (Gr.refl _)⟩
   rcases p3 g hg with rfl | hg
   ·exact m3 _ hq.1.2
   ·exact k3 g hg
  ·cases e⟩⟩
def adp(st:cC):Rs PV×List az->Option (Rs PV×cC)
 | (.ok .bQ,h)=>(yY h 4 (.ref 0)).map λq=>(.ok q,st)
 | _=>none
def mkP(C:Str)(n:Nat)(g:oE)(ts:Gx (List PV)):Gx PV:=bnd ts λas st=>if as.length+1=n/\(st.h.isEmpty || ah as)=true then(g (.ref 0::as) [⟨.oX C [],[]⟩]).bind (adp st)else none
section
variable {C:Str} {Ca f:Addr} {fd:FuncData} {ps:List Str} {g:oE} {k n:Nat}
def O5(hC:ClsAt X.K C (.ref Ca))(c:GL X.K Ca)(h:tE X aa ab (mkP C n g ts) σ H Q):QS Ca (HF X.K n g) [] E0 (tA X aa ab ts) σ H Q:=by
 obtain⟨F,st,R,h⟩:=h;refine⟨F,st,R,h.bnd λas vs F1 br H1 R1 g1 b1 h1 y dx hy hdx hne=>?_⟩
 obtain⟨q,e1,e2⟩:=h1;obtain⟨⟨hl,hn⟩,e1⟩:=bX e1;obtain⟨r,e3,e4⟩:=aX e1;have hyd:cw H1 dx (.own y) y=none:=by rw[aI hne.symm];exact hy
 have up:cK H1 (cw H1 dx (.own y)):=eX hdx;have b2:aE X.K ⟨F1.F,[y]⟩ (.ref 0::as) (.ref y::vs):=.cons (dI.mpr ⟨y,rfl,rfl⟩) (vv R1 hn b1 [y]);have C0:kL X.K (cw H1 dx (.own y)) ⟨F1.F,[y]⟩ ⟨F1.F,[y]⟩ [⟨.oX C [],[]⟩] (cw (cw H1 dx (.own y)) y (.oX Ca dx [])):=by
  refine⟨λb o e=>eX hyd _ _ (up _ _ (R1.sub _ _ e)),eX hyd,Gr.refl _,λa o e=>.inl e,λm a e=>?_,rfl,by simp,λm d a e1 e2 e3=>?_⟩
  ·cases m with
   | zero=>cases e;exact⟨hyd,_,aD⟩
   | succ m=>simp at e
  ·cases m with
   | zero=>cases e1;cases e2;exact⟨R1.sub.free hy,[],⟨Ca,dx,[],hC,c,(λ_ z=>nomatch z),aD,rfl,rfl⟩,.nil⟩
   | succ m=>simp at e1
 match r,e4 with
 | (.ok .bQ,h'),e4 =>
  obtain⟨p,e5,rfl⟩:=bt e4;refine⟨_,_,_,.ref 0::as,_,h',C0,λb o e=>?_,by grind,by grind,e3,λv F' H' D b'=>⟨dH.mp b',?_⟩⟩
  ·by_cases hb:b=y
   ·subst hb;exact .inr ⟨0,rfl⟩
   ·rw[aI hb]at e;exact .inl e
  ·obtain⟨R3,g3⟩:=R1.back up D;exact e2 _ H' _ R3 g3 (D.yY F1.μ _ _ _ _ e5 (dI.mpr ⟨y,D.base.m 0 y rfl,rfl⟩))
end
end
def Zg(X:Cx)(aa:Hp)(ab:Fz)(fa:Addr)(ω:PV->Gx PV):Prop:=∀(H:Hp) (F:Fz) (st:cC) (σ:St) (ae:List (Addr×Obj)) (s:Shared) (Q:VK) (p:PV) (u:Value) (v:V),Inv X ae σ H s->Rep X.K aa ab F st σ H->bN X.K F p v->RelV v u->Tx X aa ab (bN X.K) F st (ω p) σ Q ->
 wpAny (model X.prog X.w) X.A (call (.ref fa) [u]) (EP X ae σ Q) X.xe s
structure AE (X:Cx) (aa:Hp) (ab:Fz) (n:Nat) (ω:PV->Gx PV):Prop where
 ex:∃fa o u Zh,ab.μ[n]?=some fa/\X.aa fa=some (.oY o u)/\o.data=.func Zh/\Zg X aa ab fa ω
def Zi(n:Nat):PV->Option Unit
 | .ref m=>if m=n then some ()else none
 | _=>none
def Lb(i n:Nat)(ω:PV->Gx PV)(fe:Gx PV):Gx PV:=bnd (rd i) λq=>bnd (kM (Zi n q)) λ_=>bnd fe ω
section
variable {X:Cx} {aa:Hp} {ab:Fz} {e:Expr} {fe:Gx PV} {pos p:Pos} {i n:Nat} {ω:PV->Gx PV} {y:Str}
def Zj(L:AE X aa ab n ω)(hy:PE X (.Name y p) (Nr i))(ha:PE X e (tE X aa ab fe))(he:starEach [e] X.env=(false,eval e X.env)::starEach [] X.env):PE X (.Call (.Name y p) [e] [] pos) (tE X aa ab (Lb i n ω fe)):=by
 rintro ae s σ H Q I ⟨F,st,R,h⟩
 obtain⟨fa,o,u,Zh,hm,hfr,hfd,L⟩:=L;refine j5 (thn (Rg i hy ae s σ H (λv H1=>v=.ref fa/\∃F1 br,Rep X.K aa ab F1 br σ H1/\Tx X aa ab (bN X.K) F1 br (bnd fe ω) σ Q) I ⟨F,st,R,h.bnd λq v F1 br H1 R1 g1 b1 h1=>?_⟩) λv s1 z9=>?_)
 ·obtain⟨_,e1,z⟩:=At.kM (At.bnd h1);cases q with
  | ref m =>
   obtain⟨rfl,_⟩:=aJ e1;obtain⟨a,ha,rfl⟩:=dI.mp b1;have:=R1.c.base.m _ _ hm;rw[ha]at this;cases this;exact⟨rfl,F1,br,R1,z⟩
  | _=>cases e1
 ·obtain⟨z,H1,I1,rx,rfl,F1,br,R1,h1⟩:=z9;cases rx;have hP:∀{bH:St} {H':Hp} {s':Shared},Inv X ae bH H' s'->s'.heap.get? fa=some o:=λ{bH H' s'} J=>(J.hok fa _ (J.base.frzs fa o u hfr)).1
  have hk:∀h:Heap,h.get? fa=some o->∃k,(k=Keeper.frame\/k=Keeper.machine\/k=Keeper.boundFrame)/\W.Looks (model X.prog X.w) h (keeperOf (.ref fa)) k:=λh ho=>by
   obtain⟨c1,c2,c3,c4⟩:=o;cases hfd;exact⟨.frame,.inl rfl,(W.Looks.ld ho).andThen .now⟩
  have RE:wpAny (model X.prog X.w) X.A (spliced (backTo pos (starEach [e] X.env))) (λus s2=>s2.heap.get? fa=some o/\wpAny (model X.prog X.w) X.A (call (.ref fa) ([]++us)) (EP X ae σ Q) X.xe s2) X.xe s1 :=
   thn ((jz ha rR he) pos ae s1 σ H1 (λvs H2=>∃v F2 st2 p,vs=[v]/\Rep X.K aa ab F2 st2 σ H2/\bN X.K F2 p v/\Tx X aa ab (bN X.K) F2 st2 (ω p) σ Q) I1 ⟨F1,br,R1,h1.bnd λp v F2 st2 H2 R2 g2 b2 h2=>⟨v,F2,st2,p,rfl,R2,b2,h2⟩⟩)
    λus s2 z9=>by
     obtain⟨vs,H2,I2,r,v,F2,st2,p,rfl,R2,b2,h2⟩:=z9;obtain⟨u2,rfl,ru⟩:=jL r;exact⟨hP I2,L H2 F2 st2 σ ae s2 Q p u2 v I2 R2 b2 ru h2⟩
  rw[he]at RE ⊢;exact W.callWith_of rfl hk (PySem.Calls.evalArgs_plain RE)
end
noncomputable def adt(ρ:List (Option PV)):Rs PV×cC->Option (Rs PV×cC)
 | (.ok p,st)=>some (.ok p,⟨ρ,st.h⟩)
 | _=>none
def O6(fb:Gx PV)(Zk:List (Option PV)):PV->Gx PV:=λp st=>(fb ⟨some p::Zk,st.h⟩).bind (adt st.ρ)
def U4(hex:X.ex=[])(hL:Ki X.aa fa qual pq9 body scope cl)(hC:lX X.s₀.heap X.aa scope cl N τ)(hF:Lc X.K sN Zk τ)(adu:Gr sN ab)(hr:dM (k+1) X.A)
  (hb:∀(pm cZ I0 u:Value),bindArgs (W.kla_fn "<lambda>" qual pq9 body scope cl pm cZ I0) ⟨[u],[]⟩=pure [(x,u)]) (hk:scope.kind=.function) (Ua:scope.isCoroutine=false) (Ub:scope.isGenerator=false) (hx:scope.names.lookup x=some .local) (nc:∀y∈scope.names,y.2≠.cell)
  (hbody:∀(cZ:Value) (s:Shared) (H aa:Hp) (ab:Fz),dM k (X.A.deeper (W.envX qual scope s.heap.objs.size fa cZ cl))->PE (Ra (i9 X.prog X.w) X.prog X.w X.K X.mg X.base (x::N) qual scope fa cZ cl X.A X.stack s H E0) body (tE (Ra (i9 X.prog X.w) X.prog X.w X.K X.mg X.base (x::N) qual scope fa cZ cl X.A X.stack s H E0) aa ab fb)):Zg X aa ab fa (O6 fb Zk):=by
 rintro H F st σ ae s Q p u v I R b ru ⟨q,e1,e2⟩
 obtain⟨r,e3,e4⟩:=aX e1;obtain⟨o,u',pm,cZ,I0,c,oc,uc,vs,t,k1,k2,rfl,k3,k4,k5⟩:=hL;have g1:=(I.hok fa _ (I.base.frzs fa o u' k1)).1;have g2:=(I.hok c _ (I.base.frzs c oc uc k3)).1;have C:=hC.un (by have:=I.base;rw[hex]at this;exact this)
 match r,e4 with
 | (.ok p',aB),e4 =>
  cases e4;have L:Lc X.K F (some p::Zk) (some v::τ):=⟨λi y e=>by
   cases i with
   | zero=>cases e;exact⟨v,rfl,b⟩
   | succ i =>
    obtain⟨z,h1,h2⟩:=hF.av i y (by grind)
    exact⟨z,by grind,h2.mono (adu.trans R.c.base)⟩,by simp[hF.len]⟩
  obtain⟨C0,_⟩:=R.c.enter;refine rE (ka (Oc g1 k2 ⟨c,oc,vs,t,rfl,g2,k4,k5⟩ hr I.NT (hb _ _ _ _) ru hk Ua Ub hx nc C ⟨_,hbody (.ref c) s H _ F (hr.deeper _),F,⟨some p::Zk,st.h⟩,⟨C0,L⟩,_,e3,λv' H' F' R' g' b'=>e2 v' H' F' ⟨R.c.leave R'.c,R.l.mono g'⟩ g' b'⟩) λr s' hq=>?_)
  cases r with
  | error e=>exact zZ ae σ H s e s' I hq
  | ok fl =>
   cases fl with
   | ret u=>exact I.after hq
   | next=>exact False.elim hq
   | brk=>exact False.elim hq
   | cont=>exact False.elim hq
structure sO (X:Cx) (x:Str) (N:List Str) (link:List (Option Nat)) (scope:Scope):Prop where
 kind:scope.kind=.function
 co:scope.isCoroutine=false
 gen:scope.isGenerator=false
 par:scope.names.lookup x=some .local
 cell:∀y∈scope.names,y.2≠.cell
 free:∀y∈scope.names,y.2=.free->(X.env.kindOf y.1=some .cell\/X.env.kindOf y.1=some .free)
 len:link.length=N.length
 link:∀(i j:Nat) (y:Str),link[i]?=some (some j)->N[i]?=some y->X.N[j]?=some y/\scope.names.lookup y=some .free
def O7(I:Inv X ae σ H s)(S:sO X x N link scope):lX s.heap H scope (kr X.env scope.names []) N (gL link σ) where
 inj:=λy z c h1 h2=>I.ok.inj y z c (cb h1) (cb h2)
 has:=λy hy=>by
  have hm:=eH hy;obtain⟨c,hc⟩:=I.ok.has y (S.free _ hm rfl);obtain⟨c',h'⟩:=ku scope.names [] hm ⟨c,hc⟩;cases z:(kr X.env scope.names []).lookup y with
  | some c2=>exact⟨c2,rfl⟩
  | none=>exact absurd h' (by intro hh;have:=List.lookup_eq_none_iff.mp z (y,c') hh;simp at this)
 cell:=λy c h=>I.cell y c (cb h)
 free:=λy c h=>I.freeC y c (cb h)
 val:=λi y v h1 h2=>by
  unfold L2.U.gL at h2;rw[bR]at h2;cases z:link[i]? with
  | none=>rw[z]at h2;cases h2
  | some o =>
   rw[z]at h2;cases o with
   | none=>cases h2
   | some j =>
    have h2:(σ[j]?).join=some v:=cH h2;obtain⟨g1,g2⟩:=S.link i j y z h1;have hm:=eH g2;obtain⟨m,_,hl⟩:=I.loc;have hfk:=S.free _ hm rfl;obtain⟨u,ru,lk⟩:=hl j y v g1 (by
     cases w:σ[j]? with
     | none=>rw[w]at h2;cases h2
     | some q=>rw[w]at h2;exact ej some h2) (by
     rcases hfk with q | q
     ·exact .inr (.inl q)
     ·exact .inr (.inr q))
    rcases lk with⟨q,_⟩ | ⟨_,c,hc,hi⟩
    ·rcases hfk with q' | q'<;>rw[q]at q'<;>cases q'
    ·obtain⟨c',h'⟩:=ku scope.names [] hm ⟨c,hc⟩;cases zz:(kr X.env scope.names []).lookup y with
     | none=>exact absurd h' (by intro hh;have:=List.lookup_eq_none_iff.mp zz (y,c') hh;simp at this)
     | some c2 =>
      have:=cb zz;rw[hc]at this;cases this;exact⟨c,u,g2,rfl,hi,ru⟩
 len:=by unfold L2.U.gL;rw[ak];exact S.len
structure RF (X:Cx):Prop where
 ex:∃x c T,x∈dq/\W.tabIn X.K x=some (c,T)/\W.codeHdIn X.K c T=true/\X.env.code=.ref c/\X.env.qual++"<lambda>"=zw x
 blt:zX X.mg X.base
def oneArg(x:Str)(ap:Pos):Arguments:={posonlyargs:=[],args:=[{arg:=x,annotation:=none,pos:=ap}],vararg:=none,kwonlyargs:=[],kw_defaults:=[],kwarg:=none,defaults:=[]}
def HI(pm cZ I0 u:Value):bindArgs (W.kla_fn "<lambda>" qual (oneArg x ap) body scope cl pm cZ I0) ⟨[u],[]⟩=pure [(x,u)]:=by
 have hs:seqItems? Value.none=pure none:=rfl;unfold bindArgs;simp only[oneArg,hs,Cp];simp[List.lookup]
def mV:az:=⟨.ay,[]⟩
def Zl(rs:(PV->Gx PV)->Nat->oE)(fb:Gx PV)(link:List (Option Nat)):PV->Gx PV:=λp st =>
 (rs (O6 fb (bO link st.ρ)) st.h.length [p,.ref st.h.length] (st.h++[mV])).map λr=>(Y6 r.1,⟨st.ρ,r.2⟩)
def HJ(rs:(PV->Gx PV)->Nat->oE)(fe fb:Gx PV)(link:List (Option Nat)):Gx PV:=bnd fe (Zl rs fb link)
section
variable {K:W.Frag} {aa H H':Hp} {ab F:Fz} {h:List az}
def kL.adv(C:kL K aa ab F h H)(hp:F.F p=none)(h0:aa p=none)(hH:∃o,H p=some o)(hn:p∉F.μ):kL K aa ab ⟨F.F,F.μ++[p]⟩ (h++[mV]) H/\Gr F ⟨F.F,F.μ++[p]⟩/\(F.μ++[p])[h.length]?=some p:=by
 have g:Gr F ⟨F.F,F.μ++[p]⟩:=⟨cK.refl _,λn a q=>by
  grind⟩
 have Ym:∀n a,(F.μ++[p])[n]?=some a->F.μ[n]?=some a\/n=F.μ.length/\a=p:=λn a q=>by
  grind
 refine⟨⟨C.sub,C.keep,C.base.trans g,C.fresh,λn a q=>?_,by simp[C.hl],?_,λn d a hd ha hk=>?_⟩,g,by rw[C.hl];simp⟩
 ·rcases Ym n a q with z | ⟨_,rfl⟩
  ·exact C.new n a z
  ·grind
 ·rw[q8];exact⟨C.nd,by grind⟩
 ·rcases Ym n a ha with z | ⟨rfl,rfl⟩
  ·rw[iA (by rw[C.hl];exact(cf.mp z).1)]at hd
   obtain⟨h1,ws,h2,h3⟩:=C.cell n d a hd z hk;exact⟨h1,ws,h2,h3.mono g⟩
  ·rw[<-C.hl,we (ao _),Nat.sub_self]at hd;cases hd;cases hk
end
section
variable {X:Cx} {aa:Hp} {ab:Fz} {e body:Expr} {fe fb:Gx PV} {scope:Scope} {x:Str} {ap lp p1 pos:Pos} {N Ns:List Str} {link:List (Option Nat)} {fs:Addr} {RG:FuncData} {k:Nat} {st:Stmt} {pr:List Str} {rb:(PV->Gx PV)->Nat->Gx dB}
def Ld(D:CG X.K "spread" "spread" st fs RG)(mS:X.mg "spread"=some (.ref fs))(bS:gK X.K RG pr [])(scS:dG Ns pr (au st))(hpr:pr.length=2)(L:RF X)(hg:Gl X "spread")(hr:dM (k+2) X.A)(he:PE X e (tE X aa ab fe))(nE:starEach [e,.Lambda (oneArg x ap) body scope lp] X.env=(false,eval e X.env)::starEach [.Lambda (oneArg x ap) body scope lp] X.env)(S:sO X x N link scope)
  (Le:∀(cZ:Value) (A:Around) (aA:List Env) (s:Shared) (H:Hp) (E:XK) (aa:Hp) (ab:Fz) (n:Nat) (ω:PV->Gx PV),dM (k+1) (A.deeper (envOfC "spread" (au st) s.heap.objs.size fs cZ))->AE (fF (i9 X.prog X.w) X.prog X.w X.K X.mg X.base Ns "spread" (au st) fs cZ A aA s H E) aa ab n ω ->
   PSs (fF (i9 X.prog X.w) X.prog X.w X.K X.mg X.base Ns "spread" (au st) fs cZ A aA s H E) (dk st) (tS (fF (i9 X.prog X.w) X.prog X.w X.K X.mg X.base Ns "spread" (au st) fs cZ A aA s H E) aa ab (rb ω n)))
  (hbody:∀(qual:Str) (fa:Addr) (cZ:Value) (cl:List (Str×Addr)) (A:Around) (stack:List Env) (s:Shared) (H xV:Hp) (sN:Fz),dM k (A.deeper (W.envX qual scope s.heap.objs.size fa cZ cl)) ->
   PE (Ra (i9 X.prog X.w) X.prog X.w X.K X.mg X.base (x::N) qual scope fa cZ cl A stack s H E0) body (tE (Ra (i9 X.prog X.w) X.prog X.w X.K X.mg X.base (x::N) qual scope fa cZ cl A stack s H E0) xV sN fb)) :
  PE X (.Call (.Name "spread" p1) [e,.Lambda (oneArg x ap) body scope lp] [] pos) (tE X aa ab (HJ (λω n=>dU (rb ω n) Ns.length) fe fb link)):=by
 rintro ae s σ H Q I ⟨F,st0,R,h⟩
 obtain⟨⟨xn,c,T,l1,l2,l3,l4,l5⟩,hB⟩:=L;have hcl:=sF λy hy hy2=>I.ok.has y.1 (S.free y hy hy2)
 refine j5 (ld_glob I hg mS ?_ rfl);refine W.callWith_K I.ok.mod.kin D.kp (thn ((jz he (jz (Uc l1 l2 l3 l4 l5 hB rfl hcl) rR rfl) nE) pos ae s σ H
  (λvs H2=>∃v fa F1 br p H1,vs=[v,.ref fa]/\Rep X.K aa ab F1 br σ H1/\bN X.K F1 p v/\Tx X aa ab (bN X.K) F1 br (Zl (λω n=>dU (rb ω n) Ns.length) fb link p) σ Q/\H1 fa=none/\cK H1 H2/\(∀b o,H2 b=some o->H1 b=some o\/H1 b=none)/\Ki H2 fa (zw xn) (oneArg x ap) body scope (kr X.env scope.names [])) I
  ⟨F,st0,R,h.bnd λp v F1 br H1 R1 g1 b1 h1 fa H2 hn sm fr hL=>⟨v,fa,F1,br,p,H1,rfl,R1,b1,h1,hn,sm,fr,hL⟩⟩) λus s1 z9=>?_) nE rfl
 obtain⟨vs,H2,I2,r,v,fa,F1,br,p,H1,rfl,R1,b1,z,hn,sm,fr,hL⟩:=z9;refine⟨I2.rM,?_⟩;obtain⟨q,e1,e2⟩:=z;obtain⟨⟨rs,h'⟩,e3,e4⟩:=bt e1;subst e4;obtain⟨o,u,pm,aht,I0,c',oc,uc,xt,t,k1,k2,k3⟩:=id hL;have C1:=R1.c.after sm (cK.refl _) rfl (R1.sub.trans sm) λ_ _ e=>.inl e
 have nfa:fa∉F1.μ:=λhm=>by
  obtain⟨n,Xu⟩:=nM.mp hm;obtain⟨_,o',nC⟩:=R1.c.new n fa Xu;rw[hn]at nC;cases nC
 obtain⟨C2,g2,hm⟩:=C1.adv (R1.sub.free hn) (R1.c.keep.free hn) ⟨_,k1⟩ nfa;obtain⟨C3,full⟩:=C2.enter;have b2:aE X.K ⟨F1.F,F1.μ++[fa]⟩ [p,.ref br.h.length] [v,.ref fa]:=.cons (b1.mono g2) (.cons (dI.mpr ⟨fa,hm,rfl⟩) .nil);obtain⟨q2,e5,e6⟩:=aX e3;have run:∀Q' E',UW X.K (qc H2 (F1.μ++[fa])) ⟨F1.F,F1.μ++[fa]⟩ h' Q' E' rs->codeAny (model X.prog X.w) X.A (.call (.ref fs) ⟨us,[]⟩) (CR (i9 X.prog X.w) X.stack X.prog X.w H2 s1 Q' E') s1:=λQ' E' res=>by
  refine Yk D scS hr I2.NT (bS s1 us I2.rM (by rw[fq,<-r.length,hpr];rfl)) (by rw[fq];exact r) (by rw[hpr];rfl) λcZ=>⟨_,Le cZ X.A X.stack s1 H2 E' _ _ br.h.length _ (hr.deeper _) ⟨fa,o,u,_,hm,k1,k2,?_⟩,_,⟨gJ Ns.length [p,.ref br.h.length],_⟩,⟨C3,Ay b2⟩,q2,e5,?_⟩
  ·exact U4 rfl hL (O7 I2 S) (R1.l.gL link) g2 (hr.deeper _) HI S.kind S.co S.gen S.par S.cell λcZ s H xV sN Zm=>hbody _ _ _ _ _ _ _ _ _ _ Zm
  ·rcases q2 with⟨f | ⟨m,c⟩,st⟩
   ·cases f with
    | rt=>cases e6;exact λv F' H' C' g b'=>res v F' H' C' b'
    | nx=>cases e6;exact λF' bH H' R g=>res .bQ F' H' R.c (dH.mpr rfl)
    | _=>cases e6
   ·cases e6;cases m with
    | true=>exact λF' bH H' ae s1 h1 a cls vs R sf I hc hm=>Fp I hm (Fq full R.c) (res cls F' H' R.c hc)
    | false=>exact λbH ae H1 s1 e s' I h=>Ax I h (by rintro cls H2 ⟨hc,F',R,sf⟩;exact⟨Fq full R.c,res cls F' H2 R.c hc⟩)
 have done:∀Q' E',(∀e s',i9 X.prog X.w X.stack H2 s1 E' e s'->X.xe e s')->UW X.K (qc H2 (F1.μ++[fa])) ⟨F1.F,F1.μ++[fa]⟩ h' Q' E' rs->wpAny (model X.prog X.w) X.A (call (.ref fs) us) (EP X ae σ Q') X.xe s1:=λQ' E' hx res=>by
  refine rE (ka (run Q' E' res) λr s' uz=>?_)
  cases r with
  | error e=>exact hx e s' uz
  | ok fl =>
   cases fl with
   | ret u=>exact I2.after uz
   | next=>exact False.elim uz
   | brk=>exact False.elim uz
   | cont=>exact False.elim uz
 cases rs with
 | ok p'=>exact done Q E0 (λe s' hx=>zZ ae σ H2 s1 e s' I2 hx) λv F' H' D' b'=>e2 v H' F' ⟨C2.leave D',R1.l.mono (g2.trans D'.base)⟩ (g2.trans D'.base) b'
 | ex m c=>exact thn (done (λ_ _=>False) _ (λe s' hx=>e2 σ ae H2 s1 e s' I2 hx) λcls F' H' D' hc=>⟨hc,F',⟨C2.leave D',R1.l.mono (g2.trans D'.base)⟩,g2.trans D'.base⟩) (by rintro v s3 ⟨_,_,_,_,z⟩;exact z.elim)
end
end L2.U
namespace PySem
open Sem (wp)
def qe:entryFor table "set.__iter__"=some Builtin.«frozenset.__iter__» := entryFor_alias (id':="frozenset.__iter__") (by kernel_rfl) rfl (by decide +kernel) (by kernel_rfl)
def eF:Slot "set_iterator" "__next__" "set_iterator.__next__" :=
 .of (owner:="set_iterator") (n:="__next__") (by rw[Cz,B9];kernel_rfl) (by decide +kernel) (by decide +kernel) (by decide +kernel)
  (by first | exact .inl (by decide +kernel) | exact .inr (by decide +kernel)) (by rw[isSubtype_type];kernel_rfl)
def lA:entryFor table "set_iterator.__next__"=some Builtin.«set_iterator.__next__» := entryFor_of_tree (by kernel_rfl)
def mW(a:Value):argsOk "set_iterator.__next__" ⟨[a],[]⟩:=by unfold argsOk;kernel_rfl
def mX:Slot "set_iterator" "__iter__" "set_iterator.__iter__" :=
 .of (owner:="set_iterator") (n:="__iter__") (by rw[Cz,B9];kernel_rfl) (by decide +kernel) (by decide +kernel) (by decide +kernel)
  (by first | exact .inl (by decide +kernel) | exact .inr (by decide +kernel)) (by rw[isSubtype_type];kernel_rfl)
def uF:entryFor table "set_iterator.__iter__"=some Builtin.«dict_keyiterator.__iter__» := entryFor_alias (id':="dict_keyiterator.__iter__") (by kernel_rfl) rfl (by decide +kernel) (by kernel_rfl)
def xW(a:Value):argsOk "set_iterator.__iter__" ⟨[a],[]⟩:=by unfold argsOk;kernel_rfl
def dW(es:Array (Int×Value))(ep:Nat)(t:SetTable):Obj:={cls:=.type "set",dict:=none,data:=.set es ep t,slots:=#[]}
noncomputable abbrev BT(w:World):Bool:=w.params.followText "set-order"
section
variable {prog:Program} {w:World} {A:Around} {E:Value->Shared->Prop} {s:Shared} {a:Addr} {es:Array (Int×Value)} {ep:Nat} {t:SetTable}
def l7(h:Q (BT w) s):wpAny (model prog w) A setsByText Q E s:=by
 unfold setsByText;exact af (Cq (aj h))
def xX(hS:s.heap.get? a=some (dW es ep t))(hf:t.fits es.size=true)(hg:BT w=true\/t.plain=true)(h:Q false s):wpAny (model prog w) A (setDrawn a) Q E s:=by
 unfold setDrawn;refine af (j7 hS rfl hf ?_);refine af (l7 ?_);refine aj ?_;have e:(!BT w&&(!t.plain&&decide (es.size>1)))=false:=by
  grind
 show Q (!BT w&&(!t.plain&&decide (es.size>1))) s;rw[e];exact h
def Dz(hS:s.heap.get? a=some (dW es ep t))(hf:t.fits es.size=true)(hg:BT w=true\/t.plain=true)
  (hQ:Q (.ref s.heap.objs.size) {s with heap:=s.heap.push {cls:=.type "set_iterator",data:=.fields #[.int 0 0,.int 0 0,.ref a,.int es.size 0,.int ep 0]}}):wpAny (model prog w) A (pyIter (.ref a)) Q E s:=by
 have hT:s.TypeIs (.ref a) "set":=⟨_,hS,rfl⟩;refine wpAny_pyIter_slot hT F.slot_set_iter (gX F.slot_set_iter hT qe ?_ (F.args_set_iter_1 _));unfold Builtin.«frozenset.__iter__» Builtin.Frozenset.slot0;refine af (af (aj ?_));refine aj ?_;unfold Builtin.Frozenset.sizeOf setEntries;refine af (af (af (j7 hS rfl hf (aj (aj ?_)))));refine af (xX hS hf hg ?_);rw[if_neg d9];refine af (aj ?_);refine af (wpAny_setEpoch_of hS rfl hf ?_);unfold newFields;refine af (iE (aj ⟨_,rfl,"set_iterator",_,⟨_,cB _ rfl,rfl⟩,eF.lookup,?_⟩));simpa[rawInt]using hQ
end
section
variable {prog:Program} {w:World} {A:Around} {E:Value->Shared->Prop} {s:Shared} {a:Addr} {es:Array (Int×Value)} {ep:Nat} {t:SetTable}
noncomputable def Fw(t:SetTable):Nat->Nat
 | 0=>0
 | i+1=>t.place.getD i 0+1
def eG(w:World)(t:SetTable)(i:Nat):Nat:=if BT w=true then 0 else Fw t i
def l8(w:World)(a:Addr)(ep:Nat)(es:Array (Int×Value)):Array (Int×Value):=if BT w=true then pickOrder (w.params.setOrder a ep) es else es
structure fU (w:World) (a:Addr) (ep:Nat) (es:Array (Int×Value)) (t:SetTable):Prop where
 fits:t.fits es.size=true
 size:(l8 w a ep es).size=es.size
 led:BT w=false->t.led=true/\t.plain=true/\∀i,i<=es.size->SetTable.below t.place (Fw t i)=i
def fU.ok(g:fU w a ep es t):BT w=true\/t.plain=true:=by
 cases h:BT w with
 | true=>exact .inl rfl
 | false=>exact .inr (g.led h).2.1
def fU.place(g:fU w a ep es t):t.place.size=es.size:=by
 have:=g.fits;simp only[SetTable.fits,aO,bh]at this;exact this.1
def AG(hS:s.heap.get? a=some (dW es ep t))(g:fU w a ep es t)(i:Nat)(hi:i<=es.size)
  (h:Q (((l8 w a ep es)[i]?).map λe=>(e.2,eG w t (i+1))) s):wpAny (model prog w) A (setNext a (eG w t i) i ep) Q E s:=by
 unfold setNext;refine af (j7 hS rfl g.fits ?_);refine af (l7 ?_);cases hb:BT w with
 | true =>
  rw[if_pos rfl];dsimp only
  rw[if_neg (by simp)]
  unfold setWalk;refine af (af (j7 hS rfl g.fits ?_));refine af (l7 ?_);rw[hb,if_pos rfl];refine af (Cq ?_);refine aj (aj ?_);unfold l8 eG at h;rw[hb]at h;simp only[iJ]at h;unfold eG;rw[hb];exact h
 | false =>
  obtain⟨hl,hp,hw⟩:=g.led hb;rw[if_neg d9];refine af (aj ?_);show wpAny _ _ (if(!t.plain&&decide (es.size>1))=true then _ else _) _ _ s
  rw[hp];rw[if_neg (by simp)]
  refine af ?_;show wpAny _ _ (if(!t.led&&!es.isEmpty)=true then _ else _) _ _ s
  rw[hl,if_neg (by simp)]
  refine aj ?_;refine aj ?_;unfold l8 eG at h;rw[hb]at h;simp only[qY,jt]at h;have e:SetTable.below t.place (eG w t i)=i:=by unfold eG;rw[hb,if_neg d9];exact hw i hi
  rw[e];have nE:=g.place;by_cases fO:i<es.size
  ·have h1:es[i]?=some es[i]:=by simp[fO]
   have h2:t.place[i]?=some (t.place[i]'(by lia)):=by grind
   rw[h1,h2];rw[h1]at h;have h3:Fw t (i+1)=t.place[i]'(by lia)+1:=by
    show t.place.getD i 0+1=_;simp[show i<t.place.size by lia]
   rw[h3]at h;exact h
  ·grind
end
section
variable {prog:Program} {w:World} {A:Around} {E:Value->Shared->Prop} {s:Shared} {a it:Addr} {es:Array (Int×Value)} {ep:Nat} {t:SetTable}
def fA(h:Heap)(it a:Addr)(sl i n ep:Nat):Prop:=∃o,h.get? it=some o/\o.cls=.type "set_iterator"/\o.data=.fields #[.int sl 0,.int i 0,.ref a,.int n 0,.int ep 0]
def fA.typeIs(x:fA s.heap it a sl i n ep):s.TypeIs (.ref it) "set_iterator":=let ⟨o,ho,hc,_⟩:=x;⟨o,ho,hc⟩
def Lf(um:fA s.heap it a (eG w t i) i es.size ep)(hS:s.heap.get? a=some (dW es ep t))(g:fU w a ep es t)(hi:i<es.size)
  (hQ:∀v h',(∃e,(l8 w a ep es)[i]?=some e/\v=e.2)->fA h' it a (eG w t (i+1)) (i+1) es.size ep->Heap.SameBut it s.heap h'->Q (some v) {s with heap:=h'}):wpAny (model prog w) A (pyNext (.ref it)) Q E s:=by
 obtain⟨o,ho,hc,hd⟩:=id um;unfold pyNext;refine af (wU (jZ um.typeIs eF (gX eF um.typeIs lA ?_ (mW _))));unfold Builtin.«set_iterator.__next__»;refine af (aj ?_);refine af (wpAny_fieldsOf ho hd ?_);dsimp only
 unfold setEntries;refine af (af (j7 hS rfl g.fits (aj ?_)));dsimp only
 rw[if_neg (by simp)]
 have h1:(l8 w a ep es)[i]?=some ((l8 w a ep es)[i]'(by rw[g.size];exact hi)):=by simp[hi]
 refine af ?_;rw[show((eG w t i:Nat):Int).toNat=eG w t i from gg _,show((i:Nat):Int).toNat=i from gg _,show((ep:Nat):Int).toNat=ep from gg _]
 refine AG hS g i (dP hi) ?_;rw[h1];dsimp only[Option.map]
 refine af (rm ho hd (by simp) ?_)
 obtain⟨o1,g1,c1,d1⟩:∃o1,(s.heap.update it (Obj.mapFields (·.setIfInBounds 0 (rawInt (eG w t (i+1):Nat))))).get? it=some o1/\o1.cls=.type "set_iterator"/\o1.data=.fields #[.int (eG w t (i+1):Nat) 0,.int i 0,.ref a,.int es.size 0,.int ep 0] :=
  ⟨_,qT _ ho (Cc (nR hd _)),(Ck ..).trans hc,by rw[nR hd];simp[rawInt]⟩
 have b1:Heap.SameBut it s.heap (s.heap.update it (Obj.mapFields (·.setIfInBounds 0 (rawInt (eG w t (i+1):Nat))))):=nQ ..
 generalize (s.heap.update it (Obj.mapFields (·.setIfInBounds 0 (rawInt (eG w t (i+1):Nat)))))=H1 at g1 b1 ⊢
 refine af (rm g1 d1 (by simp) ?_)
 have U5:fA (H1.update it (Obj.mapFields (·.setIfInBounds 1 (rawInt (i+1))))) it a (eG w t (i+1)) (i+1) es.size ep :=
  ⟨_,qT _ g1 (Cc (nR d1 _)),(Ck ..).trans c1,by rw[nR d1];simp[rawInt]⟩
 exact aj ⟨_,rfl,aj (hQ _ _ ⟨_,h1,rfl⟩ U5 (b1.trans (nQ ..)))⟩
def O8(hh:A.handled=none)(um:fA s.heap it a (eG w t es.size) es.size es.size ep)(hS:s.heap.get? a=some (dW es ep t))(g:fU w a ep es t)
  (hQ:∀h',Heap.ExtBut it s.heap h'->Q none {s with heap:=h'}):wpAny (model prog w) A (pyNext (.ref it)) Q E s:=by
 obtain⟨o,ho,hc,hd⟩:=id um;unfold pyNext;refine af (wU (jZ um.typeIs eF (gX eF um.typeIs lA ?_ (mW _))));unfold Builtin.«set_iterator.__next__»;refine af (aj ?_);refine af (wpAny_fieldsOf ho hd ?_);dsimp only
 unfold setEntries;refine af (af (j7 hS rfl g.fits (aj ?_)));dsimp only
 rw[if_neg (by simp)]
 have h1:(l8 w a ep es)[es.size]?=none:=by simp[g.size]
 refine af ?_;rw[show((eG w t es.size:Nat):Int).toNat=eG w t es.size from gg _,show((es.size:Nat):Int).toNat=es.size from gg _,show((ep:Nat):Int).toNat=ep from gg _]
 refine AG hS g es.size (ao _) ?_;rw[h1];dsimp only[Option.map]
 refine af (rm ho hd (by simp) ?_)
 refine af ?_;simp only[newExc,newTuple];refine af (iE ?_ (by size_fits))
 refine af (wpAny_of_eq (by first | rfl | (simp only[firstArgMember];rfl)) ?_)
 refine iE ?_ (by size_fits)
 simp only[raiseNew];refine af (wpAny_handled ?_);rw[show A.in1.handled=none from hh]
 refine af (aj (wpAny_throw ?_));refine af (Cu ⟨_,cB _ rfl,rfl⟩ isSubtype_stop ?_);exact aj (hQ _ (((nQ ..).extBut.push _).push _))
def Lg(um:fA s.heap it a sl i n ep)(h:Q (.ref it) s):wpAny (model prog w) A (pyIter (.ref it)) Q E s:=by
 refine wpAny_pyIter_slot um.typeIs mX (gX mX um.typeIs uF ?_ (xW _));exact aj ⟨_,rfl,"set_iterator",_,um.typeIs,eF.lookup,h⟩
def Walks.adx(hh:A.handled=none)(I a:Addr)(hne:a≠I)(g:fU w a ep es t) :
  Walks prog w A I [I,a] [I] es.size (λi v=>∃e,(l8 w a ep es)[i]?=some e/\v=e.2) (λi h=>fA h I a (eG w t i) i es.size ep/\h.get? a=some (dW es ep t)) where
 sub:=λb hb=>by grind
 frame:=λ_ _ _ st hk=>⟨let ⟨o,ho,r⟩:=st.1;⟨o,hk I (by simp) o ho,r⟩,hk a (by simp) _ st.2⟩
 item:=λi s Q E hi st hQ=>Lf st.1 st.2 g hi λv h' hv U5 YR=>hQ v h' s.toks hv ⟨U5,YR.extBut a _ hne st.2⟩ λb o hb e=>YR.extBut b o (λh=>hb (by simp[h])) e
 done:=λs Q E st hQ=>O8 hh st.1 st.2 g λh' he'=>hQ h' s.toks λb o hb e=>he' b o (λh=>hb (by simp[h])) e
 self:=λ_ _ _ _ st hQ=>Lg st.1 hQ
def Lh(hT:s.TypeIs (.ref r) "set")(h:Q false s):wpAny (model prog w) A (Builtin.List.listLengthHint (.ref r)) Q E s:=by
 unfold Builtin.List.listLengthHint;refine af (wpAny_specialOf hT F.slot_set_len.lookup ?_)
 generalize hid:("set.__len__":String)=id0
 wp_delta
 rw[show splitId id0=some ("set","__len__")from by subst hid;decide +kernel]
 subst hid;refine af (Cu (b:=true) hT (by rw[isSubtype_type];kernel_rfl) ?_)
 refine Cy (λhab=>absurd hab (by decide)) (λ_=>?_)
 refine Cy (λ_=>?_) (λhab=>absurd (by decide +kernel) hab)
 refine af (oi hT ?_);exact aj h
def O9(g:fU w a ep es t):W.KdlSrc prog w "set" a a es.size (λi v=>∃e,(l8 w a ep es)[i]?=some e/\v=e.2) (λh=>h.get? a=some (dW es ep t)) where
 type:=λ_ hm=>⟨_,hm,rfl⟩
 there:=λ_ hm=>⟨aV hm,aV hm⟩
 keep:=λ_ _ hm hk=>hk a (.inl rfl) _ hm
 notList:=by decide
 notTuple:=by decide
 hint:=λ_ _ _ _ hm hq=>Lh ⟨_,hm,rfl⟩ hq
 iter:=λA s hh hm=>⟨_,_,(λ_ _ hq=>Dz hm g.fits g.ok hq),Walks.adx hh _ a (bG (aV hm)) g,⟨⟨_,cB _ rfl,rfl,by
  have:eG w t 0=0:=by unfold eG Fw;split<;>rfl
  rw[this];rfl⟩,aZ _ hm⟩⟩
end
section
open PyProof.Rows
theorem sP:∀(l:List α) (i:Nat) (h:i<l.length),([l[i]]++l.eraseIdx i).Perm l
 | [],i,h=>absurd h (by simp)
 | x::l,0,_=>.refl _
 | x::l,i+1,h=>by
  have h':i<l.length:=by simpa using h
  have ih:=sP l i h';rw[List.getElem_cons_succ,List.eraseIdx_cons_succ];exact(List.Perm.swap x l[i] (l.eraseIdx i)).trans (ih.cons x)
theorem Fx(nx:Nat->Nat):∀(jE k:Nat) (left:List α) (out:Array α),jE=left.length->(pickOrder.go nx jE k left out).toList.Perm (out.toList++left)
 | 0,k,left,out,h=>by
  have:=lJ h.symm;subst this;rw[fq];exact .refl _
 | jE+1,k,left,out,h=>by
  have hl:nx k%left.length<left.length:=Nat.mod_lt _ (by lia)
  unfold pickOrder.go;rw[cO hl];refine(Fx nx jE (k+1) (left.eraseIdx (nx k%left.length)) (out.push left[nx k%left.length]) (by grind)).trans ?_
  rw[wG,cg];refine List.Perm.append_left _ ?_;exact sP left _ hl
def HK(nx:Nat->Nat)(xs:Array α):(pickOrder nx xs).toList.Perm xs.toList:=by
 unfold pickOrder;have:=Fx nx xs.size 0 xs.toList #[] (by simp)
 simpa using this
def AH(w:World)(a:Addr)(ep:Nat)(es:Array (Int×Value)):(l8 w a ep es).toList.Perm es.toList:=by
 unfold l8;split
 ·exact HK _ _
 ·exact .refl _
def Li(w:World)(a:Addr)(ep:Nat)(es:Array (Int×Value)):(l8 w a ep es).size=es.size:=by
 have:=(AH w a ep es).length_eq;simpa using this
def intOf:Value->Int
 | .int n _=>n
 | _=>0
theorem AI:∀(l:List (Int×Value)),(∀e∈l,∃n t,e.2=.int n t)->IntsAre (l.map (·.2)) (l.map λe=>intOf e.2)
 | [],_=>.nil
 | e::l,h=>by
  obtain⟨n,t,q⟩:=h e aN;have ih:=AI l λx hx=>h x (aK _ hx)
  rw[aM,aM,q];exact .cons n t ih
def jh(place:Array Nat)(led:Bool):SetTable:={mask:=7,place:=place,dummies:=#[],finger:=0,led:=led,moves:=0,plain:=true}
def DA:∀k:_root_.Fin 64,hashInt ((k:Nat):Int)=((k:Nat):Int):=by decide +kernel
def U6:∀(k:_root_.Fin 64) (led:Bool),(jh #[] led).freeSlot ((k:Nat):Int)=some ((k:Nat)%8,false):=by decide +kernel
def U7:∀(p:_root_.Fin 8) (k:_root_.Fin 64) (led:Bool),∃q:_root_.Fin 8,(jh #[(p:Nat)] led).freeSlot ((k:Nat):Int)=some ((q:Nat),false)/\q≠p:=by decide +kernel
def Pa:∀p:_root_.Fin 8,SetTable.below #[(p:Nat)] 0=0/\SetTable.below #[(p:Nat)] ((p:Nat)+1)=1:=by decide +kernel
def Pb:∀p q:_root_.Fin 8,p<q->SetTable.below #[(p:Nat),(q:Nat)] 0=0/\SetTable.below #[(p:Nat),(q:Nat)] ((p:Nat)+1)=1/\SetTable.below #[(p:Nat),(q:Nat)] ((q:Nat)+1)=2:=by decide +kernel
def Pc:∀p q:_root_.Fin 8,q≠p->SetTable.below #[(p:Nat)] (q:Nat)=if p<q then 1 else 0:=by decide +kernel
def Zn(k:_root_.Fin 64)(led:Bool)(h:Int)(x:Value)(hh:h=((k:Nat):Int)):layNew (jh #[] led) #[] h x=(#[(h,x)],jh #[(k:Nat)%8] led,false,false):=by
 subst hh;unfold layNew;rw[U6 k led];rfl
def Zo(p:_root_.Fin 8)(k:_root_.Fin 64)(led:Bool)(h:Int)(x:Value)(hh:h=((k:Nat):Int))(e:Int×Value) :
  ∃q:_root_.Fin 8,q≠p/\layNew (jh #[(p:Nat)] led) #[e] h x=if p<q then(#[e,(h,x)],jh #[(p:Nat),(q:Nat)] led,false,false)else(#[(h,x),e],jh #[(q:Nat),(p:Nat)] led,false,false):=by
 subst hh;obtain⟨q,hq,hne⟩:=U7 p k led;refine⟨q,hne,?_⟩;have hb:=Pc p q hne;unfold layNew;rw[hq];dsimp only
 unfold SetTable.put;have jN:SetTable.below (jh #[p] led).place q=if p<q then 1 else 0:=hb
 rw[jN];by_cases fO:p<q
 ·rw[if_pos fO,if_pos fO];rfl
 ·rw[if_neg fO,if_neg fO];rfl
end
section
open PyProof.Rows
section
variable {prog:Program} {w:World} {A:Around} {E:Value->Shared->Prop} {s:Shared} {a:Addr} {es uG:Array (Int×Value)} {ep:Nat} {t t1:SetTable}
def AJ(h:∀e∈es.toList,∃k tk,e.2=.int k tk/\e.1=hashInt k):ElemsOf (intKind prog w) es.toList:=λe he=>by
 obtain⟨k,tk,h1,h2⟩:=h e he;exact⟨⟨k,by rw[h1];exact intKind_is _ _ _ _,h2⟩,by rw[h1];rfl⟩
def Pd(hS:s.heap.get? a=some (dW es ep t))(uG:Array (Int×Value))(t1:SetTable):(s.heap.update a (Obj.putSet uG t1)).get? a=some (dW uG (ep+1) t1):=by
 have:=qT (Obj.putSet uG t1) hS (by rw[putSet_of uG t1 (rfl)];rfl)
 rw[putSet_of uG t1 (rfl)]at this;exact this
def DB(hS:s.heap.get? a=some (dW es ep t))(hf:t.fits es.size=true)(RH:∀e∈es.toList,∃k tk,e.2=.int k tk/\e.1=hashInt k)(hb:es.size+1<scanBound)
  (U8:es.toList.findIdx? (λe=>(intKind prog w).is k e.2)=none) (hL:layNew t es (hashInt k) (.int k tk)=(uG,t1,false,false)) (hp:t1.plain=true) (Ud:t1.tooFull=false) (hz:uG.size<=sizeLine)
  (h:Q true {s with heap:=s.heap.update a (Obj.putSet uG t1)}):wpAny (model prog w) A (setAddHashed a (.int k tk) (hashInt k)) Q E s:=by
 have hE:=AJ (prog:=prog) (w:=w) RH;unfold setAddHashed setAddHashedIn;refine eP (af (j7 hS rfl hf ?_));dsimp only
 rw[byScan_of rfl (dP ‹_›) hE];simp only[↓reduceIte];unfold setAddByScan;refine af ?_;refine af (gi ?_);refine af (wpAny_setScan_of (intKind_is _ _ _ _) hS rfl hf hE ?_);rw[U8];dsimp only
 rw[hL];dsimp only
 refine af ?_;refine aj ?_;rw[hp,if_pos rfl];refine af ?_;rw[hashByValue_scannable 8 rfl];refine aj ?_;have e:(if plainKind (Value.int k tk)=true then t1 else {t1 with plain:=false})=t1:=if_pos rfl
 rw[e];refine af (wpAny_storeSet_of hS rfl ?_ hz);rw[Ud,if_neg (by simp)]
 exact aj (aj h)
def DC(hS:s.heap.get? a=some (dW es ep t))(hf:t.fits es.size=true)(RH:∀e∈es.toList,∃k tk,e.2=.int k tk/\e.1=hashInt k)(hb:es.size+1<scanBound)
  (hj:es.toList.findIdx? (λe=>(intKind prog w).is k e.2)=some j) (h:Q false s):wpAny (model prog w) A (setAddHashed a (.int k tk) (hashInt k)) Q E s:=by
 have hE:=AJ (prog:=prog) (w:=w) RH;unfold setAddHashed setAddHashedIn;refine eP (af (j7 hS rfl hf ?_));dsimp only
 rw[byScan_of rfl (dP ‹_›) hE];simp only[↓reduceIte];unfold setAddByScan;refine af ?_;refine af (gi ?_);refine af (wpAny_setScan_of (intKind_is _ _ _ _) hS rfl hf hE ?_);rw[hj];dsimp only
 exact aj (aj h)
end
def fw(led:Bool)(xs:List Int)(es:Array (Int×Value))(t:SetTable):Prop :=
 (∀e∈es.toList,∃k tk,e.2=.int k tk/\e.1=hashInt k)/\(es.toList.map λe=>intOf e.2).Perm xs /\
 ((xs=[]/\es=#[]/\t=jh #[] led)\/(∃(p:_root_.Fin 8) (x:Int),xs=[x]/\t=jh #[(p:Nat)] led)\/∃(p q:_root_.Fin 8) (x y:Int),xs=[x,y]/\p<q/\t=jh #[(p:Nat),(q:Nat)] led)
def fw.fits(h:fw led xs es t):t.fits es.size=true/\es.size=xs.length/\es.size<=2:=by
 obtain⟨_,hp,hc⟩:=h;have hl:=hp.length_eq;simp at hl;rcases hc with⟨rfl,rfl,rfl⟩ | ⟨p,x,rfl,rfl⟩ | ⟨p,q,x,y,rfl,_,rfl⟩
 ·exact⟨rfl,hl,by decide⟩
 ·simp at hl;exact⟨by rw[hl];rfl,hl,by lia⟩
 ·simp at hl;exact⟨by rw[hl];rfl,hl,(gF ‹_›)⟩
def fw.good(h:fw (!BT w) xs es t):fU w a ep es t:=by
 obtain⟨f1,f2,f3⟩:=h.fits;refine⟨f1,Li w a ep es,λhb=>?_⟩
 obtain⟨_,hp,hc⟩:=h;rw[hb]at hc;rcases hc with⟨rfl,rfl,rfl⟩ | ⟨p,x,rfl,rfl⟩ | ⟨p,q,x,y,rfl,fO,rfl⟩
 ·refine⟨rfl,rfl,λi hi=>?_⟩
  have:i=0:=by grind
  subst this;rfl
 ·obtain⟨b1,b2⟩:=Pa p;refine⟨rfl,rfl,λi hi=>?_⟩
  have:es.size=1:=f2;have:i=0\/i=1:=by lia
  rcases this with rfl | rfl
  ·exact b1
  ·exact b2
 ·obtain⟨b1,b2,b3⟩:=Pb p q fO;refine⟨rfl,rfl,λi hi=>?_⟩
  have:=f2;have:i=0\/i=1\/i=2:=by lia
  rcases this with rfl | rfl | rfl
  ·exact b1
  ·exact b2
  ·exact b3
section
variable {prog:Program} {w:World} {A:Around} {E:Value->Shared->Prop} {s:Shared} {a:Addr} {es:Array (Int×Value)} {ep:Nat} {t:SetTable}
noncomputable def lB(xs:List Int)(k:Int):List Int:=if k∈xs then xs else xs++[k]
def DD(hS:s.heap.get? a=some (dW es ep t))(h2:fw led xs es t)(hk:0<=k/\k<64)(hx:xs.length<=1)
  (h:∀b h' uG ep1 t1,Heap.SameBut a s.heap h'->h'.get? a=some (dW uG ep1 t1)->fw led (lB xs k) uG t1->Q b {s with heap:=h'}):wpAny (model prog w) A (setAddHashed a (.int k tk) (hashInt k)) Q E s:=by
 obtain⟨f1,f2,f3⟩:=h2.fits;obtain⟨RH,hp,hc⟩:=id h2;have hb:es.size+1<scanBound:=by
  have:scanBound=4096:=rfl
  lia
 have DE:∀e∈es.toList,(intKind prog w).is k e.2=true↔intOf e.2=k:=λe he=>by
  obtain⟨n,M9,q,_⟩:=RH e he;rw[q];show Value.isInt k (.int n M9)=true↔n=k;simp[Value.isInt]
 cases hr:es.toList.findIdx? (λe=>(intKind prog w).is k e.2)with
 | some j =>
  obtain⟨hj,hpj,_⟩:=Jf.mp hr;have Fy:k∈xs:=by
   grind
  refine DC hS f1 RH hb hr ?_;have:=h false s.heap es ep t (Heap.SameBut.refl a s.heap) hS (by unfold lB;rw[if_pos Fy];exact h2)
  exact this
 | none =>
  have U8:k∉xs:=λFy=>by
   grind
  have WY:hashInt k=k:=by
   have:=DA ⟨k.toNat,by lia⟩
   rw[show(⟨k.toNat,by lia⟩:_root_.Fin 64)=k from lM hk.1]at this
   exact this
  have hkc:hashInt k=(⟨k.toNat,by lia⟩:_root_.Fin 64):=by
   grind
  have fin:∀uG t1,layNew t es (hashInt k) (.int k tk)=(uG,t1,false,false)->t1.plain=true->t1.tooFull=false->uG.size<=2->fw led (lB xs k) uG t1->wpAny (model prog w) A (setAddHashed a (.int k tk) (hashInt k)) Q E s:=λuG t1 hL q1 q2 q3 q4 =>
   DB hS f1 RH hb hr hL q1 q2 (bE q3 (by decide)) (h true _ uG (ep+1) t1 (nQ ..) (Pd hS uG t1) q4)
  have U9:lB xs k=xs++[k]:=by unfold lB;rw[if_neg U8]
  rcases hc with⟨rfl,rfl,rfl⟩ | ⟨p,x,rfl,rfl⟩ | ⟨p,q,x,y,rfl,fO,rfl⟩
  ·refine fin _ _ (Zn ⟨k.toNat,by lia⟩ led _ _ hkc) rfl rfl (by simp) ?_
   rw[U9];refine⟨λe he=>?_,.refl _,.inr (.inl ⟨⟨(⟨k.toNat,by lia⟩:_root_.Fin 64).val%8,Nat.mod_lt _ (by decide)⟩,k,rfl,rfl⟩)⟩
   have he:=he;have he:=bC.mp he;subst he;exact⟨k,tk,rfl,rfl⟩
  ·have hs1:=f2;obtain⟨e0,rfl⟩:∃e0,es=#[e0]:=Array.size_eq_one_iff.mp hs1
   obtain⟨q,hne,hL⟩:=Zo p ⟨k.toNat,by lia⟩ led (hashInt k) (.int k tk) hkc e0
   have hq:(intOf e0.2)=x:=by
    have hm:=hp.mem_iff.mp (aF.mpr ⟨e0,by simp,rfl⟩)
    simpa using hm
   have h0:=RH e0 (by simp)
   by_cases fO:p<q
   ·rw[if_pos fO]at hL;refine fin _ _ hL rfl rfl (by simp) ?_
    rw[U9];refine⟨λe he=>?_,?_,.inr (.inr ⟨p,q,x,k,rfl,fO,rfl⟩)⟩
    ·have he:=he;simp only[aU,eK,eQ]at he;rcases he with rfl | rfl
     ·exact h0
     ·exact⟨k,tk,rfl,rfl⟩
    ·show [intOf e0.2,k].Perm ([x]++[k]);rw[hq];exact .refl _
   ·rw[if_neg fO]at hL;refine fin _ _ hL rfl rfl (by simp) ?_
    rw[U9];refine⟨λe he=>?_,?_,.inr (.inr ⟨q,p,x,k,rfl,?_,rfl⟩)⟩
    ·have he:=he;simp only[aU,eK,eQ]at he;rcases he with rfl | rfl
     ·exact⟨k,tk,rfl,rfl⟩
     ·exact h0
    ·show [k,intOf e0.2].Perm ([x]++[k]);rw[hq];exact .swap x k []
    ·have h3:q≠(p:Nat):=λe=>hne (_root_.Fin.ext e)
     have h4:¬(p:Nat)<(q:Nat):=fO;show(q:Nat)<(p:Nat)
     lia
  ·simp at hx
end
end
end PySem
namespace PySem
open PyProof.Rows
def oH(val:Nat->Int):Nat->List Int
 | 0=>[]
 | i+1=>lB (oH val i) (val i)
theorem sQ(val:Nat->Int):∀i,(oH val i).length<=i
 | 0=>ao _
 | i+1=>by
  have:=sQ val i;unfold oH lB;split
  ·lia
  ·simp;lia
section
variable {prog:Program} {w:World} {A:Around} {R:Result->Shared->Prop} {I:Addr} {fp wr:List Addr} {G:Array GenState->Array GenState->Prop} {n:Nat} {P:Nat->Value->Prop} {St:Nat->Shared->Prop}
def AK(W:WalksS prog w A.in1 I fp wr G n P St)(S:Addr)(hSf:S∉fp)(val:Nat->Int)(DF:∀i v,P i v->∃t,v=.int (val i) t)(Zp:∀i,i<n->0<=val i/\val i<64)(hn:n<=2)(led:Bool) :
  ∀(k i:Nat) (s:Shared),n-i=k->i<=n->St i s->(∃es ep t,s.heap.get? S=some (dW es ep t)/\fw led (oH val i) es t) ->
   (∀s',Moved (S::wr) G s s'->(∃es ep t,s'.heap.get? S=some (dW es ep t)/\fw led (oH val n) es t)->R (.ok (.ret .none)) s') ->
   codeAny (model prog w) A (.builtin "set.update.loop" ⟨[.ref S,.ref I],[]⟩) R s:=by
 have Zq:S∉wr:=λh=>hSf (W.sub _ h)
 have Ap:∀b∈wr,b∈S::wr:=by grind
 intro k;induction k with
 | zero =>
  intro i s hk hi ui hS hR;have Fy:i=n:=by lia
  subst Fy;refine nW F.entry_set_update_loop ?_;rw[qV B5 _];refine af (W.done s _ _ ui λs' hm=>?_)
  exact aj (hR s' (hm.mono Ap) (by
   obtain⟨es,ep,t,ho,rest⟩:=hS;exact⟨es,ep,t,hm.heap S _ Zq ho,rest⟩))
 | succ k ih =>
  intro i s hk hi ui hS hR;have fO:i<n:=by lia
  refine nW F.entry_set_update_loop ?_;rw[qV B5 _];refine af (W.item i s _ _ fO ui λv s' hP Va hm=>?_)
  obtain⟨t,rfl⟩:=DF i v hP;obtain⟨es,ep,tb,ho,h2⟩:=hS;have nC:=hm.heap S _ Zq ho;refine af (eP ?_);unfold setAdd;refine eP ?_;refine af ((intKind prog w).pyHash (intKind_is _ _ _ _) ?_);have hl1:=sQ val i;refine DD nC h2 (Zp i fO) (by lia) λb h' uG ep1 t1 hsb hS2 h2'=>?_
  refine aj ⟨wV B5 _,ih (i+1) _ (by lia) fO (W.frame _ s' _ _ Va (rD _) λb hb o e=>?_) ⟨uG,ep1,t1,hS2,h2'⟩ λJX Vb Vc=>?_⟩
  ·rw[hsb.2 b (λh:b=S=>hSf (by grind))];exact e
  ·refine hR JX (Moved.trans W.gtrans ((hm.mono Ap).then_heap (rD _) λb o hb e=>?_) Vb) Vc
   rw[hsb.2 b (λh:b=S=>hb (by grind))];exact e
end
section
variable {prog:Program} {w:World} {A:Around} {E:Value->Shared->Prop} {s:Shared}
def uH(a:Value)
  (h:Q₁ (.ref s.heap.objs.size) {s with heap:=s.heap.push {cls:=.type "set",dict:=none,data:=.set #[] 0 (.fresh 0 0 (!BT w))}}) :
  codeAny (model prog w) A (.call (.builtin "set.__new__") ⟨[.type "set",a],[]⟩) (wants Q₁ E) s:=by
 refine codeAny_of_tree ?_;refine af (wpAny_of_eq (F.newCall_set_1 a) (aj ⟨wV F.plain_set_new _,nW F.entry_set_new ?_⟩));rw[qV F.plain_set_new _];unfold Builtin.«set.__new__» Builtin.Frozenset.newClass;have Ap:=sub_set_self;obtain⟨hp,g,d,tk,os⟩:=s;dsimp only
 wp_walk
 refine Cq (aj ?_);dsimp only
 simp only[newObj];refine af (wpAny_alloc (aj ?_));exact aj h
end
def fw.nil(led:Bool):fw led [] #[] (jh #[] led):=by
 refine⟨λe he=>?_,List.Perm.refl _,.inl ⟨rfl,rfl,rfl⟩⟩
 cases he
section
variable {prog:Program} {w:World} {A:Around} {E:Value->Shared->Prop} {s:Shared}
set_option maxHeartbeats 3200000 in
theorem AL(hh:A.handled=none)(hl:s.heap.IsList l items)(hi:IntsAre items.toList ns)(hb:items.size<=2)(Zp:∀i,i<items.size->0<=ns.getD i 0/\ns.getD i 0<64)
  (h:∀(h':Heap) (tk:Nat) es ep t,h'.get? s.heap.objs.size=some (dW es ep t)->fw (!BT w) (oH (λi=>ns.getD i 0) items.size) es t->(∀b o,b<s.heap.objs.size->s.heap.get? b=some o->h'.get? b=some o)->Q (.ref s.heap.objs.size) {s with heap:=h',toks:=tk}) :
  wpAny (model prog w) A (call (.type "set") [.ref l]) Q E s:=by
 obtain⟨c,tl,ahy⟩:=F.called_set.mro;have afl:=F.called_set.made;have Ap:=F.called_set.sub;refine rE (codeAny_of_tree ?_);refine aj ⟨Code.quiet_builtin _ (by decide +kernel),nW F.entry_type_call ?_⟩
 rw[Around.under_plain (weight_type_call_type "set" [.ref l] []) rfl];have h1:=F.called_set.notType;have h2:=F.called_set.canCreate;have hct:=F.typeCall_set_1 (.ref l)
 repeat (any_goals (first | assumption | wp_step))
 refine ka (uH (.ref l) (E:=E) (Q₁:=λobj s₁=>obj=.ref s.heap.objs.size/\s₁={s with heap:=s.heap.push {cls:=.type "set",dict:=none,data:=.set #[] 0 (.fresh 0 0 (!BT w))}}) ⟨rfl,rfl⟩) λr s₁ hr=>?_
 cases r with
 | error e=>exact hr
 | ok fl =>
  cases fl with
  | ret obj =>
   obtain⟨rfl,rfl⟩:=hr;obtain⟨led,adA⟩:∃led,led = !BT w:=⟨_,rfl⟩
   rw[<-adA];have hS:(s.heap.push {cls:=.type "set",dict:=none,data:=.set #[] 0 (.fresh 0 0 led)}).get? s.heap.objs.size=some {cls:=.type "set",dict:=none,data:=.set #[] 0 (.fresh 0 0 led)}:=cB _ rfl
   have hT:Shared.TypeIs {s with heap:=s.heap.push {cls:=.type "set",dict:=none,data:=.set #[] 0 (.fresh 0 0 led)}} (.ref s.heap.objs.size) "set":=⟨_,hS,rfl⟩
   have hli:=F.called_set.init.lookup;have hbi:=F.called_set.init.bind (.ref s.heap.objs.size)
   repeat (any_goals (first | assumption | wp_step))
   refine ka (codeAny_call_builtin (R:=wants (λr zC=>r=.none/\∃h' tk,zC={s with heap:=h',toks:=tk} /\
     (∃es ep t,h'.get? s.heap.objs.size=some (dW es ep t)/\fw led (oH (λi=>ns.getD i 0) items.size) es t) /\
     (∀b o,b<s.heap.objs.size->s.heap.get? b=some o->h'.get? b=some o)) E) F.called_set.init.plain F.entry_set_init (check_set_init_1 hT ?_)) λadB zC Lj=>?_
   ·obtain⟨ol,WX,hcl,nl,Rq⟩:=hl;obtain⟨adC,RI,Zr,Lk⟩:=ol;simp only at hcl Rq;subst hcl;subst Rq;have adD:(s.heap.push {cls:=.type "set",dict:=none,data:=.set #[] 0 (.fresh 0 0 led)}).get? l=some {cls:=.type "list",dict:=RI,data:=.seq items nl,slots:=Lk}:=aZ _ WX
    have ahz:=F.sub_list_set;have ahA:=F.sub_list_frozenset;have hne:(Value.type "list"==Value.type "dict")=false:=by decide
    have hl1:(s.heap.push {cls:=.type "set",dict:=none,data:=.set #[] 0 (.fresh 0 0 led)}).IsList l items:=⟨_,adD,rfl,nl,rfl⟩
    unfold Builtin.«set.__init__» noKeywords Builtin.Frozenset.updateFrom
    generalize hPI:pyIter=PI
    wp_walk
    subst hPI;refine Cn hl1 ?_;refine af (wpAny_runValue ?_);have hlS:l<s.heap.objs.size:=aV WX;have DF:∀(i:Nat) (v:Value),items[i]?=some v->∃t,v=.int ((λi=>ns.getD i 0) i) t:=λi v hv =>
     PyProof.Rows.IntsAre.int_at hi i v (by grind)
    refine AK ((Walks.list (by simp[hh]) _ l (by rw[nY];exact bG (wH hlS)) items).toS) s.heap.objs.size (by
     rw[nY];simp only[aU,bC,eK,eQ,not_or];exact⟨bG (q9 _),rA hlS⟩) (λi=>ns.getD i 0) DF Zp hb led (items.size-0) 0 _ (by lia) (dF _)
     ⟨⟨_,cB _ rfl,rfl,rfl⟩,(hl1.push _)⟩ ?hS0 ?hR
    case hS0 =>
     exact⟨#[],0,jh #[] led,aZ _ hS,fw.nil led⟩
    case hR =>
     intro s' hm Zs;obtain⟨h',g',d',M9,TL⟩:=s';have eg:g'=s.gens:=hm.gens;have ed:d'=s.drawn:=hm.drawn;have eo:TL=s.os:=hm.os;subst eg;subst ed;subst eo;show wpAny _ _ _ _ _ _;refine aj ?_;show wpAny _ _ (ret Value.none) _ _ _;refine aj ⟨rfl,h',M9,rfl,Zs,λb o hb e=>?_⟩
     have hb1:b≠s.heap.objs.size:=by grind
     have hb2:b≠(s.heap.push {cls:=.type "set",dict:=none,data:=.set #[] 0 (.fresh 0 0 led)}).objs.size:=by
      rw[nY];exact bG (wH hb)
     exact hm.heap b o (by grind) (aZ _ (aZ _ e))
   ·cases adB with
    | error e=>exact Lj
    | ok Zt =>
     cases Zt with
     | ret r =>
      obtain⟨rfl,h',tk,rfl,⟨es,ep,t,Zs,h2'⟩,WY⟩:=Lj
      repeat (any_goals (first | assumption | wp_step))
      exact h _ _ es ep t Zs (by grind) WY
     | _=>exact Lj.elim
  | _=>exact hr.elim
end
section
variable {prog:Program} {w:World} {A:Around} {E:Value->Shared->Prop} {s:Shared} {a:Addr} {es:Array (Int×Value)} {ep:Nat} {t:SetTable}
def uI(hh:A.handled=none)(hS:s.heap.get? a=some (dW es ep t))(h2:fw (!BT w) xs es t)
  (h:∀(h1 h':Heap) (tk:Nat) (D:Addr) (out:Array Value) (rZ:List Int) (e:Nat),(∀b o,s.heap.get? b=some o->h1.get? b=some o)->(∀b o,h1.get? b=some o->h'.get? b=some o)->h1.objs.size<=D->h'.get? D=some (seqObj "list" out e)->IntsAre out.toList rZ->rZ.Perm xs->rZ.Pairwise (· <= ·)->Q (.ref D) {s with heap:=h',toks:=tk}) :
  wpAny (model prog w) A (call (.builtin "sorted") [.ref a]) Q E s:=by
 have g:fU w a ep es t:=h2.good;obtain⟨f1,f2,f3⟩:=h2.fits;refine B0 kind_sorted plain_sorted entry_sorted (args_sorted1 _) ?_;unfold Builtin.«sorted»;refine af (aj ?_);refine af (W.kdu_collect (O9 g) (by simp[hh]) hS (bE f3 (by decide)) λh' tk acc hk uJ=>?_)
 have adE:acc.toList=(l8 w a ep es).toList.map (·.2):=by
  refine List.ext_getElem? λj=>?_
  rw[bR,lL,lL];by_cases hj:j<es.size
  ·have h1:j<acc.size:=by rw[uJ.1];exact hj
   obtain⟨e,he,hv⟩:=uJ.2 j acc[j] (by simp[h1])
   rw[he];simp[h1,hv]
  ·have h1:acc[j]?=none:=by
    have:=uJ.1;simp;lia
   have h2:(l8 w a ep es)[j]?=none:=by
    have:=g.size;simp;lia
   rw[h1,h2];rfl
 have hop:=AH w a ep es;have Zu:=(hop.map _).trans h2.2.1;have eA:acc.toList.length<=2:=by
  rw[c6,uJ.1];exact f3
 refine af (wpAny_newList ?_ (bE eA (by decide)))
 have QN:(h'.push (seqObj "list" acc.toList.toArray 0)).get? h'.objs.size=some (seqObj "list" acc.toList.toArray 0):=cB _ rfl;show wpAny _ _ _ _ _ {s with heap:=h'.push (seqObj "list" acc.toList.toArray 0),toks:=tk}
 refine af (eP (gX slot_list_sort ⟨_,QN,rfl⟩ entry_list_sort (list_sort_tree QN (by
  rw[adE];exact AI _ λe he=>by
   obtain⟨k,tk,q,_⟩:=h2.1 e (hop.mem_iff.mp he);exact⟨k,tk,q⟩) (by lia) λout rZ a1 a2 a3=>⟨_,rfl,?_⟩) (args_list_sort _)))
 obtain⟨e,xY⟩:=sortedHeap_at QN;refine aj ⟨_,rfl,h h' _ tk h'.objs.size out rZ e hk (λb o hb=>?_) (ao _) xY a1 (a2.trans Zu) a3⟩
 have fO:=aV hb;rw[sortedHeap_old (bG fO) (by rw[size_push'];exact wH fO)]
 exact aZ _ hb
end
end PySem
namespace L2.U
open PySem PySem.Spec PyProof.Rows
noncomputable def insI(x:Int):List Int->List Int
 | []=>[x]
 | y::r=>if x<=y then x::y::r else y::insI x r
def ir:List Int->List Int
 | []=>[]
 | x::r=>insI x (ir r)
theorem oI(x:Int):∀l:List Int,(insI x l).Perm (x::l)
 | []=>.refl _
 | y::r=>by
  unfold insI;split
  ·exact .refl _
  ·exact((oI x r).cons y).trans (.swap x y r)
theorem fx:∀l:List Int,(ir l).Perm l
 | []=>.refl _
 | x::r=>(oI x (ir r)).trans ((fx r).cons x)
theorem FA(x:Int):∀l:List Int,l.Pairwise (· <= ·)->(insI x l).Pairwise (· <= ·)
 | [],_=>List.pairwise_singleton _ _
 | y::r,h=>by
  obtain⟨h1,h2⟩:=wB.mp h;unfold insI;split
  ·rename_i hx;refine wB.mpr ⟨λz hz=>?_,h⟩
   rcases aU.mp hz with rfl | hz
   ·exact hx
   ·exact da hx (h1 z hz)
  ·rename_i hx;refine wB.mpr ⟨λz hz=>?_,FA x r h2⟩
   rcases aU.mp ((oI x r).mem_iff.mp hz)with rfl | hz
   ·lia
   ·exact h1 z hz
theorem sR:∀l:List Int,(ir l).Pairwise (· <= ·)
 | []=>.nil
 | x::r=>FA x _ (sR r)
def FC:GC:=λh ps=>match ps with
 | [p]=>(Ad h p).bind λqs=>(ly qs).bind λns=>if(ns.length<64\/ns.length<128/\ns.Nodup)then some (.lst ((ir ns).map .int))else none
 | _=>none
def sS:∀{us:List Value} {ns:List Int},IntsAre us ns->Vals (ns.map V.int) us:=by
 intro us ns h;induction h with
 | nil=>exact .nil
 | cons a t _ ih=>exact .cons ⟨t,rfl⟩ ih
theorem kQ{K:W.Frag}:∀ns:List Int,aE K F (ns.map .int) (ns.map V.int)
 | []=>.nil
 | n::r=>.cons (aG.mpr rfl) (kQ r)
section
variable {X:Cx} {aa:Hp} {ab:Fz} {e o:Expr} {fe fo:Gx PV} {pos p DG zp ap cp:Pos}
def DH:Hh X (.builtin "sorted") FC:=by
 rintro ae s σ H xs us Q I rs ⟨aa,ab,F,st,τ,ps,p,e,R,bs,k⟩
 unfold FC at e;split at e
 ·obtain⟨qs,e1,e⟩:=aX e;obtain⟨ns,e2,e⟩:=aX e;obtain⟨h64,rfl⟩:=aJ e;obtain⟨v,rfl,b⟩:=dZ bs;obtain⟨a,vs,rfl,ha,jD⟩:=R.at (gT e1) b;obtain⟨aH,r,pl,_⟩:=I.list (kJ.sq ha);have ev:=mQ e2 jD;subst ev;have hi:=lW r;have eA:aH.length=ns.length:=by rw[<-r.length,ak]
  obtain⟨u,rfl,ru⟩:=jL rs;cases ru;refine M7.Dg pl.isList hi (by grind) λout rZ hI hp hu=>?_
  have e1:=W.ksm_same (hp.trans (fx ns).symm) hu (sR ns);subst e1;obtain⟨ep,xY⟩:=sortedAll_at s.heap aH out;have hz:=I.hok.fresh (rD _);obtain⟨R2,s2⟩:=R.laid (.lst ((ir ns).map V.int)) hz;refine⟨.ref (s.heap.objs.size+1),cw H (s.heap.objs.size+1) (.lst ((ir ns).map V.int)),I.laid (λb u e=>sortedAll_old e) (rD _) ⟨?_,out.toList,ep,sS hI,xY⟩,rfl,k _ _ _ R2 s2 (gz.mpr ⟨_,_,rfl,kJ.of aD,kQ _⟩)⟩
  rw[ak,(fx ns).length_eq];exact bE (show ns.length<=128 by lia) (by decide)
 ·cases e
def FE(h:starEach [e] X.env=(false,eval e X.env)::starEach [] X.env)(hq:wpAny M A (eval e X.env) (λv s1=>Q [v] s1) E s):wpAny M A (spliced (backTo pos (starEach [e] X.env))) Q E s:=by
 rw[h];exact Calls.spliced_cons (thn hq λv s1 q=>Calls.spliced_nil q)
def ph:bootBuiltins "sorted"=some (.builtin "sorted"):=by kernel_rfl
def Ll:bootBuiltins "set"=some (.type "set"):=by kernel_rfl
def Zv(h:List az)(p:PV):Option PV:=(Ad h p).bind λqs=>(ly qs).bind λns=>if(ns.length<=2/\ns.all (λn=>decide (0<=n/\n<64))=true)then some (.lst ((ir (oH (λi=>ns.getD i 0) ns.length)).map .int))else none
def Lm(fe:Gx PV):Gx PV:=bnd fe λp=>hp λh=>Zv h p
def Vd(hh:X.A.handled=none)(hgl:Gl X "sorted")(hml:X.mg "sorted"=none)(hg:Gl X "set")(hm:X.mg "set"=none)(he:PE X e (tE X aa ab fe))(hs:starEach [e] X.env=[(false,eval e X.env)]) :
  PE X (.Call (.Name "sorted" p) [.Call (.Name "set" zp) [e] [] DG] [] pos) (tE X aa ab (Lm fe)):=by
 rintro ae s σ H Q I ⟨F,st,Rp,h⟩
 have hA:=he ae s σ H (λv H1=>∃F1 br q,Rep X.K aa ab F1 br σ H1/\bN X.K F1 q v/\Tx X aa ab (bN X.K) F1 br (hp λh=>Zv h q) σ Q) I ⟨F,st,Rp,h.bnd λq v F1 br H1 R1 g1 b1 h1=>⟨F1,br,q,R1,b1,h1⟩⟩
 refine j5 (ld_blt I hgl hml ph ?_ (by decide) (by decide))
 refine Jg (FE rfl ?_) rfl rfl;refine Call_ (ld_blt I hg hm Ll (jX (FE hs (thn hA λu s1 z9=>?_)) hs rfl))
 obtain⟨v,H1,I1,r1,F1,br,q,R1,b1,h1⟩:=z9;obtain⟨o,e0,k⟩:=h1.hp;obtain⟨qs,e1,e0⟩:=aX e0;obtain⟨ns,f2,e0⟩:=aX e0;obtain⟨⟨Ut,hal⟩,rfl⟩:=aJ e0;obtain⟨a,vs,rfl,ha,jD⟩:=R1.at (gT e1) b1;cases r1;obtain⟨aH,r,pl,_⟩:=I1.list (kJ.sq ha);have ev:=mQ f2 jD;subst ev;have hi:=lW r;have eA:aH.length=ns.length:=by rw[<-r.length,ak]
 have hsz:aH.toArray.size=ns.length:=by grind
 refine AL hh pl.isList hi (by lia) (λi hi'=>?_) λh' tk SX ep t hS h2 hk=>?_
 ·simp_all
 ·rw[hsz]at h2;have I2:Inv X ae σ H1 {s1 with heap:=h',toks:=tk}:=I1.kept λb o e=>hk b o (aV e) e
  refine uI hh hS h2 λh1 h'' M9 D out rZ e k1 k2 hD xY hI hp hu=>?_
  have I3:=I2.kept (t':=M9) k1;have e1:=W.ksm_same (hp.trans (fx _).symm) hu (sR _);subst e1;have hz:=I3.hok.fresh hD;obtain⟨R2,s2⟩:=R1.laid (.lst ((ir (oH (λi=>ns.getD i 0) ns.length)).map V.int)) hz
  refine⟨.ref D,cw H1 D (.lst ((ir (oH (λi=>ns.getD i 0) ns.length)).map V.int)),I3.laid k2 hD ⟨?_,out.toList,e,sS hI,xY⟩,rfl,k _ _ _ R2 s2 (gz.mpr ⟨_,_,rfl,kJ.of aD,kQ _⟩)⟩
  rw[ak,(fx _).length_eq];have:=sQ (λi=>ns.getD i 0) ns.length
  exact bE this (bE Ut (by decide))
noncomputable def adH:PV->Option PV
 | .str a=>some (.bl (Txt.isdigit a))
 | _=>none
def Ve(fo:Gx PV):Gx PV:=bnd fo λp=>kM (adH p)
def HL:MtR X "str.isdigit" (λx xs H Q=>∃a,x=.str a/\xs=[]/\Q (.bl (Txt.isdigit a)) H):=by
 rintro ae s σ H x xs v us Q I rx rs ⟨a,e1,e2,q⟩
 subst e1 e2;obtain⟨t,rfl⟩:=rx;have hus:=rs.zero;subst hus;exact SC.isdigit ⟨.bl _,H,I,rfl,q⟩
def Zw(ho:PE X o (tE X aa ab fo))(hb:attributeBase o "isdigit" X.env (eval o X.env)=eval o X.env)(jM:(ap.endLine==cp.line)=true):PE X (.Call (.Attribute o "isdigit" ap) [] [] cp) (tE X aa ab (Ve fo)) :=
 (J4 F.plainAttrs_str F.slot_str_isdigit F.type_str_isdigit HL ho hb jM).imp λσ H Q ⟨F,st,R,h⟩=>⟨F,st,R,h.bnd λp v F1 br H1 R1 g1 b1 h1=>by
  obtain⟨o,e,z⟩:=h1.kM;cases p<;>cases e
  rw[cP.mp b1];exact⟨rfl,_,rfl,rfl,z _ H1 F1 R1 (Gr.refl _) (cj.mpr rfl)⟩⟩
end
end L2.U
namespace PySem
open PyProof.Rows
namespace F
def fV:entryFor table "dict.update.loop"=some Builtin.«dict.update.loop» := entryFor_of_tree (by kernel_rfl)
def cU:plainId "dict.update.loop"=true:=by decide +kernel
end F
section
variable {prog:Program} {w:World} {K:Type} [DecidableEq K] {knd:KeyKind prog w K} {A:Around} {R:Result->Shared->Prop} {I:Addr} {fp wr:List Addr} {G:Array GenState->Array GenState->Prop} {n:Nat} {P:Nat->Value->Prop} {St:Nat->Shared->Prop}
def AM(h:Heap)(b:Addr)(key v:Value):Prop:=∃o m,h.get? b=some o/\o.cls=.type "tuple"/\o.data=.seq #[key,v] m
def qf(hp:AM s.heap b key v)(h:Q [key,v] s):wpAny (model prog w) A (Builtin.Dict.pairItems (.ref b)) Q E s:=by
 obtain⟨o,m,h1,h2,h3⟩:=hp;unfold Builtin.Dict.pairItems;refine af (oi ⟨o,h1,h2⟩ ?_);rw[if_pos (by decide)]
 refine af ?_;unfold seqItems?;obtain⟨adC,RI,Zr,Lk⟩:=o;simp only at h2 h3;subst h2 h3
 wp_walk
 exact h
def HM(W:WalksS prog w A.in1 I fp wr G n P St)(S:Addr)(hSf:S∉fp)(hl:kvs.length=n)(hn:n<=sizeLine){s₀:Shared}
  (DF:∀i v,P i v->∃b k key u,v=.ref b/\kvs[i]?=some (k,u)/\knd.is k key=true/\b∉S::wr/\AM s₀.heap b key u) :
  ∀(c i:Nat) (s:Shared),n-i=c->i<=n->St i s->(∀b o,b∉S::wr->s₀.heap.get? b=some o->s.heap.get? b=some o)->s.heap.DictOf knd S (merged [] (kvs.take i)) ->
   (∀s',Moved (S::wr) G s s'->s'.heap.DictOf knd S (merged [] kvs)->R (.ok (.ret .none)) s') ->
   codeAny (model prog w) A (.builtin "dict.update.loop" ⟨[.ref S,.ref I,rawInt (i:Int),.none],[]⟩) R s:=by
 have Zq:S∉wr:=λh=>hSf (W.sub _ h)
 have Ap:∀b∈wr,b∈S::wr:=by grind
 intro c;induction c with
 | zero =>
  intro i s hk hi ui ho hS hR;have Fy:i=n:=by lia
  subst Fy;refine nW F.fV ?_;rw[qV F.cU _];refine af (W.done s _ _ ui λs' hm=>?_)
  refine af (aj ?_);rw[nK (gF ‹_›)]at hS;refine aj (hR s' (hm.mono Ap) ?_);obtain⟨o,es,ep,h1,r⟩:=hS;exact⟨o,es,ep,hm.heap S _ Zq h1,r⟩
 | succ c ih =>
  intro i s hk hi ui ho hS hR;have fO:i<n:=by lia
  refine nW F.fV ?_;rw[qV F.cU _];refine af (W.item i s _ _ fO ui λv s' hP Va hm=>?_)
  obtain⟨b,k,key,u,rfl,hki,Tz,hbn,Zx⟩:=DF i v hP;have nC:∀b o,b∉S::wr->s₀.heap.get? b=some o->s'.heap.get? b=some o:=λb o hb e=>hm.heap b o (λz=>hb (aK _ z)) (ho b o hb e)
  refine af (eP ?_);refine af (wpAny_tryCatch (qf (by
   obtain⟨o,m,h1,r⟩:=Zx;exact⟨o,m,nC b o hbn h1,r⟩) ?_))
  refine eP ?_;have hsz:(merged [] (kvs.take i)).length<=sizeLine:=by
   have:=merged_length_le ([]:List (K×Value)) (kvs.take i);rw[jq]at this;simp at this
   lia
  refine wpAny_dictSet_pairs Tz (by
   obtain⟨o,es,ep,h1,r⟩:=hS;exact⟨o,es,ep,hm.heap S _ Zq h1,r⟩) λh' hd hsb=>?_
  rw[<-merged_take_succ _ _ _ _ hki]at hd;have adI:∀b o,b∉S::wr->s₀.heap.get? b=some o->h'.get? b=some o:=λb o hb e=>(hsb.2 b (λh:b=S=>hb (by grind))).trans (nC b o hb e)
  refine aj ⟨wV F.cU _,ih (i+1) _ (by lia) fO (W.frame _ s' _ _ Va (fL ..) λb hb o e=>?_) adI hd λJX Vb Vc=>?_⟩
  ·exact(hsb.2 b (λh:b=S=>hSf (by grind))).trans e
  ·refine hR JX (Moved.trans W.gtrans ((hm.mono Ap).then_heap (fL ..) λb o hb e=>?_) Vb) Vc
   exact(hsb.2 b (λh:b=S=>hb (by grind))).trans e
end
namespace F
def uK:typeLookup (.type "tuple") "keys"=pure none:=by rw[Cz,B9];kernel_rfl
end F
section
variable {prog:Program} {w:World} {A:Around} {E:Value->Shared->Prop} {s:Shared} {a:Addr} {o:Obj} {xs:Array Value} {k:Nat} {Q:Option Value->Shared->Prop}
def qg(hx:s.heap.get? a=some o)(hc:o.cls=.type "tuple")(Dl:o.data=.seq xs k)(hd:o.dict=none)(hA:A.handled=none)
  (h:∀h' tk,(∀b ob,s.heap.get? b=some ob->h'.get? b=some ob)->Q none {s with heap:=h',toks:=tk}) :
  wpAny (model prog w) A (getAttr? (.ref a) "keys") Q E s:=by
 obtain⟨c,dct,dat,sl⟩:=o;simp only at hc Dl hd;subst hc Dl hd;obtain⟨hp,g,d,tk,os⟩:=s;have hT:∀M9,(⟨hp,g,d,M9,os⟩:Shared).TypeIs (.ref a) "tuple":=λ_=>⟨_,hx,rfl⟩
 have f1:=sub_AttributeError;have f3:=B2.lookup;have f4:=B2.bind (.ref a);have f5:=am_tuple_getattr_none;unfold getAttr? getAttrBy? getAttrBy
 repeat (any_goals (first | assumption | exact hT _ | ((with_reducible show wpAny _ _ (call (Value.builtin "tuple.__getattribute__") _ _) _ _ _);refine lR B2 (hT _) am_entry_tuple_getattribute (F.args_tuple_getattribute_2 _ _) (meets_getattribute_miss_tuple a xs k sl "keys" _ F.uK (by decide +kernel) (by decide +kernel)) ⟨hx,hA,λh' M9 e Dj=>?_⟩) | wp_step))
 obtain⟨t',u',he⟩:=Dj.there;show wpAny _ _ (getattributeRaised _ _ _ _ _ _ _) _ _ _;unfold getattributeRaised
 repeat (any_goals (first | assumption | wp_step))
 exact h _ _ Dj.keeps
end
section
variable {prog:Program} {w:World} {A:Around} {E:Value->Shared->Prop} {s:Shared} {K:Type} [DecidableEq K] {knd:KeyKind prog w K}
def DI(hh:A.handled=none)(hx:s.heap.get? l=some ol)(hc:ol.cls=.type "tuple")(Dl:ol.data=.seq items m)(hdn:ol.dict=none)
  (hi:∀(i:Nat) (v:Value),items[i]?=some v->∃b k key u,v=.ref b/\kvs[i]?=some (k,u)/\knd.is k key=true/\AM s.heap b key u) (hlk:kvs.length=items.size) (hb:items.size<=sizeLine)
  (h:∀(h':Heap) (tk:Nat),h'.DictOf knd s.heap.objs.size (merged [] kvs)->(∀b o,b<s.heap.objs.size->s.heap.get? b=some o->h'.get? b=some o)->Q (.ref s.heap.objs.size) {s with heap:=h',toks:=tk}) :
  wpAny (model prog w) A (call (.type "dict") [.ref l]) Q E s:=by
 refine callType_codes (Q₁:=λobj s₁=>obj=.ref s.heap.objs.size/\s₁={s with heap:=s.heap.push {cls:=.type "dict",data:=.dict #[]}}) F.kt_called_dict (F.kt_typeCall_dict_1 _) F.entry_dict_init (kt_code_dict_new _ ⟨rfl,rfl⟩) ?_
 rintro obj s₁ ⟨rfl,rfl⟩
 have Vf:(s.heap.push {cls:=.type "dict",data:=.dict #[]}).DictOf knd s.heap.objs.size []:=Heap.DictOf.new s.heap
 have Dj:(s.heap.push {cls:=.type "dict",data:=.dict #[]}).get? l=some ol:=aZ _ hx
 have hlS:=aV hx;refine⟨Vf.typeIs,F.args_dict_init_2 _ _,?_⟩;unfold Builtin.«dict.__init__»;refine af ?_;unfold Builtin.Dict.selfAndRest;refine af (wpAny_notOrdered_dict Vf.typeIs ?_);refine aj ?_;show wpAny _ _ (Builtin.Dict.updateFrom "dict.__init__" s.heap.objs.size (.ref l) [] .none) _ _ _;unfold Builtin.Dict.updateFrom;refine af (oi ⟨ol,Dj,hc⟩ ?_);rw[if_pos (by decide)]
 refine af (qg Dj hc Dl hdn (by simp[hh]) λh2 tk2 kp=>?_)
 rw[if_pos (show(none:Option Value).isNone=true from rfl)]
 have hx2:=kp l ol Dj;have RJ:h2.DictOf knd s.heap.objs.size []:=by
  obtain⟨o,es,ep,h1,r⟩:=Vf;exact⟨o,es,ep,kp _ _ h1,r⟩
 have ht2:h2.IsTuple l items:=⟨ol,hx2,hc,m,Dl⟩;refine af (gi ?_);refine af ?_;refine Cf ht2 ?_;refine aj ⟨wV F.cU _,?_⟩;have hSI:s.heap.objs.size<h2.objs.size:=by
  obtain⟨o,_,_,h1,_⟩:=RJ;exact aV h1
 have adL:=bG (oh hlS hSI);have DF:∀i (v:Value),items[i]?=some v->∃b k key u,v=.ref b/\kvs[i]?=some (k,u)/\knd.is k key=true/\b∉[s.heap.objs.size,h2.objs.size]/\AM s.heap b key u:=λi v hv=>by
  obtain⟨b,k,key,u,e1,e2,e3,e4⟩:=hi i v hv;refine⟨b,k,key,u,e1,e2,e3,?_,e4⟩;obtain⟨o,_,ho,_⟩:=e4;have:=aV ho;simp only[aU,eK,eQ,not_or];exact⟨bG this,bG (oh this hSI)⟩
 refine HM (knd:=knd) (s₀:=s) ((Walks.tuple (by simp[hh]) h2.objs.size l adL items).toS) s.heap.objs.size (by grind) hlk hb DF (items.size-0) 0 _ (by lia) (dF _) ⟨⟨_,cB _ rfl,rfl,rfl⟩,ht2.push _⟩ (λb o _ e=>aZ _ (kp _ _ (aZ _ e))) ?_ ?_
 ·obtain⟨o,es,ep,h1,r⟩:=RJ;exact⟨o,es,ep,aZ _ h1,r⟩
 ·intro s' hm Zs;obtain⟨h',g',d',M9,TL⟩:=s';have eg:g'=s.gens:=hm.gens;have ed:d'=s.drawn:=hm.drawn;have eo:TL=s.os:=hm.os;subst eg;subst ed;subst eo;refine⟨rfl,h h' M9 Zs λb o hb e=>?_⟩
  refine hm.heap b o ?_ (aZ _ (kp _ _ (aZ _ e)));simp only[aU,eK,eQ,not_or];exact⟨bG hb,bG (oh hb hSI)⟩
end
end PySem
namespace L2.U
open PySem PySem.Spec PyProof.Rows
section
variable {X:Cx} {a b:Expr} {ta tb:TE} {p cp bp:Pos}
def pj(K:W.Frag)(H:Hp):List V->List (bB×V)->Prop:=Paired λv kv=>∃c,v=.ref c/\ip K H c [kV kv.1,kv.2]
def mY(kvs:List (bB×V)):List (bB×V):=kvs.foldl (λacc kv=>putK acc kv.1 kv.2) []
def Zy(K:W.Frag):R2:=λx y H Q=>∃a b xs ys kvs,x=.ref a/\y=.ref b/\ip K H a xs/\ip K H b ys/\xs≠[]/\ys≠[]/\xs.length+ys.length<=1000/\pj K H (xs++ys) kvs/\∀p,H p=none->Q (.ref p) (cw H p (.dK (mY kvs)))
theorem AN:∀{kvs:List (bB×V)} {vs:List (bB×Value)} {acc:List (bB×V)} {Zz:List (bB×Value)},L2.KV kvs vs->L2.KV acc Zz->L2.KV (kvs.foldl (λacc kv=>putK acc kv.1 kv.2) acc) (vs.foldl (λacc kv=>stored acc kv.1 kv.2) Zz)
 | _,_,_,_,.nil,h=>h
 | _,_,_,_,.cons (a:=x) r t,h=>by
  have h2:=h.put x.1 r.2;rw[wQ,wQ];rw[r.1]at h2 ⊢;exact AN (t) h2
def Ln(f:List (bB×V)):∀acc:List (bB×V),(f.foldl (λacc kv=>putK acc kv.1 kv.2) acc).length<=acc.length+f.length:=by
 induction f with
 | nil=>intro acc;simp
 | cons x f ih =>
  intro acc;have:=ih (putK acc x.1 x.2);have:=Ff acc x.1 x.2;rw[wQ,aW]
  lia
theorem FF(I:Inv X ae σ H s):∀{vs:List V} {kvs:List (bB×V)},pj X.K H vs kvs->∀{us:List Value},Vals vs us->∃WZ:List (bB×Value),L2.KV kvs WZ/\WZ.length=us.length/\∀(i:Nat) (u:Value),us[i]?=some u->∃b k key w,u=.ref b/\WZ[i]?=some (k,w)/\(c9 X.prog X.w).is k key=true/\AM s.heap b key w
 | _,_,.nil,us,r=>by
  cases r;exact⟨[],.nil,rfl,λi u h=>by cases h⟩
 | _,_,.cons (b:=kv) q t,us,r=>by
  cases r with
  | cons r1 r2 =>
   obtain⟨WZ,g1,g2,g3⟩:=FF I t r2;obtain⟨c,rfl,hs⟩:=q;obtain⟨aH,rr,⟨o,h1,h2,n,h3⟩,_⟩:=I.tuple hs;obtain⟨key,w,e,hk,hw⟩:=rr.two;subst e;cases r1;refine⟨(kv.1,w)::WZ,.cons ⟨rfl,hw⟩ g1,by rw[aW,aW,g2],λi u hu=>?_⟩
   cases i with
   | zero =>
    cases hu;exact⟨c,kv.1,key,w,rfl,rfl,sd hk,o,n,h1,h2,h3⟩
   | succ i=>exact g3 i u hu
def Pe(hh:X.A.handled=none)(hg:Gl X "dict")(hm:X.mg "dict"=none)(ha:PE X a ta)(hb:PE X b tb)(hs:starEach [.BinOp a .Add b bp] X.env=[(false,eval (.BinOp a .Add b bp) X.env)]):PE X (.Call (.Name "dict" p) [.BinOp a .Add b bp] [] cp) (WO (Zy X.K) ta tb):=by
 intro ae s σ H Q I h;refine Call_ (ld_blt I hg hm (show bootBuiltins "dict"=some (.type "dict") by decide +kernel) (jX (FE hs (wpAny_BinOp (NG ha hb I h λv u s2 x y H2 I2 rx ry q=>?_))) hs rfl))
 obtain⟨t1,t2,xs,ys,kvs,rfl,rfl,h1,h2,h3,h4,h5,h6,q⟩:=q;cases rx;cases ry;obtain⟨aH,r1,p1,_⟩:=I2.tuple h1;obtain⟨gZ,r2,p2,_⟩:=I2.tuple h2;have hz:aH.length+gZ.length<=1000:=by rw[<-r1.length,<-r2.length];exact h5
 have afp:1000<=sizeLine:=by decide
 refine HT.ER p1 p2 (λz=>h3 (r1.mE.mp z)) (λz=>absurd (r2.mE.mp z) h4) (λz=>?_) (bE ‹_› ‹_›)
 obtain⟨WZ,g1,g2,g3⟩:=FF I2 h6 (r1.append r2);obtain⟨Pf,ahG⟩:=nw (s2.heap.push {cls:=.type "tuple",data:=.seq (aH++gZ).toArray})
 have hsz:(aH++gZ).toArray.size=aH.length+gZ.length:=by simp
 refine DI (knd:=c9 X.prog X.w) hh (cB _ rfl) rfl rfl rfl (λi v hv=>?_) (by rw[g2];simp) (by grind) λh' tk dd kp=>?_
 ·rw[List.getElem?_toArray]at hv;obtain⟨c,k,key,w,e1,e2,e3,o,n,e4,e5⟩:=g3 i v hv;exact⟨c,k,key,w,e1,e2,e3,o,n,aZ _ e4,e5⟩
 ·have hS:s2.heap.objs.size<=(s2.heap.push {cls:=.type "tuple",data:=.seq (aH++gZ).toArray}).objs.size:=by simp_all
  have N7:=AN g1 .nil;refine⟨.ref _,_,I2.laid (λb u e=>kp b u (bY (aV e) hS) (aZ _ e)) hS ?_,rfl,q _ (I2.hok.fresh hS)⟩
  refine⟨?_,jn.mpr (dn (bG (bY (se I2) hS))),_,N7,dd⟩;have:=Ln kvs [];have e:=n6 g1;rw[bu]at g2;unfold mY;simp only[wO]at this
  lia
end
def Lo:PV->Option (bB×PV)
 | .nd .ay [k,v]=>(Ai k).map λj=>(j,v)
 | _=>none
def FG:List (bB×PV)->az->az
 | [],c=>c
 | (k,v)::r,c=>match c.k with
  | .gR t ks=>FG r (qa t [k] v ks c.ps)
  | _=>c
def ZA(ps:List PV):Option az:=if ps.length<=1000 then(di Lo ps).map λkvs=>FG kvs ⟨.gR false [],[]⟩else none
section
variable {K:W.Frag} {F:Fz}
theorem AO:∀{ps:List PV} {kvs:List (bB×PV)} {vs:List V},di Lo ps=some kvs->aE K F ps vs->∃ks:List (bB×V),pj K F.F vs ks/\ks.map (·.1)=kvs.map (·.1)/\aE K F (kvs.map (·.2)) (ks.map (·.2))
 | [],_,_,h,b=>by
  cases h;rw[b.cS];exact⟨[],.nil,rfl,.nil⟩
 | p::ps,kvs,vs,h,b=>by
  obtain⟨kv,r,h1,h2,rfl⟩:=gj h;obtain⟨v,w,rfl,b1,b2⟩:=b.cx;obtain⟨ks,g1,g2,g3⟩:=AO h2 b2;unfold Lo at h1;split at h1
  ·rename_i k q;obtain⟨j,e1,rfl⟩:=bt h1;obtain⟨c,ws,rfl,hs,hb⟩:=cR.mp b1;obtain⟨x,y,rfl,bx,bq⟩:=mO hb;rw[sE e1 bx]at hs;exact⟨(j,y)::ks,.cons ⟨c,rfl,hs⟩ g1,by rw[aM,aM,g2],.cons bq g3⟩
  ·cases h1
theorem FH:∀{kvs:List (bB×PV)} {ks:List (bB×V)} {acc:List (bB×V)} {ps:List PV},ks.map (·.1)=kvs.map (·.1)->aE K F (kvs.map (·.2)) (ks.map (·.2))->aE K F ps (acc.map (·.2)) ->
  ∃xJ BV,FG kvs ⟨.gR false (acc.map λy=>[y.1]),ps⟩=⟨.gR false xJ,BV⟩/\(ks.foldl (λacc kv=>putK acc kv.1 kv.2) acc).map (λy=>[y.1])=xJ/\aE K F BV ((ks.foldl (λacc kv=>putK acc kv.1 kv.2) acc).map (·.2))
 | [],ks,acc,ps,h1,h2,h3=>by
  have:=List.map_eq_nil_iff.mp h1;subst this;exact⟨_,_,rfl,rfl,h3⟩
 | (k,q)::kvs,[],acc,ps,h1,h2,h3=>by cases h1
 | (k,q)::kvs,(j,v)::ks,acc,ps,h1,h2,h3=>by
  simp only[aM,Cw]at h1;obtain⟨rfl,h1⟩:=h1;obtain⟨v',w,e,b1,b2⟩:=h2.cx;cases e;obtain⟨xJ,BV,e1,e2,e3⟩:=Ku b1 h3;obtain⟨ks2,ps2,e4,e5,e6⟩:=FH h1 b2 e3;refine⟨ks2,ps2,?_,e5,e6⟩;show FG kvs (qa false [j] q (acc.map λy=>[y.1]) ps)=_
  rw[e1,<-e2];exact e4
end
def Ph{K:W.Frag}(h:ZA ps=some c)(b:aE K F ps vs):∃ks:List (bB×V),pj K F.F vs ks/\ps.length<=1000/\∃xJ qs,c=⟨.gR false xJ,qs⟩/\(mY ks).map (λy=>[y.1])=xJ/\aE K F qs ((mY ks).map (·.2)):=by
 obtain⟨hl,h⟩:=bX h;obtain⟨kvs,h1,rfl⟩:=bt h;obtain⟨ks,g1,g2,g3⟩:=AO h1 b;obtain⟨xJ,BV,e1,e2,e3⟩:=FH (acc:=[]) g2 g3 .nil;exact⟨ks,g1,hl,xJ,BV,e1,e2,e3⟩
theorem pj.mono{K:W.Frag}(h:cK F G):∀{vs:List V} {ks:List (bB×V)},pj K F vs ks->pj K G vs ks
 | _,_,.nil=>.nil
 | _,_,.cons ⟨c,e,q⟩ t=>.cons ⟨c,e,bL h q⟩ (pj.mono h t)
def Pj:PV->Option (List PV)
 | .nd .ay ps=>some ps
 | _=>none
def adM(p q:PV):Gx PV:=λst=>(Pj p).bind λps=>(Pj q).bind λqs=>if(ps.isEmpty || qs.isEmpty)=true then none else(ZA (ps++qs)).bind λc=>mJ c st
def Lp(fa fb:Gx PV):Gx PV:=bnd fa λp=>bnd fb λq=>adM p q
section
variable {X:Cx} {aa:Hp} {ab:Fz} {a b e:Expr} {fa fb fe:Gx PV} {p cp bp:Pos}
def Vg(hh:X.A.handled=none)(hg:Gl X "dict")(hm:X.mg "dict"=none)(ha:PE X a (tE X aa ab fa))(hb:PE X b (tE X aa ab fb))(hs:starEach [.BinOp a .Add b bp] X.env=[(false,eval (.BinOp a .Add b bp) X.env)]):PE X (.Call (.Name "dict" p) [.BinOp a .Add b bp] [] cp) (tE X aa ab (Lp fa fb)) :=
 (Pe hh hg hm ha hb hs).imp λσ H Q ⟨F,st,R,h⟩=>⟨F,st,R,h.bnd λq v F1 br H1 R1 g1 b1 h1=>⟨F1,br,R1,h1.bnd λq2 v2 F2 st2 H2 R2 g2 b2 h2=>by
  obtain⟨r,e1,e2⟩:=h2;obtain⟨ps,e3,e1⟩:=aX e1;obtain⟨qs,e4,e1⟩:=aX e1;split at e1
  ·cases e1
  ·rename_i hne;obtain⟨c,e5,e1⟩:=aX e1;have t1:q=.ay ps:=by
    unfold Pj at e3;split at e3
    ·grind
    ·cases e3
   have t2:q2=.ay qs:=by
    unfold Pj at e4;split at e4
    ·grind
    ·cases e4
   subst t1 t2;obtain⟨a1,vs,rfl,hs1,hb1⟩:=cR.mp (b1.mono g2);obtain⟨a2,ws,rfl,M3,hb2⟩:=cR.mp b2;obtain⟨ks,k1,hl,xJ,BV,rfl,e6,e7⟩:=Ph e5 (hb1.append hb2);simp only[CB,wJ,not_or]at hne;rw[bu]at hl;refine⟨a1,a2,vs,ws,ks,rfl,rfl,bL R2.sub hs1,bL R2.sub M3,λz=>hne.1 ?_,λz=>hne.2 ?_,by rw[<-hb1.length,<-hb2.length];exact hl,k1.mono R2.sub,λp hp=>?_⟩
   ·subst z;exact lJ hb1.length
   ·subst z;exact lJ hb2.length
   ·exact Tx.mJ (show Tx X aa ab (bN X.K) F2 st2 (mJ ⟨.gR false xJ,BV⟩) σ Q from⟨r,e1,e2⟩) R2 hp ⟨mY ks,aD,e6,rfl⟩ e7⟩⟩
end
noncomputable def Vh:List PV->Option (List Int)
 | [.int n]=>if 0<=n/\n<=1000 then some (rangeInts 0 1 n.toNat)else none
 | [.int a,.int b]=>if 0<=a/\a<=b/\b<=1000 then some (rangeInts a 1 (b-a).toNat)else none
 | _=>none
def Lq(m:Nat)(ps:List PV):Gx PV:=λst=>match m with
 | 0=>some (.ok (.lst ps),st)
 | _=>mJ ⟨.lst,ps⟩ st
def lrg(m:Nat)(ts:Gx (List PV)):Gx PV:=bnd ts λps=>bnd (kM (Vh ps)) λl=>Lq m (l.map .int)
def boot_range:bootBuiltins "range"=some (.type "range"):=by kernel_rfl
section
variable {X:Cx} {aa:Hp} {ab:Fz} {e:Expr} {es:List Expr} {ts:Gx (List PV)} {pos p DG zp:Pos} {m:Nat}
def Tx.Lq{st:cC}(h:Tx X aa ab (bN X.K) F st (Lq m ps) σ Q)(R:Rep X.K aa ab F st σ H)(hq:H q=none)(hb:aE X.K F ps vs):Q (.ref q) (cw H q (.lst vs)):=by
 cases m with
 | zero =>
  obtain⟨r,e1,e2⟩:=h;cases e1;obtain⟨R2,s2⟩:=R.laid (.lst vs) hq;exact e2 _ _ _ R2 s2 (gz.mpr ⟨q,vs,rfl,kJ.of aD,hb.mono s2⟩)
 | succ m=>exact Tx.mJ (h) R hq aD hb
def DJ(h:ItemsOf (fun(i:Nat) (v:Value)=>∃t:Tok,v=Value.int (a+i*c) t) acc n):Vals ((rangeInts a c n).map V.int) acc.toList:=by
 have:∀l k,(∀j v,l[j]?=some v->∃t:Tok,v=Value.int (a+(k+j:Nat)*c) t)->Vals (((List.range' k l.length).map fun(i:Nat)=>a+i*c).map V.int) l:=by
  intro l;induction l with
  | nil=>intro k _;exact .nil
  | cons x l ih =>
   intro k hx;obtain⟨t,ht⟩:=hx 0 x rfl;rw[aW,List.range'_succ,aM,aM];refine .cons ⟨t,by rw[ht];rfl⟩ (ih (k+1) λj v hv=>?_)
   have:=hx (j+1) v (by simpa using hv)
   rw[show k+(j+1)=k+1+j by lia]at this
   exact this
 have h2:=this acc.toList 0 λj v hv=>by
  rw[fu];exact h.2 j v (by rw[<-lL];exact hv)
 rw[c6,h.1,<-List.range_eq_range']at h2;exact h2
def ZC(hh:X.A.handled=none)(hgl:Gl X "list")(hml:X.mg "list"=none)(hg:Gl X "range")(hm:X.mg "range"=none)(ha:PA X (e::es) (tA X aa ab ts))(hs:starEach (e::es) X.env=(false,eval e X.env)::starEach es X.env)(M3:(backTo DG (starEach es X.env)).any (·.1)=false) :
  PE X (.Call (.Name "list" p) [.Call (.Name "range" zp) (e::es) [] DG] [] pos) (tE X aa ab (lrg m ts)):=by
 rintro ae s σ H Q I ⟨F,st,Rp,h⟩
 refine j5 (ld_blt I hgl hml (mR .list) ?_ (by decide) (by decide))
 refine jX (FE rfl ?_) rfl rfl;have hA:=ha DG ae s σ H (λvs H'=>∃F' aB ps,Rep X.K aa ab F' aB σ H'/\aE X.K F' ps vs/\Tx X aa ab (bN X.K) F' aB (bnd (kM (Vh ps)) λl=>Lq m (l.map .int)) σ Q) I ⟨F,st,Rp,h.bnd λps vs F1 br H1 R1 g1 b1 h1=>⟨F1,br,ps,R1,b1,h1⟩⟩
 refine Call_ (ld_blt I hg hm boot_range (jX (thn hA λus s1 z9=>?_) hs M3))
 obtain⟨vs,H1,I1,r1,F1,br,ps,R1,b1,h1⟩:=z9;obtain⟨ns,f2,h1⟩:=At.kM (At.bnd h1);have fin:∀r h1 tk1 (a b c:Int) (t u v:Tok) (n:Nat),(∀b o,s1.heap.get? b=some o->h1.get? b=some o)->IsRange h1 r a b c t u v->Builtin.Range.small a b c=true->Builtin.Range.rangeSize a b c=n->n<=3000->ns=rangeInts a c n ->
   wpAny (model X.prog X.w) X.A (call (.type "list") [.ref r]) (EP X ae σ Q) X.xe {s1 with heap:=h1,toks:=tk1}:=λr h2 tk1 a b c t u v n hk hr Zp hn uj J8=>by
  refine call_list_range hh hr Zp hn (by lia) λh' tk acc c' hk2 hS uJ=>?_
  have I2:=I1.kept (t':=tk1) hk;have hz:=I2.hok.fresh (ao _);have hv:=DJ uJ;rw[<-J8]at hv;refine⟨.ref h2.objs.size,cw H1 h2.objs.size (.lst (ns.map V.int)),I2.laid hk2 (ao _) ⟨?_,acc.toList,c',hv,hS⟩,rfl,Tx.Lq h1 R1 hz (kQ ns)⟩;rw[ak,J8,rangeInts_length];exact bE uj (by decide)
 clear h1;unfold Vh at f2;split at f2
 ·rename_i n;obtain⟨⟨h0,h1⟩,e1⟩:=aJ f2;obtain⟨v,rfl,bv⟩:=dZ b1;rw[aG.mp bv]at r1;obtain⟨u,rfl,ru⟩:=jL r1;obtain⟨tk0,rfl⟩:=ru;refine call_range_1 ?_;refine fin _ _ _ 0 n 1 _ _ _ n.toNat (λb o e=>aZ _ e) (IsRange.new ..) ?_ ?_ (by lia) e1.symm
  ·exact small_one (by decide) (by decide) (by lia) (by lia)
  ·unfold Builtin.Range.rangeSize;rw[if_pos (by decide)]
   split<;>lia
 ·rename_i a b;obtain⟨⟨h0,h1,h2⟩,e1⟩:=aJ f2;obtain⟨v1,v2,rfl,bv1,bv2⟩:=mO b1;rw[aG.mp bv1,aG.mp bv2]at r1;obtain⟨u1,u2,rfl,ru1,ru2⟩:=QR r1;obtain⟨k1,rfl⟩:=ru1;obtain⟨k2,rfl⟩:=ru2;refine call_range_2 ?_;refine fin _ _ _ a b 1 _ _ _ (b-a).toNat (λb o e=>aZ _ e) (IsRange.new ..) (small_one (by lia) (by lia) (by lia) (by lia)) (rangeSize_nat a b) (by lia) e1.symm
 ·cases f2
end
section
variable {X:Cx}
def Pk(op:Operator):Option G2:=Uu op
def Lr{op:Operator}{g:G2}(h:Pk op=some g):xu X (binaryOp op) g:=by
 exact Ou h
end
structure Gm where
 sc:List (Str×NameKind)
 N:List Str
 own:Bool
 fns:List (Str×Nat)
 call:Str->oE
 cons:List (Str×PV)
 dA:List Str
 tabs:List (Str×List (Str×Str))
 cls:List (Str×Nat)
 make:Str->oE
 clss:List Str
 flds:List Str
 /-- what adP in a cell: 1 a list,2 a list of cells,10 a dict QH keys are tuples -/
 Xf:List (Str×Nat)
 uo:Option ((PV->Gx PV)->Nat->oE)
 xZ:Option (Nat×(PV->Gx PV))
def slot(Γ:Gm)(x:Str):Option Nat:=Γ.N.findIdx? (· == x)
noncomputable def ND(Γ:Gm)(x:Str):Bool:=match Γ.sc.lookup x with | some .local=>true | some .cell=>true | some .free=>true | _=>false
noncomputable def W0(Γ:Gm)(x:Str):Bool:=match Γ.sc.lookup x with | some .local=>true | some .cell=>Γ.own | _=>false
noncomputable def yZ(Γ:Gm)(x:Str):Bool:=match Γ.sc.lookup x with | some .globalImplicit=>true | _=>false
noncomputable def iO(x:Str):Bool:=!(x==("__debug__":Str))&&!(x==("__classdict__":Str))&&!(x==("__name__":Str))
noncomputable def md(Γ:Gm)(x:Str):Nat:=(Γ.Xf.lookup x).getD 0
def HN(m:Nat):Nat:=if m<10 then m-1 else 0
def Vi(X:Cx)(k:Nat)(fns:List (Str×Nat))(call:Str->oE):Prop:=∀x n,fns.lookup x=some n->∃j f fd ps,j<=k/\FnOk X.prog X.w X.K X.mg X.base (i9 X.prog X.w) j f fd ps (HF X.K n (call x))/\X.mg x=some (.ref f)/\W.keepIn X.K (.ref f)=true/\gK X.K fd ps []
structure Ls (Γ:Gm) (X:Cx) (rs:(PV->Gx PV)->Nat->oE):Prop where
 ex:∃(st:Stmt) (fs:Addr) (RG:FuncData) (pr Ns:List Str) (k:Nat) (rb:(PV->Gx PV)->Nat->Gx dB),rs=(λω n=>dU (rb ω n) Ns.length)/\CG X.K "spread" "spread" st fs RG/\X.mg "spread"=some (.ref fs)/\gK X.K RG pr []/\dG Ns pr (au st)/\pr.length=2/\dM (k+2) X.A /\
  (∀(cZ:Value) (A:Around) (aA:List Env) (s:Shared) (H:Hp) (E:XK) (aa:Hp) (ab:Fz) (n:Nat) (ω:PV->Gx PV),dM (k+1) (A.deeper (envOfC "spread" (au st) s.heap.objs.size fs cZ))->AE (fF (i9 X.prog X.w) X.prog X.w X.K X.mg X.base Ns "spread" (au st) fs cZ A aA s H E) aa ab n ω ->
   PSs (fF (i9 X.prog X.w) X.prog X.w X.K X.mg X.base Ns "spread" (au st) fs cZ A aA s H E) (dk st) (tS (fF (i9 X.prog X.w) X.prog X.w X.K X.mg X.base Ns "spread" (au st) fs cZ A aA s H E) aa ab (rb ω n))) /\
  Vi X k Γ.fns Γ.call
 lam:RF X
structure GOk (Γ:Gm) (X:Cx) (aa:Hp) (ab:Fz):Prop where
 names:X.env.scope.names=Γ.sc
 N:X.N=Γ.N
 nd:X.N.Nodup
 kind:X.env.scope.kind=.function
 calm:X.calm=true
 hd:X.A.handled=none
 un:X.A.units+1150<cLine
 own:Γ.own=true->∀x,X.fn x=true
 fns:RD X Γ.fns Γ.call
 cons:∀x p,Γ.cons.lookup x=some p->∃u v,X.mg x=some u/\RelV v u/\∀F,bN X.K F p v
 dA:∀x,Γ.dA.contains x=true->X.mg x=none
 tabs:∀T rows,Γ.tabs.lookup T=some rows->Ft X.K X.mg X.w.params T rows
 ns:∀x a,W.nsIn X.K mainGlobals x=some (some (.ref a))->X.mg x=some (.ref a)
 RK:La X.K Γ.clss Γ.flds
 cls:∀C n,Γ.cls.lookup C=some n->∃k Ca f fd ps,ClsAt X.K C (.ref Ca)/\GL X.K Ca/\Mk X.K Ca f/\FnOk X.prog X.w X.K X.mg X.base (i9 X.prog X.w) k f fd ps (HF X.K n (Γ.make C))/\dM (k+1) X.A/\X.mg C=some (.ref Ca)/\gK X.K fd ps []
 uo:∀rs,Γ.uo=some rs->Ls Γ X rs
 xZ:∀n ω,Γ.xZ=some (n,ω)->AE X aa ab n ω
def bD:Expr->Bool
 | .Starred _ _=>false
 | .Set _ _ _=>false
 | _=>true
def qA:Expr->Bool
 | .Slice _ _ _ _=>false
 | _=>true
def FI:Expr->Bool
 | .Tuple _ _ _=>false
 | .ListComp _ _ _ _=>false
 | .SetComp _ _ _ _=>false
 | .DictComp _ _ _ _ _=>false
 | _=>true
def l9:Expr->Bool
 | .ListComp _ _ _ _=>false
 | .SetComp _ _ _ _=>false
 | .DictComp _ _ _ _ _=>false
 | _=>true
def ya:Expr->Bool
 | .Name _ _=>true
 | .Subscript _ _ _=>true
 | .Attribute _ _ _=>true
 | _=>false
def qB(h:ya e=true):attributeBase e f env (eval e env)=eval e env:=by
 cases e<;>first | rfl | cases h
def yb(h:FI e=true):l9 e=true:=by
 cases e<;>first | rfl | cases h
def DK:Expr->Bool
 | .UnaryOp .Not _ _=>false
 | .BoolOp _ _ _=>false
 | .IfExp _ _ _ _=>false
 | .Compare _ _ _ _=>false
 | _=>true
def bM(h:bD e=true)(es:List Expr)(env:Env):starEach (e::es) env=(false,eval e env)::starEach es env:=by
 cases e<;>first | rfl | cases h
def iu(h:bD e=true)(op:CmpOp):behindInMarks op e=false:=by
 cases e<;>first | rfl | cases h
def gq(h:bD e=true)(env:Env)(x:Value):foldedSetIterable e env x=pure x:=by
 cases e<;>first | rfl | cases h
def AQ(h:qA e=true):qp e:=by
 intro o i;cases e<;>first | rfl | cases h
def Lu(h:DK e=true)(env:Env)(jK:Sem Value):isTrue e env jK=(do let v <-jK;standAt e.pos;holding [v] (truthy v)):=by
 cases e with
 | UnaryOp op a p=>cases op<;>first | rfl | cases h
 | BoolOp _ _ _=>cases h
 | IfExp _ _ _ _=>cases h
 | Compare _ _ _ _=>cases h
 | _=>rfl
def iw(h:l9 e=true)(t:Option Expr)(l:Nat)(env:Env):swapsWith e t l env=pure false:=by
 cases e<;>first | rfl | cases h
def iy(h:es.all bD=true)(env:Env)(pos:Pos):(backTo pos (starEach es env)).any (·.1)=false:=by
 induction es with
 | nil=>rfl
 | cons e es ih =>
  rw[gY,aO]at h;rw[bM h.1];exact ih h.2
def DL(h:es.all bD=true)(env:Env)(pos:Pos):(backTo pos (starEach es env)).all (λx=>!x.1)=true:=by
 induction es with
 | nil=>rfl
 | cons e es ih =>
  rw[gY,aO]at h;rw[bM h.1];exact ih h.2
def Pl(h:es.all bD=true)(hl:es.length<30):((backTo cp (starEach es env)).all (λx=>!x.1)&&(backToKw cp (keywordEach [] env)).all (λx=>x.1.isSome)
   && decide (es.length+([]:List Keyword).length+(if([]:List Keyword).isEmpty then 0 else 1)<30))=true:=by
 rw[DL h];simp only[Bool.true_and,aO,j6];exact⟨rfl,hl⟩
def kx(h:iO x=true):(x==("__debug__":Str))=false/\(x==("__classdict__":Str))=false/\x≠"__name__":=by
 unfold iO at h;simp only[aO,wD]at h;exact⟨h.1.1,h.1.2,by simpa using h.2⟩
noncomputable def yc:Nat->Gm->Expr->Option (Tg×List Nat)
 | 0,_,_=>none
 | n+1,Γ,e=>match e with
  | .Name x _=>if W0 Γ x=true then(slot Γ x).map λi=>(aR i,[i])else none
  | .Tuple es _ _=>(es.foldr (λe r=>(yc n Γ e).bind λg=>r.map λgs=>(dt g.1 gs.1,g.2++gs.2)) (some (pZ,[]))).map λgs=>(jB es.length gs.1,gs.2)
  | _=>none
def Lv(h:slot Γ x=some i):Γ.N[i]?=some x:=by
 unfold slot at h;obtain⟨hi,hp,_⟩:=Jf.mp h;rw[cO hi];exact ej some (bj hp)
section
variable {Γ:Gm} {X:Cx} {x:Str} {pos:Pos} {aa:Hp} {ab:Fz}
def GOk.adQ(G:GOk Γ X aa ab)(h:ND Γ x=true):Xo X.env.scope x:=by
 unfold ND at h;unfold Xo;rw[G.names];split at h<;>simp_all
def GOk.Vj(G:GOk Γ X aa ab)(h:W0 Γ x=true):QL X.env.scope x/\(X.fn x=true\/X.env.scope.names.lookup x=some .local):=by
 unfold W0 at h;unfold QL;rw[G.names];split at h
 ·grind
 ·rename_i z;exact⟨.inr z,.inl (G.own h x)⟩
 ·cases h
def GOk.lb(G:GOk Γ X aa ab)(h:yZ Γ x=true):Gl X x:=by
 unfold yZ at h;show X.env.scope.names.lookup x=_;rw[G.names];split at h
 ·assumption
 ·cases h
def GOk.sU(G:GOk Γ X aa ab)(h:slot Γ x=some i):X.N[i]?=some x:=by
 rw[G.N];exact Lv h
theorem kR(G:GOk Γ X aa ab):∀(n:Nat) (e:Expr) (g:Tg×List Nat),yc n Γ e=some g->PG X e (tG X.K aa ab g.1)/\KG g.2 g.1/\(∀env:Env,(assignEach [e] env).map (·.2)=[assign e env])/\∀(es:List Expr) (env:Env),assignEach (e::es) env=(false,assign e env)::assignEach es env
 | 0,_,_,h=>by cases h
 | n+1,e,g,h=>by
  cases e with
  | Name x p =>
   have h:=h;obtain⟨hs,h⟩:=bX h;obtain⟨i,z,rfl⟩:=bt h;obtain⟨h1,h2⟩:=G.Vj hs;exact⟨Uo i (NA G.nd (G.sU z) h1 h2),OL i,λ_=>rfl,λ_ _=>rfl⟩
  | Tuple es k p =>
   have all:∀es gs,es.foldr (λe r=>(yc n Γ e).bind λg=>r.map λgs=>(dt g.1 gs.1,g.2++gs.2)) (some (pZ,[]))=some gs ->
     PGs X es (YC X.K aa ab gs.1)/\YX gs.2 gs.1/\∀env:Env,(assignEach es env).length=es.length/\(assignEach es env).findIdx? (·.1)=none:=by
    intro es;induction es with
    | nil =>
     intro gs h;cases h;exact⟨Uq,OM,λenv=>⟨rfl,rfl⟩⟩
    | cons e es ih =>
     intro gs h;rw[List.foldr_cons]at h;obtain⟨g1,e1,h⟩:=aX h;obtain⟨g2,z,rfl⟩:=bt h;obtain⟨a1,a2,a3,a4⟩:=kR G n e g1 e1;obtain⟨b1,b2,b3⟩:=ih g2 z;refine⟨Oj a1 b1 (by grind),KA a2 b2,λenv=>?_⟩
     rw[a4];obtain⟨c1,c2⟩:=b3 env;exact⟨by rw[aW,aW,c1],by grind⟩
   have h:=h;obtain⟨gs,z,rfl⟩:=bt h;obtain⟨b1,b2,b3⟩:=all es gs z;exact⟨YD G.calm b1 (b3 _).1 (b3 _).2,UN b2,λ_=>rfl,λ_ _=>rfl⟩
  | _=>cases h
def vw(G:GOk Γ X aa ab)(hn:iO x=true)(hv:ND Γ x=true)(hs:slot Γ x=some i):PE X (.Name x pos) (Nr i) :=
 pe_var (G.sU hs) (G.adQ hv) (kx hn).1 (kx hn).2.1
end
def yd(x:Str):Option GC :=
 if x==("len":Str)then some gH
 else if x==("tuple":Str)then some Hj
 else if x==("int":Str)then some Hk
 else if x==("sum":Str)then some Hm
 else if x==("str":Str)then some Hl
 else if x==("sorted":Str)then some FC
 else none
def Lw:bootBuiltins "sum"=some (.builtin "sum"):=by kernel_rfl
set_option maxHeartbeats 4000000 in
theorem Vk(h:yd x=some g)(hh:X.A.handled=none)(hg:Gl X x)(hm:X.mg x=none)(ha:PA X (a::es) (tA X aa ab ts))
  (he:starEach (a::es) X.env=(false,eval a X.env)::starEach es X.env) (nE:(backTo pos (starEach es X.env)).any (·.1)=false):PE X (.Call (.Name x p) (a::es) [] pos) (tE X aa ab (gI g ts)):=by
 unfold yd at h;split at h
 ·rename_i e;cases h;have e:=bj e;subst e;exact(mB Hn hg hm PySem.boot_len ha (by decide) (by decide) he nE).imp λ_ _ _ h=>kO h
 ·split at h
  ·rename_i e;cases h;have e:=bj e;subst e;exact(ox Ho hg hm (mR .tuple) ha (by decide) (by decide) he nE).imp λ_ _ _ h=>kO h
  ·split at h
   ·rename_i e;cases h;have e:=bj e;subst e;exact(ox Hq hg hm (mR .int) ha (by decide) (by decide) he nE).imp λ_ _ _ h=>kO h
   ·split at h
    ·rename_i e;cases h;have e:=bj e;subst e;exact(mB (Hs hh) hg hm Lw ha (by decide) (by decide) he nE).imp λ_ _ _ h=>kO h
    ·split at h
     ·rename_i e;cases h;have e:=bj e;subst e;exact(ox Hr hg hm (mR .str) ha (by decide) (by decide) he nE).imp λ_ _ _ h=>kO h
     ·split at h
      ·rename_i e;cases h;have e:=bj e;subst e;exact(mB DH hg hm ph ha (by decide) (by decide) he nE).imp λ_ _ _ h=>kO h
      ·cases h
def ye:ScopeKind->Bool
 | .function=>true
 | _=>false
noncomputable def vx(scope:Scope):List Str:=(scope.names.filter λy=>match y.2 with | .local=>true | .free=>true | _=>false).map (·.1)
def hZ(Γ:Gm)(scope:Scope):List (Option Nat):=(vx scope).map λx=>match scope.names.lookup x with | some .free=>slot Γ x | _=>none
noncomputable def DM(Γ:Gm)(scope:Scope):List (Str×NameKind):=scope.names.map fun(n,k)=>if(k==NameKind.free&&Γ.sc.lookup n==some .cell)then(n,NameKind.cell)else(n,k)
def vy(Γ:Gm)(scope:Scope):Gm:={Γ with sc:=DM Γ scope,N:=vx scope,own:=false,uo:=none,xZ:=none}
def sW(Γ:Gm)(scope:Scope)(L:List Nat):Bool :=
 ye scope.kind&&scope.names.all (λy=>match y.2 with
  | .cell=>false
  | .local=>(match scope.names.lookup y.1 with | some .local=>true | _=>false)
  | .free=>(match Γ.sc.lookup y.1 with | some .cell=>true | some .free=>true | _=>false)
  | _=>true)&&decide (vx scope).Nodup&&L.all λi=>match(hZ Γ scope)[i]? with | some none=>true | _=>false
noncomputable def qC(a:Arguments):Option (Str×Pos):=match a.args with
 | [y]=>bif a.posonlyargs.isEmpty&&(a.vararg.isNone&&(a.kwonlyargs.isEmpty&&(a.kw_defaults.isEmpty&&(a.kwarg.isNone&&(a.defaults.isEmpty&&y.annotation.isNone)))))then some (y.arg,y.pos)else none
 | _=>none
def yf(h:qC args=some xa):args=oneArg xa.1 xa.2:=by
 obtain⟨po,as,va,ko,kd,kw,df⟩:=args;rcases as with _ | ⟨⟨x,an,ap⟩,_ | _⟩
 ·cases h
 ·cases po;rotate_left;cases h;cases va;rotate_left;cases h;cases ko;rotate_left;cases h;cases kd;rotate_left;cases h;cases kw;rotate_left;cases h;cases df;rotate_left;cases h;cases an;rotate_left;cases h;cases h;rfl
 ·cases h
noncomputable def isFree(k:Option NameKind):Bool:=match k with | some .free=>true | _=>false
def yg(scope:Scope):List Str:=(scope.names.filter λy=>isFree (some y.2)).map (·.1)
def qD(Γ:Gm)(scope:Scope):List (Option Nat):=(yg scope).map (slot Γ)
def ZD(Γ:Gm)(x:Str)(scope:Scope):Gm:={Γ with sc:=scope.names,N:=x::yg scope,own:=false,uo:=none,xZ:=none,cls:=[]}
def Lx(Γ:Gm)(x:Str)(scope:Scope):Bool :=
 ye scope.kind&&!scope.isCoroutine&&!scope.isGenerator&&(match scope.names.lookup x with | some .local=>true | _=>false)&&scope.names.all (λy=>match y.2 with
  | .cell=>false
  | .free=>(match Γ.sc.lookup y.1 with | some .cell=>true | some .free=>true | _=>false)&&isFree (scope.names.lookup y.1)
  | _=>true)&&decide (x::yg scope).Nodup
section
variable {Γ:Gm} {X:Cx} {scope:Scope} {L:List Nat} {aa:Hp} {ab:Fz}
def mZ(h:sW Γ scope L=true):scope.kind=.function/\(∀y∈scope.names,(match y.2 with
  | .cell=>false
  | .local=>(match scope.names.lookup y.1 with | some .local=>true | _=>false)
  | .free=>(match Γ.sc.lookup y.1 with | some .cell=>true | some .free=>true | _=>false)
  | _=>true)=true)/\(vx scope).Nodup/\∀i∈L,(hZ Γ scope)[i]?=some none:=by
 unfold sW at h;simp only[aO,gW,j6]at h;obtain⟨⟨⟨h1,h2⟩,h3⟩,h4⟩:=h;refine⟨?_,h2,h3,λi hi=>?_⟩
 ·unfold ye at h1;split at h1
  ·assumption
  ·cases h1
 ·grind
def DN(G:GOk Γ X aa ab)(h:sW Γ scope L=true):jf X (vx scope) (hZ Γ scope) scope:=by
 obtain⟨h1,h2,h3,h4⟩:=mZ h;refine⟨h1,λy hy z=>?_,λy hy z=>?_,λy hy z=>?_,by unfold hZ;rw[ak],λi j x hl hx=>?_⟩
 ·grind
 ·grind
 ·have:=h2 y hy;rw[z]at this;simp only at this;show X.env.scope.names.lookup y.1=_\/X.env.scope.names.lookup y.1=_;rw[G.names];split at this
  ·grind
  ·grind
  ·cases this
 ·unfold hZ at hl;rw[bR,hx]at hl;have hl:(match scope.names.lookup x with | some .free=>slot Γ x | _=>none)=some j:=by grind
  split at hl
  ·exact⟨G.sU hl,by assumption⟩
  ·cases hl
def Ly(G:GOk Γ X aa ab)(h:sW Γ scope L=true)(C:Addr)(s:Shared)(H:Hp)(fp:List Addr)(xV:Hp)(sN:Fz):GOk (vy Γ scope) (cJ X (vx scope) scope C s H fp) xV sN where
 names:=by
  show(relabel scope X.env).names=DM Γ scope;have e:∀n,X.env.kindOf n=Γ.sc.lookup n:=λn=>by show X.env.scope.names.lookup n=_;rw[G.names]
  unfold DM relabel;simp only[G.kind,e]
  congr 1
  funext y
  obtain⟨n,k⟩:=y;simp
 N:=rfl
 nd:=(mZ h).2.2.1
 kind:=by
  exact(mZ h).1
 calm:=G.calm
 hd:=G.hd
 un:=G.un
 own:=λz=>by cases z
 fns:=G.fns
 cons:=G.cons
 dA:=G.dA
 tabs:=G.tabs
 ns:=G.ns
 RK:=G.RK
 cls:=G.cls
 uo:=λ_ z=>by cases z
 xZ:=λ_ _ z=>by cases z
def Lz{i:Nat}(h:(yg scope)[i]?=some y):(y,NameKind.free)∈scope.names:=by
 have hm:=dN h;unfold yg at hm;obtain⟨z,hz,rfl⟩:=aF.mp hm;obtain⟨h1,h2⟩:=cD.mp hz;obtain⟨n,k⟩:=z;cases k<;>first | exact h1 | cases h2
def HP(h:isFree k=true):k=some .free:=by
 unfold isFree at h;split at h
 ·rfl
 ·cases h
def HQ{x:Str}(G:GOk Γ X aa ab)(h:Lx Γ x scope=true):sO X x (yg scope) (qD Γ scope) scope/\(x::yg scope).Nodup:=by
 unfold Lx at h;simp only[aO]at h;obtain⟨⟨⟨⟨⟨h1,h2⟩,h3⟩,h4⟩,h5⟩,h6⟩:=h;have G8:=gW.mp h5;refine⟨⟨?_,by grind,by grind,?_,λy hy z=>?_,λy hy z=>?_,?_,λi j y e1 e2=>?_⟩,eJ h6⟩
 ·unfold ye at h1;split at h1
  ·assumption
  ·cases h1
 ·grind
 ·grind
 ·have:=G8 y hy;rw[z]at this;simp only[aO]at this;have hk:X.env.kindOf y.1=Γ.sc.lookup y.1:=by show X.env.scope.names.lookup y.1=_;rw[G.names]
  rw[hk];have t:=this.1;split at t
  ·grind
  ·grind
  ·cases t
 ·unfold qD;rw[ak]
 ·have hm:=Lz e2;have:=G8 _ hm;simp only[aO]at this;refine⟨?_,HP this.2⟩;unfold qD at e1;rw[bR,e2]at e1;exact G.sU (cH e1)
def Pm(G:GOk Γ X aa ab)(hk:scope.kind=.function)(hn:(x::yg scope).Nodup)(hf:Vi X k Γ.fns Γ.call)
  {stack:List Env} (hr:dM k (A.deeper (W.envX qual scope s.heap.objs.size fa cZ cl))) (xV:Hp) (sN:Fz) :
  GOk (ZD Γ x scope) (Ra (i9 X.prog X.w) X.prog X.w X.K X.mg X.base (x::yg scope) qual scope fa cZ cl A stack s H E) xV sN where
 names:=rfl
 N:=rfl
 nd:=hn
 kind:=hk
 calm:=rfl
 hd:=hr.hd
 un:=by
  have:=hr.un;show(A.deeper _).units+1150<cLine
  lia
 own:=λz=>by cases z
 fns:=λy n e=>let ⟨j,f,fd,ps,h1,h2,h3,h4,h5⟩:=hf y n e;⟨j,f,fd,ps,h2,hr.mono h1,h3,h4,h5⟩
 cons:=G.cons
 dA:=G.dA
 tabs:=G.tabs
 ns:=G.ns
 RK:=G.RK
 cls:=λ_ _ z=>by cases z
 uo:=λ_ z=>by cases z
 xZ:=λ_ _ z=>by cases z
end
def cz{α:Type}:Gx α:=λ_=>none
section
variable {X:Cx} {aa:Hp} {ab:Fz} {e:Expr} {es:List Expr}
def vz{C:Prop}(h:tX X aa ab rl cz σ H Q):C:=by
 obtain⟨F,st,R,r,z,_⟩:=h;cases z
def bf:PE X e (tE X aa ab cz):=λ_ _ _ _ _ _ h=>vz h
def vA:PT X e (tT X aa ab cz):=λ_ _ _ _ _ _ h=>vz h
def LB:PW X e (tT X aa ab cz):=λ_ _ _ _ _ _ _ h=>vz h
def RL:PA X es (tA X aa ab cz):=λ_ _ _ _ _ _ _ h=>vz h
def RM{tg:Expr}:PI X tg e (Jb X aa ab cz):=λ_ _ _ _ _ _ h=>vz h
end
def bF(m n:Nat)(g:oE)(as:List PV):Gx PV:=λst=>if((m==0)&&(st.h.isEmpty || ah as))=true then oG n g as st else Dw n g as st
def adR(G:FnOk X.prog X.w X.K X.mg X.base (i9 X.prog X.w) k f fd ps (HF X.K n g))(hr:dM k X.A)(hb:gK X.K fd ps []):O1 X f (bF m n g):=by
 rintro aa H ab F st σ ae s Q as us vs I R b r ⟨q,e1,e2⟩
 unfold bF at e1;split at e1
 ·exact Y7 G hr hb aa H ab F st σ ae s Q as us vs I R b r ⟨q,e1,e2⟩
 ·exact adj G hr hb aa H ab F st σ ae s Q as us vs I R b r ⟨q,e1,e2⟩
def ZE(Γ:Gm):Expr->Nat
 | .Name x _=>HN (md Γ x)
 | .Attribute _ f _=>HN (md Γ f)
 | _=>0
def yh(e:Expr):Option {x:Option Expr×Option Expr // ∃p,e=.Slice x.1 x.2 none p}:=match e with
 | .Slice lo hi none p=>some ⟨(lo,hi),p,rfl⟩
 | _=>none
def adS:Const->Gx PV
 | .int i=>aY (.int i)
 | .bool i=>aY (.bl i)
 | .none=>aY .bQ
 | .str i=>aY (.str i)
 | _=>cz
def Vl(Γ:Gm)(x:Str):Gx PV:=if iO x=true then(if ND Γ x=true then(match slot Γ x with | some i=>rd i | none=>cz)else if yZ Γ x=true then(match Γ.cons.lookup x with | some p=>aY p | none=>cz)else cz)else cz
noncomputable def DO(a:Expr):Option {x:Str×Expr×List Expr // ∃p q,a=.Call (.Name x.1 p) (x.2.1::x.2.2) [] q}:=match a with
 | .Call (.Name z p) (b::bs) [] q=>some ⟨(z,b,bs),p,q,rfl⟩
 | _=>none
noncomputable def yi(a:Expr)(es:List Expr):Option {x:Str×Expr // es=[]/\∃p q,a=.Call (.Name x.1 p) [x.2] [] q}:=match a,es with
 | .Call (.Name z p) [e] [] q,[]=>some ⟨(z,e),rfl,p,q,rfl⟩
 | _,_=>none
def jP(Γ:Gm)(x:Str):Bool:=yZ Γ x&&Γ.dA.contains x
mutual
noncomputable def bP:Nat->Gm->Nat->Expr->Gx PV
 | 0,_,_,_=>cz
 | n+1,Γ,m,e=>match e with
  | .Constant c _ _=>adS c
  | .Name x _=>Vl Γ x
  | .BinOp a op b _=>(match Pk op with | some g=>op2 g (bP n Γ 0 a) (bP n Γ 0 b) | none=>cz)
  | .UnaryOp .Not a _=>Og (bP n Γ 0 a)
  | .UnaryOp .USub a _=>Ah (bP n Γ 0 a)
  | .BoolOp op vs _=>LC n Γ op vs
  | .Compare a ops bs _=>Vm n Γ a ops bs
  | .IfExp c a b _=>fG (uL n Γ c) (bP n Γ m a) (bP n Γ m b)
  | .Tuple es _ _=>mq .ay (me n Γ m es)
  | .List es _=>(match m with | 0=>mq .lst (me n Γ 0 es) | _=>xy (me n Γ (HN m) es))
  | .Dict [] [] _=>K6 (m==10)
  | .Subscript a b _=>Vn n Γ a b
  | .ListComp elt gens scope _=>Vo n Γ m elt gens scope
  | .Attribute o f _=>if ya o=true then U2 f (bP n Γ 0 o)else cz
  | .Call f (a::es) [] cp=>if(a::es).all bD=true then Vp n Γ m f a es cp else cz
  | .Call (.Attribute o f ap) [] [] cp=>if(ya o&&(ap.endLine==cp.line))=true then(if f==("isdigit":Str)then Ve (bP n Γ 0 o)else match Dy f with | some w=>Dx w.1 w.2 (bP n Γ 0 o) (aY []) | none=>cz)else cz
  | _=>cz
termination_by structural n=>n
noncomputable def Vp:Nat->Gm->Nat->Expr->Expr->List Expr->Pos->Gx PV
 | 0,_,_,_,_,_,_=>cz
 | n+1,Γ,m,f,a,es,cp=>match f with
  | .Name x _=>if iO x=true then(if yZ Γ x=true then Vq n Γ m x a es else if ND Γ x=true then LD n Γ x a es else cz)else cz
  | .Subscript v k p=>AB Γ.fns Γ.call (bP n Γ 0 (.Subscript v k p)) (me n Γ 0 (a::es))
  | .Attribute o g ap=>if(ya o&&(ap.endLine==cp.line)&&decide ((a::es).length<30))=true then(match Fs g with | some w=>Dx w.1 w.2 (bP n Γ 0 o) (me n Γ (ZE Γ o) (a::es)) | none=>cz)else cz
  | _=>cz
termination_by structural n=>n
noncomputable def LD:Nat->Gm->Str->Expr->List Expr->Gx PV
 | 0,_,_,_,_=>cz
 | n+1,Γ,x,a,es=>match es,slot Γ x,Γ.xZ with
  | [],some i,some o=>Lb i o.1 o.2 (bP n Γ 0 a)
  | _,_,_=>cz
termination_by structural n=>n
noncomputable def Vq:Nat->Gm->Nat->Str->Expr->List Expr->Gx PV
 | 0,_,_,_,_,_=>cz
 | n+1,Γ,m,x,a,es=>if x==("spread":Str)then LF n Γ a es else match Γ.fns.lookup x with
  | some k=>bnd (me n Γ 0 (a::es)) (bF m k (Γ.call x))
  | none=>match Γ.cls.lookup x with
   | some k=>(match m with | 0=>mkP x k (Γ.make x) (me n Γ 0 (a::es)) | _=>cz)
   | none=>if Γ.dA.contains x=true then(if x==("isinstance":Str)then LG n Γ a es else if(x==("sorted":Str)&&(yi a es).isSome)=true then LH n Γ a es else if x==("dict":Str)then Vr n Γ a es else if x==("list":Str)then LI n Γ m a es else match yd x with | some g=>gI g (me n Γ 0 (a::es)) | none=>cz)else cz
termination_by structural n=>n
noncomputable def LF:Nat->Gm->Expr->List Expr->Gx PV
 | 0,_,_,_=>cz
 | n+1,Γ,a,es=>match es with
  | [.Lambda args body scope _]=>(match Γ.uo,qC args with
   | some rs,some xa=>if Lx Γ xa.1 scope=true then HJ rs (bP n Γ 0 a) (bP n (ZD Γ xa.1 scope) 0 body) (qD Γ scope)else cz
   | _,_=>cz)
  | _=>cz
termination_by structural n=>n
noncomputable def LI:Nat->Gm->Nat->Expr->List Expr->Gx PV
 | 0,_,_,_,_=>cz
 | n+1,Γ,m,a,es=>match es with
  | []=>(match DO a with
   | some ⟨zs,_⟩=>if(zs.1==("range":Str)&&jP Γ zs.1&&(zs.2.1::zs.2.2).all bD)=true then lrg m (me n Γ 0 (zs.2.1::zs.2.2))else cz
   | none=>cz)
  | _=>cz
termination_by structural n=>n
noncomputable def Vr:Nat->Gm->Expr->List Expr->Gx PV
 | 0,_,_,_=>cz
 | n+1,Γ,a,es=>match es with
  | []=>(match a with
   | .BinOp l .Add r _=>Lp (bP n Γ 0 l) (bP n Γ 0 r)
   | _=>cz)
  | _=>cz
termination_by structural n=>n
noncomputable def LH:Nat->Gm->Expr->List Expr->Gx PV
 | 0,_,_,_=>cz
 | n+1,Γ,a,es=>match yi a es with
  | some ⟨ze,_⟩=>if(ze.1==("set":Str)&&jP Γ ze.1&&bD ze.2)=true then Lm (bP n Γ 0 ze.2)else cz
  | none=>cz
termination_by structural n=>n
noncomputable def LG:Nat->Gm->Expr->List Expr->Gx PV
 | 0,_,_,_=>cz
 | n+1,Γ,a,es=>match es with
  | [.Name t _]=>if jP Γ t=true then(match Fb t with | some g=>isV g (bP n Γ 0 a) | none=>cz)else cz
  | _=>cz
termination_by structural n=>n
noncomputable def Vm:Nat->Gm->Expr->List CmpOp->List Expr->Gx PV
 | 0,_,_,_,_=>cz
 | n+1,Γ,a,ops,bs=>match ops,bs with
  | [op],[b]=>if bD b=true then(match Dp op with | some g=>op2 g (bP n Γ 0 a) (bP n Γ 0 b) | none=>cz)else cz
  | [op,yW],[b,c]=>if bD c=true then(match Dp op,Dp yW with | some g,some g'=>chain g g' (bP n Γ 0 a) (bP n Γ 0 b) (bP n Γ 0 c) | _,_=>cz)else cz
  | _,_=>cz
termination_by structural n=>n
noncomputable def Vn:Nat->Gm->Expr->Expr->Gx PV
 | 0,_,_,_=>cz
 | n+1,Γ,a,b=>match yh b with
  | some ⟨lh,_⟩=>cutE (bP n Γ 0 a) (Pn n Γ lh.1) (Pn n Γ lh.2)
  | none=>if qA b=true then(match a with
   | .Name T p=>if(iO T&&yZ Γ T)=true then(match Γ.tabs.lookup T with
    | some rows=>K8 (λk=>(rows.lookup k).map .fn) (bP n Γ 0 b)
    | none=>op2 bW (bP n Γ 0 (.Name T p)) (bP n Γ 0 b))else op2 bW (bP n Γ 0 (.Name T p)) (bP n Γ 0 b)
   | a=>op2 bW (bP n Γ 0 a) (bP n Γ 0 b))else cz
termination_by structural n=>n
noncomputable def uL:Nat->Gm->Expr->Gx Bool
 | 0,_,_=>cz
 | n+1,Γ,e=>match e with
  | .UnaryOp .Not a _=>uD (uL n Γ a)
  | .BoolOp op vs _=>LJ n Γ op vs
  | .Compare a [op] [b] _=>if bD b=true then(match Dp op with | some g=>toB (op2 g (bP n Γ 0 a) (bP n Γ 0 b)) | none=>cz)else cz
  | .Compare a [op,yW] [b,c] _=>if bD c=true then(match Dp op,Dp yW with | some g,some g'=>toB (chain g g' (bP n Γ 0 a) (bP n Γ 0 b) (bP n Γ 0 c)) | _,_=>cz)else cz
  | e=>if DK e=true then gM (bP n Γ 0 e)else cz
termination_by structural n=>n
noncomputable def LC:Nat->Gm->BoolOp->List Expr->Gx PV
 | 0,_,_,_=>cz
 | n+1,Γ,op,[a]=>bP n Γ 0 a
 | n+1,Γ,.And,a::b::r=>Hg (bP n Γ 0 a) (LC n Γ .And (b::r))
 | n+1,Γ,.Or,a::b::r=>orG (bP n Γ 0 a) (LC n Γ .Or (b::r))
 | _,_,_,_=>cz
termination_by structural n=>n
noncomputable def LJ:Nat->Gm->BoolOp->List Expr->Gx Bool
 | 0,_,_,_=>cz
 | n+1,Γ,op,[a]=>uL n Γ a
 | n+1,Γ,.And,a::b::r=>fG (uL n Γ a) (LJ n Γ .And (b::r)) (aY false)
 | n+1,Γ,.Or,a::b::r=>fG (uL n Γ a) (aY true) (LJ n Γ .Or (b::r))
 | _,_,_,_=>cz
termination_by structural n=>n
noncomputable def me:Nat->Gm->Nat->List Expr->Gx (List PV)
 | 0,_,_,_=>cz
 | n+1,Γ,m,[]=>aY []
 | n+1,Γ,m,e::es=>if bD e=true then aq (bP n Γ m e) (me n Γ m es)else cz
termination_by structural n=>n
noncomputable def Pn:Nat->Gm->Option Expr->Gx (Option Int)
 | 0,_,_=>cz
 | n+1,Γ,none=>aY none
 | n+1,Γ,some e=>vj (bP n Γ 0 e)
termination_by structural n=>n
noncomputable def LM:Nat->Gm->Expr->Expr->Gx yX
 | 0,_,_,_=>cz
 | n+1,Γ,tg,e=>match e with
  | .Call (.Name x p) [a] [] cp=>if(x==("range":Str)&&jP Γ x&&bD a)=true then Fj (sL xP (me n Γ 0 [a]))
    else if(x==("enumerate":Str)&&jP Γ x&&bD a&&Rv tg)=true then Fj (vq (bP n Γ 0 a))
    else ik (bP n Γ 0 (.Call (.Name x p) [a] [] cp))
  | .Call (.Name x p) [a,b] [] cp=>if(x==("range":Str)&&jP Γ x&&bD a&&bD b)=true then Fj (sL KN (me n Γ 0 [a,b]))
    else ik (bP n Γ 0 (.Call (.Name x p) [a,b] [] cp))
  | e=>if bD e=true then ik (bP n Γ 0 e)else cz
termination_by structural n=>n
noncomputable def Vo:Nat->Gm->Nat->Expr->List Comprehension->Scope->Gx PV
 | 0,_,_,_,_,_=>cz
 | n+1,Γ,m,elt,gens,scope=>match gens with
  | [⟨tg,iter,ifs,0⟩]=>if bD iter=true then(match yc n (vy Γ scope) tg with
   | some g=>if sW Γ scope g.2=true then(match ifs with
    | []=>dh (m != 0) (hZ Γ scope) (LM n Γ tg iter) (k7 g.1 (bP n (vy Γ scope) (HN m) elt))
    | [c]=>dh (m != 0) (hZ Γ scope) (LM n Γ tg iter) (k8 g.1 (uL n (vy Γ scope) c) (bP n (vy Γ scope) (HN m) elt))
    | _=>cz)else cz
   | none=>cz)else cz
  | _=>cz
termination_by structural n=>n
end
def CC(X:Cx)(aa:Hp)(ab:Fz)(elt:Expr)(gens:List Comprehension)(scope:Scope)(p:Pos)(f:Gx PV):Prop:=PE X (.ListComp elt gens scope p) (tE X aa ab f) /\
  ∀i x p' sp,X.N[i]?=some x->X.env.scope.names.lookup x=some .local->swapsWith (.ListComp elt gens scope p) (some (.Name x p')) sp.line X.env=pure true ->
   PS X (.Assign [.Name x p'] (.ListComp elt gens scope p) sp) (tS X aa ab (dc f (aR i)))
structure Snd (n:Nat):Prop where
 e:∀Γ X aa ab m e,GOk Γ X aa ab->PE X e (tE X aa ab (bP n Γ m e))
 f:∀Γ X aa ab m f a es cp,GOk Γ X aa ab->(a::es).all bD=true->PE X (.Call f (a::es) [] cp) (tE X aa ab (Vp n Γ m f a es cp))
 o:∀Γ X aa ab x a es p cp,GOk Γ X aa ab->(a::es).all bD=true->iO x=true->ND Γ x=true->PE X (.Call (.Name x p) (a::es) [] cp) (tE X aa ab (LD n Γ x a es))
 cn:∀Γ X aa ab m x a es p cp,GOk Γ X aa ab->(a::es).all bD=true->iO x=true->yZ Γ x=true->PE X (.Call (.Name x p) (a::es) [] cp) (tE X aa ab (Vq n Γ m x a es))
 sp:∀Γ X aa ab a es p cp,GOk Γ X aa ab->(a::es).all bD=true->yZ Γ "spread"=true->PE X (.Call (.Name "spread" p) (a::es) [] cp) (tE X aa ab (LF n Γ a es))
 st:∀Γ X aa ab a es p cp,GOk Γ X aa ab->(a::es).all bD=true->yZ Γ "sorted"=true->Γ.dA.contains "sorted"=true->PE X (.Call (.Name "sorted" p) (a::es) [] cp) (tE X aa ab (LH n Γ a es))
 d:∀Γ X aa ab a es p cp,GOk Γ X aa ab->(a::es).all bD=true->yZ Γ "dict"=true->Γ.dA.contains "dict"=true->PE X (.Call (.Name "dict" p) (a::es) [] cp) (tE X aa ab (Vr n Γ a es))
 li:∀Γ X aa ab m a es p cp,GOk Γ X aa ab->(a::es).all bD=true->yZ Γ "list"=true->Γ.dA.contains "list"=true->PE X (.Call (.Name "list" p) (a::es) [] cp) (tE X aa ab (LI n Γ m a es))
 is:∀Γ X aa ab a es p cp,GOk Γ X aa ab->(a::es).all bD=true->yZ Γ "isinstance"=true->Γ.dA.contains "isinstance"=true->PE X (.Call (.Name "isinstance" p) (a::es) [] cp) (tE X aa ab (LG n Γ a es))
 k:∀Γ X aa ab a ops bs p,GOk Γ X aa ab->PE X (.Compare a ops bs p) (tE X aa ab (Vm n Γ a ops bs))
 x:∀Γ X aa ab a b p,GOk Γ X aa ab->PE X (.Subscript a b p) (tE X aa ab (Vn n Γ a b))
 t:∀Γ X aa ab e,GOk Γ X aa ab->PT X e (tT X aa ab (uL n Γ e))
 b:∀Γ X aa ab op vs p,GOk Γ X aa ab->PE X (.BoolOp op vs p) (tE X aa ab (LC n Γ op vs))
 w:∀Γ X aa ab op vs p,GOk Γ X aa ab->PW X (.BoolOp op vs p) (tT X aa ab (LJ n Γ op vs))
 a:∀Γ X aa ab m es,GOk Γ X aa ab->PA X es (tA X aa ab (me n Γ m es))
 l:∀Γ X aa ab e,GOk Γ X aa ab->PO X e (Uz X aa ab (Pn n Γ e))
 i:∀Γ X aa ab tg e,GOk Γ X aa ab->PI X tg e (Jb X aa ab (LM n Γ tg e))
 c:∀Γ X aa ab m elt gens scope p,GOk Γ X aa ab->CC X aa ab elt gens scope p (Vo n Γ m elt gens scope)
def pI{X:Cx}{aa:Hp}{ab:Fz}{e:Expr}{c:Prop} [Decidable c] {f g:Gx PV} (h:c->PE X e (tE X aa ab f)) (h':PE X e (tE X aa ab g)):PE X e (tE X aa ab (if c then f else g)):=by
 split
 ·exact h ‹_›
 ·exact h'
def pJ{X:Cx}{aa:Hp}{ab:Fz}{e:Expr}{c:Prop} [Decidable c] {f:Gx PV} (h:c->PE X e (tE X aa ab f)):PE X e (tE X aa ab (if c then f else cz)):=pI h bf
def ji:PS X s (tS X aa ab cz):=λ_ _ _ _ _ _ ⟨F,st,R,r,z,_⟩=>by cases z
def yj:PS X s (tS X aa ab (dc cz g)):=λ_ _ _ _ _ _ ⟨F,st,R,r,z,_⟩=>by cases z
def ZF{ab:Fz}:PO X e (Uz X aa ab cz):=λ_ _ _ _ _ _ h=>vz h
def LN:Snd 0 where
 e:=λ_ _ _ _ _ _ _=>bf
 f:=λ_ _ _ _ _ _ _ _ _ _ _=>bf
 o:=λ_ _ _ _ _ _ _ _ _ _ _ _ _=>bf
 cn:=λ_ _ _ _ _ _ _ _ _ _ _ _ _ _=>bf
 sp:=λ_ _ _ _ _ _ _ _ _ _ _=>bf
 st:=λ_ _ _ _ _ _ _ _ _ _ _ _=>bf
 d:=λ_ _ _ _ _ _ _ _ _ _ _ _=>bf
 li:=λ_ _ _ _ _ _ _ _ _ _ _ _ _=>bf
 is:=λ_ _ _ _ _ _ _ _ _ _ _ _=>bf
 k:=λ_ _ _ _ _ _ _ _ _=>bf
 x:=λ_ _ _ _ _ _ _ _=>bf
 t:=λ_ _ _ _ _ _=>vA
 b:=λ_ _ _ _ _ _ _ _=>bf
 w:=λ_ _ _ _ _ _ _ _=>LB
 a:=λ_ _ _ _ _ _ _=>RL
 l:=λ_ _ _ _ _ _=>ZF
 i:=λ_ _ _ _ _ _ _=>RM
 c:=λ_ _ _ _ _ _ _ _ _ _=>⟨bf,λ_ _ _ _ _ _ _=>yj⟩
section
variable {n:Nat} (S:Snd n)
include S
def ZG(Γ:Gm)(X:Cx)(aa:Hp)(ab:Fz)(op:BoolOp)(vs:List Expr)(p:Pos)(G:GOk Γ X aa ab):PE X (.BoolOp op vs p) (tE X aa ab (LC (n+1) Γ op vs)):=by
 match op,vs with
 | .And,[]=>exact bf
 | .Or,[]=>exact bf
 | .And,[a]=>exact JE (S.e Γ X aa ab 0 a G)
 | .Or,[a]=>exact JE (S.e Γ X aa ab 0 a G)
 | .And,a::b::r=>exact Yw (S.e Γ X aa ab 0 a G) (S.b Γ X aa ab .And (b::r) p G)
 | .Or,a::b::r=>exact acW (S.e Γ X aa ab 0 a G) (S.b Γ X aa ab .Or (b::r) p G)
def ZH(Γ:Gm)(X:Cx)(aa:Hp)(ab:Fz)(op:BoolOp)(vs:List Expr)(p:Pos)(G:GOk Γ X aa ab):PW X (.BoolOp op vs p) (tT X aa ab (LJ (n+1) Γ op vs)):=by
 match op,vs with
 | .And,[]=>exact LB
 | .Or,[]=>exact LB
 | .And,[a]=>exact Nu (S.t Γ X aa ab a G)
 | .Or,[a]=>exact S4 (S.t Γ X aa ab a G)
 | .And,a::b::r=>exact Yu (S.t Γ X aa ab a G) (S.w Γ X aa ab .And (b::r) p G)
 | .Or,a::b::r=>exact acV (S.t Γ X aa ab a G) (S.w Γ X aa ab .Or (b::r) p G)
def ZI(Γ:Gm)(X:Cx)(aa:Hp)(ab:Fz)(m:Nat)(es:List Expr)(G:GOk Γ X aa ab):PA X es (tA X aa ab (me (n+1) Γ m es)):=by
 match es with
 | []=>exact Yy
 | e::es =>
  unfold me;split
  ·rename_i hp;exact Ue (S.e Γ X aa ab m e G) (S.a Γ X aa ab m es G) (bM hp _ _)
  ·exact RL
def ZJ(Γ:Gm)(X:Cx)(aa:Hp)(ab:Fz)(e:Option Expr)(G:GOk Γ X aa ab):PO X e (Uz X aa ab (Pn (n+1) Γ e)):=by
 match e with
 | none=>exact UA
 | some e=>exact UB (S.e Γ X aa ab 0 e G)
def ZK(Γ:Gm)(X:Cx)(aa:Hp)(ab:Fz)(a:Expr)(ops:List CmpOp)(bs:List Expr)(p:Pos)(G:GOk Γ X aa ab):PE X (.Compare a ops bs p) (tE X aa ab (Vm (n+1) Γ a ops bs)):=by
 rcases ops with _ | ⟨op,_ | ⟨yW,_ | _⟩⟩<;>rcases bs with _ | ⟨b,_ | ⟨c,_ | _⟩⟩<;>try exact bf
 ·show PE X _ (tE X aa ab (ite _ _ _));split
  ·rename_i hp;split
   ·rename_i g h1;exact Yr (kP G.un h1) (S.e Γ X aa ab 0 _ G) (S.e Γ X aa ab 0 _ G) (iu hp _)
   ·exact bf
  ·exact bf
 ·show PE X _ (tE X aa ab (ite _ _ _));split
  ·rename_i hp;split
   ·rename_i g g' h1 h2;exact Oe (kP G.un h1) (kP G.un h2) (S.e Γ X aa ab 0 _ G) (S.e Γ X aa ab 0 _ G) (S.e Γ X aa ab 0 _ G) (iu hp _)
   ·exact bf
  ·exact bf
def ZL(Γ:Gm)(X:Cx)(aa:Hp)(ab:Fz)(e:Expr)(G:GOk Γ X aa ab):PT X e (tT X aa ab (uL (n+1) Γ e)):=by
 have df:∀e,PT X e (tT X aa ab (if DK e=true then gM (bP n Γ 0 e)else cz)):=λe=>by
  split
  ·rename_i hp;exact Yt (S.e Γ X aa ab 0 _ G) λjK=>Lu hp _ jK
  ·exact vA
 cases e with
 | UnaryOp op=>cases op with
  | Not=>exact Yv (S.t Γ X aa ab _ G)
  | _=>exact df _
 | BoolOp=>exact(S.w Γ X aa ab _ _ _ G).pt
 | Compare a ops bs =>
  rcases ops with _ | ⟨op,_ | ⟨yW,_ | _⟩⟩<;>rcases bs with _ | ⟨b,_ | ⟨c,_ | _⟩⟩<;>try exact df _
  ·show PT X _ (tT X aa ab (ite _ _ _));split
   ·rename_i hp;split
    ·rename_i g h1;exact Ys (kP G.un h1) (S.e Γ X aa ab 0 _ G) (S.e Γ X aa ab 0 _ G) (iu hp _)
    ·exact vA
   ·exact vA
  ·show PT X _ (tT X aa ab (ite _ _ _));split
   ·rename_i hp;split
    ·rename_i g g' h1 h2;exact Of (kP G.un h1) (kP G.un h2) (S.e Γ X aa ab 0 _ G) (S.e Γ X aa ab 0 _ G) (S.e Γ X aa ab 0 _ G) (iu hp _)
    ·exact vA
   ·exact vA
 | _=>exact df _
def Vs(Γ:Gm)(X:Cx)(aa:Hp)(ab:Fz)(a:Expr)(es:List Expr)(p cp:Pos)(G:GOk Γ X aa ab)(hp:(a::es).all bD=true)(hg:yZ Γ "sorted"=true)(hb:Γ.dA.contains "sorted"=true):PE X (.Call (.Name "sorted" p) (a::es) [] cp) (tE X aa ab (LH (n+1) Γ a es)):=by
 show PE X _ (tE X aa ab (match yi a es with | some ⟨ze,_⟩=>_ | none=>cz))
 rcases yi a es with _ | ⟨⟨z,e⟩,rfl,zp,DG,rfl⟩
 ·exact bf
 ·refine pJ λhc=>?_
  simp only[jP,aO]at hc;obtain⟨⟨hx,g1,g2⟩,Pf⟩:=hc;have hx:=bj hx;subst hx;exact Vd G.hd (G.lb hg) (G.dA _ hb) (G.lb g1) (G.dA _ g2) (S.e Γ X aa ab 0 _ G) (bM Pf _ _)
def ZM(Γ:Gm)(X:Cx)(aa:Hp)(ab:Fz)(a:Expr)(es:List Expr)(p cp:Pos)(G:GOk Γ X aa ab)(hp:(a::es).all bD=true)(hg:yZ Γ "dict"=true)(hb:Γ.dA.contains "dict"=true):PE X (.Call (.Name "dict" p) (a::es) [] cp) (tE X aa ab (Vr (n+1) Γ a es)):=by
 rw[gY,aO]at hp;cases es with
 | cons=>exact bf
 | nil=>cases a with
  | BinOp l op=>cases op with
   | Add=>exact Vg G.hd (G.lb hg) (G.dA _ hb) (S.e Γ X aa ab 0 _ G) (S.e Γ X aa ab 0 _ G) rfl
   | _=>exact bf
  | _=>exact bf
def Vt(Γ:Gm)(X:Cx)(aa:Hp)(ab:Fz)(m:Nat)(a:Expr)(es:List Expr)(p cp:Pos)(G:GOk Γ X aa ab)(hp:(a::es).all bD=true)(hg:yZ Γ "list"=true)(hb:Γ.dA.contains "list"=true):PE X (.Call (.Name "list" p) (a::es) [] cp) (tE X aa ab (LI (n+1) Γ m a es)):=by
 rw[gY,aO]at hp;cases es with
 | cons=>exact bf
 | nil =>
  show PE X _ (tE X aa ab (match DO a with | some ⟨zs,_⟩=>_ | none=>cz))
  rcases DO a with _ | ⟨⟨z,b,bs⟩,zp,DG,rfl⟩
  ·exact bf
  ·refine pJ λhc=>?_
   simp only[jP,aO]at hc;obtain⟨⟨hx,g1,g2⟩,Pf⟩:=hc;have hx:=bj hx;subst hx;rw[gY,aO]at Pf;exact ZC G.hd (G.lb hg) (G.dA _ hb) (G.lb g1) (G.dA _ g2) (S.a Γ X aa ab 0 _ G) (bM Pf.1 _ _) (iy Pf.2 _ _)
def Vu(Γ:Gm)(X:Cx)(aa:Hp)(ab:Fz)(a:Expr)(es:List Expr)(p cp:Pos)(G:GOk Γ X aa ab)(hp:(a::es).all bD=true)(hg:yZ Γ "isinstance"=true)(hb:Γ.dA.contains "isinstance"=true):PE X (.Call (.Name "isinstance" p) (a::es) [] cp) (tE X aa ab (LG (n+1) Γ a es)):=by
 cases es with
 | nil=>exact bf
 | cons e es=>cases e with
  | Name t=>cases es with
   | cons=>exact bf
   | nil =>
    refine pJ λhc=>?_
    unfold jP at hc;rw[aO]at hc;rw[gY,aO]at hp;cases h1:Fb t with
    | none=>exact bf
    | some g=>exact ac1 h1 (G.lb hg) (G.dA _ hb) (G.lb hc.1) (G.dA _ hc.2) (S.e Γ X aa ab 0 a G) λes=>bM hp.1 es _
  | _=>exact bf
def ZN(Γ:Gm)(X:Cx)(aa:Hp)(ab:Fz)(a b:Expr)(p:Pos)(G:GOk Γ X aa ab):PE X (.Subscript a b p) (tE X aa ab (Vn (n+1) Γ a b)):=by
 show PE X _ (tE X aa ab (match yh b with | some ⟨lh,_⟩=>_ | none=>_))
 rcases yh b with _ | ⟨⟨lo,hi⟩,ps,rfl⟩
 ·refine pJ λhp=>?_
  have gen:=λa=>ac2 (pos:=p) G.un (S.e Γ X aa ab 0 a G) (S.e Γ X aa ab 0 b G) (AQ hp)
  cases a with
  | Name T =>
   refine pI (λhc=>?_) (gen _)
   rw[aO]at hc;cases h1:Γ.tabs.lookup T with
   | some rows=>exact Zd (G.tabs _ rows h1) (G.lb hc.2) (S.e Γ X aa ab 0 _ G) (AQ hp) (kx hc.1).1
   | none=>exact gen _
  | _=>exact gen _
 ·exact YJ (S.e Γ X aa ab 0 _ G) (S.l Γ X aa ab _ G) (S.l Γ X aa ab _ G)
def ZO(Γ:Gm)(X:Cx)(aa:Hp)(ab:Fz)(tg e:Expr)(G:GOk Γ X aa ab):PI X tg e (Jb X aa ab (LM (n+1) Γ tg e)):=by
 have df:∀e,PI X tg e (Jb X aa ab (if bD e=true then ik (bP n Γ 0 e)else cz)):=λe=>by
  split
  ·exact KW (S.e Γ X aa ab 0 _ G)
  ·exact RM
 cases e with
 | Call f as ks=>cases f with
  | Name x p =>
   rcases as with _ | ⟨a,_ | ⟨b,_ | _⟩⟩<;>rcases ks with _ | _<;>try exact df _
   ·show PI X _ _ (Jb X aa ab (ite _ _ _));split
    ·rename_i hc;simp only[jP,aO]at hc;obtain⟨⟨hx,hg,hb⟩,hp⟩:=hc;have hx:=bj hx;subst hx;exact UO <| KO (G.lb hg) (G.dA _ hb) (S.a Γ X aa ab 0 _ G) (bM hp _ _)
    ·split
     ·rename_i hc;simp only[jP,aO]at hc;obtain⟨⟨⟨hx,hg,hb⟩,hp⟩,ht⟩:=hc;have hx:=bj hx;subst hx;exact UO <| adg ht (G.lb hg) (G.dA _ hb) (S.e Γ X aa ab 0 _ G) (bM hp _ _)
     ·exact KW (S.e Γ X aa ab 0 _ G)
   ·show PI X _ _ (Jb X aa ab (ite _ _ _));split
    ·rename_i hc;simp only[jP,aO]at hc;obtain⟨⟨⟨hx,hg,hb⟩,hp⟩,Pf⟩:=hc;have hx:=bj hx;subst hx;exact UO <| KP (G.lb hg) (G.dA _ hb) (S.a Γ X aa ab 0 _ G) (by rw[bM hp,bM Pf];rfl) (bM Pf _ _)
    ·exact KW (S.e Γ X aa ab 0 _ G)
  | _=>exact df _
 | _=>exact df _
def Po:CC X aa ab elt gens scope p cz:=⟨bf,λ_ _ _ _ _ _ _=>yj⟩
def cI{c:Prop} [Decidable c] (h:c->CC X aa ab elt gens scope p f):CC X aa ab elt gens scope p (if c then f else cz):=by
 split
 ·exact h ‹_›
 ·exact Po
def ZP(Γ:Gm)(X:Cx)(aa:Hp)(ab:Fz)(m:Nat)(elt:Expr)(gens:List Comprehension)(scope:Scope)(p:Pos)(G:GOk Γ X aa ab):CC X aa ab elt gens scope p (Vo (n+1) Γ m elt gens scope):=by
 rcases gens with _ | ⟨⟨tg,iter,ifs,(_ | _) | _⟩,_ | _⟩<;>try exact Po
 refine cI λhp=>?_
 cases h2:yc n (vy Γ scope) tg with
 | none=>exact Po
 | some g =>
  refine cI λhc=>?_
  have SC:=DN G hc;have hL:=(mZ hc).2.2.2;have GK:=Ly G hc;have hi:=S.i Γ X aa ab tg iter G;have hg:=λC s H fp=>(kR (GK C s H fp aa ab) n tg g h2).1
  have kg:=(kR (GK 0 X.s₀ X.aa [] aa ab) n tg g h2).2.1;have he:=λC s H fp=>S.e _ _ _ _ (HN m) elt (GK C s H fp aa ab)
  rcases ifs with _ | ⟨c,_ | _⟩
  ·exact⟨(Fh G.calm SC hi (pb1 hg he) (gq hp _)).imp λσ H Q h=>KY kg hL h,λi x p' sp hx hl hw=>(Fi G.calm G.nd hx hl SC hi (pb1 hg he) hw (gq hp _)).imp λD σ H h=>KY kg hL (qx h)⟩
  ·have ht:=λC s H fp=>S.t _ _ _ _ c (GK C s H fp aa ab)
   exact⟨(Fh G.calm SC hi (pb2 hg he ht) (gq hp _)).imp λσ H Q h=>KZ kg hL h,λi x p' sp hx hl hw=>(Fi G.calm G.nd hx hl SC hi (pb2 hg he ht) hw (gq hp _)).imp λD σ H h=>KZ kg hL (qx h)⟩
  ·exact Po
def ZQ(Γ:Gm)(X:Cx)(aa:Hp)(ab:Fz)(x:Str)(a:Expr)(es:List Expr)(p cp:Pos)(G:GOk Γ X aa ab)(hp:(a::es).all bD=true)(hn:iO x=true)(hv:ND Γ x=true):PE X (.Call (.Name x p) (a::es) [] cp) (tE X aa ab (LD (n+1) Γ x a es)):=by
 rw[gY,aO]at hp;cases es with
 | cons=>exact bf
 | nil =>
  show PE X _ (tE X aa ab (match([]:List Expr),slot Γ x,Γ.xZ with | [],some i,some o=>_ | _,_,_=>cz))
  cases h1:slot Γ x with
  | none=>exact bf
  | some=>cases h2:Γ.xZ with
   | none=>exact bf
   | some o=>exact Zj (G.xZ o.1 o.2 h2) (vw G hn hv h1) (S.e Γ X aa ab 0 a G) (bM hp.1 _ _)
def Vv(Γ:Gm)(X:Cx)(aa:Hp)(ab:Fz)(a:Expr)(es:List Expr)(p cp:Pos)(G:GOk Γ X aa ab)(hp:(a::es).all bD=true)(hg:yZ Γ "spread"=true):PE X (.Call (.Name "spread" p) (a::es) [] cp) (tE X aa ab (LF (n+1) Γ a es)):=by
 rcases es with _ | ⟨e,_ | _⟩
 ·exact bf
 ·cases e with
  | Lambda args body scope =>
   show PE X _ (tE X aa ab (match Γ.uo,qC args with | some rs,some xa=>_ | _,_=>cz))
   cases h1:Γ.uo with
   | none=>exact bf
   | some rs=>cases h2:qC args with
    | none=>exact bf
    | some xa =>
     refine pJ λhc=>?_
     rw[gY,aO]at hp;obtain rfl:=yf h2;obtain⟨S1,YT⟩:=HQ G hc;obtain⟨⟨st,fs,RG,pr,Ns,k,rb,rfl,D,mS,bS,scS,hpr,hr,Le,hf⟩,L⟩:=G.uo rs h1;exact Ld D mS bS scS hpr L (G.lb hg) hr (S.e Γ X aa ab 0 a G) (bM hp.1 _ _) S1 Le λqual fa cZ cl A stack s H xV sN Zm=>S.e _ _ xV sN 0 _ (Pm G S1.kind YT hf Zm xV sN)
  | _=>exact bf
 ·cases e<;>exact bf
def ZR(Γ:Gm)(X:Cx)(aa:Hp)(ab:Fz)(m:Nat)(x:Str)(a:Expr)(es:List Expr)(p cp:Pos)(G:GOk Γ X aa ab)(hp:(a::es).all bD=true)(hn:iO x=true)(hg:yZ Γ x=true):PE X (.Call (.Name x p) (a::es) [] cp) (tE X aa ab (Vq (n+1) Γ m x a es)):=by
 have De:=hp;rw[gY,aO]at De;obtain⟨n1,n2,n3⟩:=kx hn;have ha:=S.a Γ X aa ab 0 (a::es) G;have h1:=bM De.1 es X.env;have h2:=iy De.2 X.env cp;refine pI (λhx=>?_) ?_
 ·cases bj hx;exact S.sp Γ X aa ab a es p cp G hp hg
 cases hk:Γ.fns.lookup x with
 | some k =>
  obtain⟨j,f,fd,ps,F,hr,q1,q2,q3⟩:=G.fns _ k hk;exact UY (adR F hr q3) (G.lb hg) q1 q2 ha n1 h1 h2
 | none=>cases hk:Γ.cls.lookup x with
  | some k=>cases m with
   | zero =>
    obtain⟨j,Ca,f,fd,ps,hC,c,M,F,hr,q1,q2⟩:=G.cls _ k hk;exact(NU (p:=p) M F hr (G.lb hg) q1 q2 .nil zZ ha n1 h1 h2).imp λσ H Q h=>O5 hC c h
   | succ=>exact bf
  | none =>
   refine pJ λhb=>pI (λhx=>?_) (pI (λhx=>?_) (pI (λhx=>?_) (pI (λhx=>?_) ?_)))
   ·cases bj hx;exact S.is Γ X aa ab a es p cp G hp hg hb
   ·cases bj (fK.mp hx).1;exact S.st Γ X aa ab a es p cp G hp hg hb
   ·cases bj hx;exact S.d Γ X aa ab a es p cp G hp hg hb
   ·cases bj hx;exact S.li Γ X aa ab m a es p cp G hp hg hb
   cases hg':yd x with
   | some g=>exact Vk hg' G.hd (G.lb hg) (G.dA _ hb) ha h1 h2
   | none=>exact bf
def ZS(Γ:Gm)(X:Cx)(aa:Hp)(ab:Fz)(m:Nat)(f a:Expr)(es:List Expr)(cp:Pos)(G:GOk Γ X aa ab)(hp:(a::es).all bD=true):PE X (.Call f (a::es) [] cp) (tE X aa ab (Vp (n+1) Γ m f a es cp)):=by
 have De:=hp;rw[gY,aO]at De;cases f with
 | Name=>exact pJ λhn=>pI (λhg=>S.cn Γ X aa ab m _ a es _ cp G hp hn hg) (pJ λhv=>S.o Γ X aa ab _ a es _ cp G hp hn hv)
 | Subscript=>exact O4 G.fns G.ns (S.e Γ X aa ab 0 _ G) (S.a Γ X aa ab 0 _ G) (bM De.1 _ _) (iy De.2 _ _)
 | Attribute o g ap =>
  refine pJ λhc=>?_
  simp only[aO,j6]at hc;cases hw:Fs g with
  | none=>exact bf
  | some w=>exact adk hw (S.e Γ X aa ab 0 _ G) (S.a Γ X aa ab _ _ G) (qB hc.1.1) (Pl hp hc.2) hc.1.2 (bM De.1 _ _) (iy De.2 _ _)
 | _=>exact bf
def ZT(Γ:Gm)(X:Cx)(aa:Hp)(ab:Fz)(m:Nat)(e:Expr)(G:GOk Γ X aa ab):PE X e (tE X aa ab (bP (n+1) Γ m e)):=by
 cases e with
 | Constant c=>cases c<;>first | exact bf | exact Yp | exact acT | exact Yo | exact Yq
 | Name x =>
  show PE X _ (tE X aa ab (Vl Γ x));unfold Vl;split
  ·rename_i hn;split
   ·rename_i hv;split
    ·rename_i i hi;exact Rg i (vw G hn hv hi)
    ·exact bf
   ·split
    ·rename_i hg;split
     ·rename_i q hq;obtain⟨u,v,g1,g2,g3⟩:=G.cons _ q hq;exact Aa (EL (G.lb hg) g1 g2 (kx hn).1) g3
     ·exact bf
    ·exact bf
  ·exact bf
 | BinOp a op b =>
  show PE X _ (tE X aa ab (match Pk op with | some g=>op2 g (bP n Γ 0 a) (bP n Γ 0 b) | none=>cz))
  cases h1:Pk op with
  | none=>exact bf
  | some=>exact acU (Lr h1) (S.e Γ X aa ab 0 _ G) (S.e Γ X aa ab 0 _ G)
 | UnaryOp op=>cases op with
  | Not=>exact Yx (S.e Γ X aa ab 0 _ G)
  | USub=>exact YM (S.e Γ X aa ab 0 _ G)
  | _=>exact bf
 | BoolOp=>exact S.b Γ X aa ab _ _ _ G
 | Compare=>exact S.k Γ X aa ab _ _ _ _ G
 | IfExp=>exact acX (S.t Γ X aa ab _ G) (S.e Γ X aa ab m _ G) (S.e Γ X aa ab m _ G)
 | Tuple=>exact Yz (S.a Γ X aa ab m _ G)
 | List=>cases m with
  | zero=>exact YA (S.a Γ X aa ab 0 _ G)
  | succ=>exact Ug (S.a Γ X aa ab _ _ G)
 | Dict ks vs=>rcases ks with _ | _<;>rcases vs with _ | _<;>first | exact Zc _ | exact bf
 | Subscript=>exact S.x Γ X aa ab _ _ _ G
 | ListComp=>exact(S.c Γ X aa ab m _ _ _ _ G).1
 | Attribute =>
  show PE X _ (tE X aa ab (ite _ _ _));split
  ·rename_i hb;exact Ze (S.e Γ X aa ab 0 _ G) (qB hb)
  ·exact bf
 | Call f as ks=>cases as with
  | cons=>cases ks with
   | cons=>exact bf
   | nil =>
    show PE X _ (tE X aa ab (ite _ _ _));split
    ·rename_i hp;exact S.f Γ X aa ab m _ _ _ _ G hp
    ·exact bf
  | nil=>cases ks with
   | cons=>cases f<;>exact bf
   | nil=>cases f with
    | Attribute =>
     show PE X _ (tE X aa ab (ite _ _ _));split
     ·rename_i hc;rw[aO]at hc;split
      ·rename_i hx;have hx:=bj hx;subst hx;exact Zw (S.e Γ X aa ab 0 _ G) (qB hc.1) hc.2
      split
      ·rename_i w hw;exact Y9 hw (S.e Γ X aa ab 0 _ G) (qB hc.1) hc.2
      ·exact bf
     ·exact bf
    | _=>exact bf
 | _=>exact bf
end
theorem snd:∀n:Nat,Snd n
 | 0=>LN
 | n+1 =>
  have S:=snd n
  ⟨ZT S,ZS S,ZQ S,ZR S,Vv S,Vs S,ZM S,Vt S,Vu S,ZK S,ZN S,ZL S,ZG S,ZH S,ZI S,ZJ S,ZO S,ZP S⟩
structure SOk (Γ:Gm) (X:Cx) (aa:Hp) (ab:Fz):Prop extends GOk Γ X aa ab where
 never:PassesOwn (model X.prog X.w) X.A X.env X.xe
def Vw:Expr->Bool
 | .ListComp _ _ _ _=>true
 | _=>false
def Pp:G2:=su (λ_ _=>true) λi j=>.int (i+j)
def Vx:Operator->Option G2
 | .Add=>some Pp
 | _=>none
noncomputable def sI{c:Prop} [Decidable c] (h:c->PS X e (tS X aa ab f)):PS X e (tS X aa ab (if c then f else cz)):=by
 split
 ·exact h ‹_›
 ·exact ji
section
variable {Γ:Gm} {X:Cx} {x:Str} {p sp:Pos} {e:Expr} {op:Operator} {i:Nat} {aa:Hp} {ab:Fz} {fe:Gx PV} {g:G2}
def Pq(h:Vx op=some g):xu X (inplaceOp op) g:=by
 cases op<;>cases h
 exact gO (Ae NI) (λ_ _ _=>trivial) λ_ _ _=>aG.mpr rfl
def Pr{st:cC}(h:rd i st=some r):∃p,st.ρ[i]?=some (some p)/\r=(.ok p,st):=by
 obtain⟨p,e1,e2⟩:=bt h;cases z:st.ρ[i]? with
 | none=>rw[z]at e1;cases e1
 | some o =>
  rw[z]at e1;cases o with
  | none=>cases e1
  | some p'=>cases e1;exact⟨p,rfl,e2.symm⟩
def ZU(ho:xu X (inplaceOp op) g)(he:PE X e (tE X aa ab fe))(hN:X.N.Nodup)(hi:X.N[i]?=some x)(hx:QL X.env.scope x)(hf:X.fn x=true\/X.env.scope.names.lookup x=some .local):PS X (.AugAssign (.Name x p) op e sp) (tS X aa ab (dc (op2 g (rd i) fe) (aR i))):=by
 refine(Te hN hi hx he (λae s σ H x y v u Q I r1 r2 t=>ho ae s σ H x y v u Q I r1 r2 t) hf).imp λD σ H h=>?_
 obtain⟨F,st,R,h⟩:=qx h;obtain⟨r,e1,e2⟩:=At.bnd h;obtain⟨q,e3,rfl⟩:=Pr e1;obtain⟨v,h3,h4⟩:=R.l.av i q e3;refine⟨v,h3,F,st,R,Tx.bnd (e2) λy w F1 br H1 R1 g1 b1 h1=>?_⟩
 obtain⟨z,hz,k⟩:=h1.hp;exact⟨aa,ab,F1,br,σ,q,y,z,hz,R1,h4.mono g1,b1,k⟩
def AR(G:GOk Γ X aa ab)(hs:slot Γ x=some i)(hx:W0 Γ x=true)(he:PE X e (tE X aa ab fe))(hsw:swapsWith e (some (.Name x p)) sp.line X.env=pure false):PS X (.Assign [.Name x p] e sp) (tS X aa ab (dc fe (aR i))):=by
 obtain⟨h1,h2⟩:=G.Vj hx;exact(Td G.nd (G.sU hs) h1 he hsw h2).imp λD σ H h=>qx h
def DP :
  (swapsWith (.ListComp elt gens scope cp) (some (.Name x p)) sp.line X.env=pure true/\X.env.scope.names.lookup x=some .local)\/swapsWith (.ListComp elt gens scope cp) (some (.Name x p)) sp.line X.env=pure false:=by
 have e:swapsWith (.ListComp elt gens scope cp) (some (.Name x p)) sp.line X.env=pure (X.env.blockKind==.function&&X.env.kindOf x==some .local&&p.line==(Expr.ListComp elt gens scope cp).pos.line&&!(scope.names.any fun(n,k)=>n==x&&(k==.local || k==.cell))):=rfl
 rw[e];cases hb:(X.env.blockKind==.function&&X.env.kindOf x==some .local&&p.line==(Expr.ListComp elt gens scope cp).pos.line&&!(scope.names.any fun(n,k)=>n==x&&(k==.local || k==.cell)))with
 | true =>
  refine .inl ⟨rfl,?_⟩;simp only[aO]at hb;exact bj hb.1.1.2
 | false=>exact .inr rfl
def HR(h:(l9 e || Vw e)=true)(l:Nat)(env:Env):swapsWith e (some (.Attribute a x p)) l env=pure false:=by
 cases e<;>first | rfl | cases h
def DQ(h:qA k=true)(env:Env)(v:Value):assign (.Subscript o k p) env v=(do
   let ov <-holding [v] (eval o env)
   let iv <-holding [v,ov] (eval k env)
   standAt p
   holding [v,ov,iv] (setItem ov iv v)
   release [v,ov,iv] []):=by
 cases k<;>first | rfl | cases h
def DR(env:Env):swappedStores [.Subscript o k p] e env=pure none:=by
 cases e<;>rfl
end
def ZV:Nat:=8000000
def isD(Γ:Gm):Expr->Bool
 | .Name x _=>md Γ x==3
 | _=>false
def RET:Str:="[return]"
def asName(n:Nat)(Γ:Gm)(x:Str)(e:Expr):Gx dB:=if(W0 Γ x&&(l9 e || Vw e))=true then(match slot Γ x with | some i=>dc (bP n Γ (md Γ x) e) (aR i) | none=>cz)else cz
noncomputable def RN(n:Nat)(Γ:Gm)(tg e:Expr):Gx dB:=match tg with
 | .Name x _=>asName n Γ x e
 | .Tuple ts k p=>if FI e=true then(match yc n Γ (.Tuple ts k p)with | some g=>dc (bP n Γ 0 e) g.1 | none=>cz)else cz
 | .Subscript o k _=>if(qA k&&l9 e)=true then O3 (bP n Γ (ZE Γ o) e) (bP n Γ 0 o) (bP n Γ 0 k)else cz
 | .Attribute o f _=>if(l9 e || Vw e)=true then U3 Γ.clss Γ.flds f (bP n Γ (md Γ f) e) (bP n Γ 0 o)else cz
 | _=>cz
noncomputable def RO(n:Nat)(Γ:Gm)(tg:Expr)(op:Operator)(e:Expr):Gx dB:=match tg with
 | .Name x _=>if W0 Γ x=true then(match slot Γ x,Vx op with | some i,some g=>dc (op2 g (rd i) (bP n Γ 0 e)) (aR i) | _,_=>cz)else cz
 | _=>cz
mutual
noncomputable def Vy:Nat->Gm->Stmt->Gx dB
 | 0,_,_=>cz
 | n+1,Γ,st=>match st with
  | .Pass _=>aY .nx
  | .Break _=>aY .bk
  | .Continue _=>aY .ct
  | .Return none _=>aY (.rt .bQ)
  | .Return (some e) _=>retS (bP n Γ (md Γ RET) e)
  | .If c a b _=>fG (uL n Γ c) (kz n Γ a) (kz n Γ b)
  | .While c b [] _=>jC (uL n Γ c) (kz n Γ b) ZV
  | .For tg iter body [] _=>if bD iter=true then(match yc n Γ tg with | some g=>if isD Γ iter=true then OY (bP n Γ 0 iter) g.1 (kz n Γ body)else As (LM n Γ tg iter) g.1 (kz n Γ body) | none=>cz)else cz
  | .Expr e _=>if l9 e=true then g9 (bP n Γ 0 e)else cz
  | .Assign [tg] e _=>RN n Γ tg e
  | .AugAssign tg op e _=>RO n Γ tg op e
  | _=>cz
termination_by structural n=>n
noncomputable def kz:Nat->Gm->List Stmt->Gx dB
 | 0,_,_=>cz
 | n+1,Γ,[]=>aY .nx
 | n+1,Γ,[st]=>Vy n Γ st
 | n+1,Γ,st::W2=>eE (Vy n Γ st) (kz n Γ W2)
termination_by structural n=>n
end
structure adV (n:Nat):Prop where
 s:∀Γ X aa ab st,SOk Γ X aa ab->PS X st (tS X aa ab (Vy n Γ st))
 ss:∀Γ X aa ab W2,SOk Γ X aa ab->PSs X W2 (tS X aa ab (kz n Γ W2))
def Vz:PSs X s (tS X aa ab cz):=λ_ _ _ _ _ _ ⟨F,st,R,r,z,_⟩=>by cases z
def VA(G:GOk Γ X aa ab):PS X (.Assign [tg] e sp) (tS X aa ab (RN n Γ tg e)):=by
 have S:=snd n;cases tg with
 | Name x p =>
  refine sI λhc=>?_
  rw[aO]at hc;cases hi:slot Γ x with
  | none=>exact ji
  | some i =>
   rcases CB _ _▸hc.2 with hn | hl
   ·exact AR G hi hc.1 (S.e Γ X aa ab _ _ G) (iw hn _ _ _)
   ·cases e<;>try (exact absurd hl d9)
    rcases DP with⟨z,hl⟩ | z
    ·cases n with
     | zero=>exact yj
     | succ n=>exact((snd n).c Γ X aa ab _ _ _ _ _ G).2 i x p sp (G.sU hi) hl z
    ·exact AR G hi hc.1 (S.e Γ X aa ab _ _ G) z
 | Tuple ts k tp =>
  refine sI λhc=>?_
  cases h1:yc n Γ (.Tuple ts k tp)with
  | none=>exact ji
  | some g =>
   obtain⟨g1,g2,g3,g4⟩:=kR G n _ g h1;refine YE (S.e Γ X aa ab _ _ G) g1 (iw (yb hc) (some (Expr.Tuple ts k tp)) sp.line X.env) ?_ (g3 _);cases e<;>first | rfl | cases hc
 | Subscript o k tp =>
  refine sI λhc=>?_
  rw[aO]at hc;exact Zb G.un (S.e Γ X aa ab _ _ G) (S.e Γ X aa ab _ _ G) (S.e Γ X aa ab _ _ G) (DQ hc.1 _) (iw hc.2 (some (Expr.Subscript o k tp)) sp.line X.env) (DR _)
 | Attribute=>exact sI λhc=>Zf G.RK (S.e Γ X aa ab _ _ G) (S.e Γ X aa ab _ _ G) (HR hc _ _)
 | _=>exact ji
def VB(G:GOk Γ X aa ab):PS X (.AugAssign tg op e sp) (tS X aa ab (RO n Γ tg op e)):=by
 cases tg with
 | Name x p =>
  refine sI λhc=>?_
  cases h1:slot Γ x with
  | none=>exact ji
  | some i=>cases h2:Vx op with
   | none=>exact ji
   | some g =>
    obtain⟨l1,l2⟩:=G.Vj hc;exact ZU (Pq h2) ((snd n).e Γ X aa ab _ _ G) G.nd (G.sU h1) l1 l2
 | _=>exact ji
theorem sns:∀n:Nat,adV n
 | 0=>⟨λ_ _ _ _ _ _=>ji,λ_ _ _ _ _ _=>Vz⟩
 | n+1=>by
  have T:=sns n;have S:=snd n;refine⟨λΓ X aa ab st G=>?_,λΓ X aa ab W2 G=>?_⟩
  ·cases st with
   | Pass=>exact Uj
   | Break=>exact Oi
   | Continue=>exact Uk
   | Return e=>cases e with
    | none=>exact Ul
    | some e=>exact YB (S.e Γ X aa ab _ _ G.toGOk)
   | If=>exact acY (S.t Γ X aa ab _ G.toGOk) (T.ss Γ X aa ab _ G) (T.ss Γ X aa ab _ G)
   | While c b o=>cases o with
    | nil=>exact Om ZV G.never (S.t Γ X aa ab _ G.toGOk) (T.ss Γ X aa ab _ G)
    | cons=>exact ji
   | For tg iter body o=>cases o with
    | cons=>exact ji
    | nil =>
     refine sI λhp=>?_
     cases h1:yc n Γ tg with
     | none=>exact ji
     | some g =>
      show PS X _ (tS X aa ab (ite _ _ _));split
      ·exact US G.never G.calm (S.e Γ X aa ab _ _ G.toGOk) (kR G.toGOk n _ g h1).1 (T.ss Γ X aa ab _ G) (gq hp _)
      ·exact UP G.never G.calm (S.i Γ X aa ab _ _ G.toGOk) (kR G.toGOk n _ g h1).1 (T.ss Γ X aa ab _ G) (gq hp _)
   | Expr=>exact sI λhc=>Um (S.e Γ X aa ab _ _ G.toGOk) (iw hc _ _ _)
   | Assign ts=>rcases ts with _ | ⟨_,_ | _⟩<;>first | exact VA G.toGOk | exact ji
   | AugAssign=>exact VB G.toGOk
   | _=>exact ji
  ·rcases W2 with _ | ⟨st,_ | _⟩
   ·exact Uh
   ·exact Ui (T.s Γ X aa ab st G)
   ·exact Oh (T.s Γ X aa ab st G) (T.ss Γ X aa ab _ G)
def DS:Nat:=120
abbrev CT:=Str->oE
def noFn:CT:=λ_ _ _=>none
def VC(P:Pg):List (Str×Nat):=P.cls.map λd=>(d.1,(params d.2).length)
def VD(P:Pg)(x:Str)(st:Stmt)(cls:List (Str×Nat))(make:CT)(uo:Option ((PV->Gx PV)->Nat->oE))(xZ:Option (Nat×(PV->Gx PV)))(c:CT):Gm where
 sc:=(au st).names
 N:=cu st
 own:=true
 fns:=P.defs.map λd=>(d.1,(params d.2).length)
 call:=c
 cons:=P.cons
 dA:=P.dA
 tabs:=P.tabs
 cls:=cls
 make:=make
 clss:=P.cls.map (·.1)
 flds:=P.flds
 Xf:=(P.Xf.lookup x).getD []
 uo:=uo
 xZ:=xZ
def rdI(P:Pg)(C:Str)(st:Stmt)(c:CT):Gx dB:=kz DS (VD P C st [] noFn none none c) (dk st)
def W3(P:Pg)(c:CT):CT:=λC=>match P.cls.lookup C with | some st=>dU (rdI P C st c) (cu st).length | none=>λ_ _=>none
def VE(P:Pg)(st:Stmt)(c:CT)(ω:PV->Gx PV)(n:Nat):Gx dB:=kz DS (VD P "spread" st [] noFn none (some (n,ω)) c) (dk st)
def VF(P:Pg)(x:Str)(c:CT):Option ((PV->Gx PV)->Nat->oE):=if P.om.contains x=true then(P.defs.lookup ("spread":Str)).map λst=>λω n=>dU (VE P st c ω n) (cu st).length else none
def RP(P:Pg)(x:Str)(st:Stmt)(c:CT):Gx dB:=kz DS (VD P x st (VC P) (W3 P c) (VF P x c) none c) (dk st)
def run(P:Pg):Nat->CT
 | 0=>noFn
 | k+1=>λx=>match P.defs.lookup x with | some st=>dU (RP P x st (run P k)) (cu st).length | none=>λ_ _=>none
def VG{P:Pg}{k:Nat}{x:Str}{st:Stmt}(h:P.defs.lookup x=some st):run P (k+1) x=dU (RP P x st (run P k)) (cu st).length:=by
 show(match P.defs.lookup x with | some st=>dU (RP P x st (run P k)) (cu st).length | none=>λ_ _=>none)=_
 rw[h]
theorem kA{α β:Type}(g:α->β)(x:Str):∀l:List (Str×α),(l.map λd=>(d.1,g d.2)).lookup x=(l.lookup x).map g
 | []=>rfl
 | (n,a)::r=>by
  rw[aM,j8,j8];cases x==n with
  | true=>rfl
  | false=>exact kA g x r
section
variable {prog:Program} {w:World} {K:W.Frag} {mg:Str->Option Value} {base:Heap}
def DT{x:Str}{c T:Addr}(h:W.tabIn K x=some (c,T)):∃f oc od fd yV,W.nsIn K mainGlobals x=some (some (.ref f))/\K.lookup f=some ⟨oc,od,.func fd,yV⟩/\fd.code=.ref c:=by
 unfold W.tabIn at h;split at h
 ·grind
 ·cases h
structure VH (P:Pg) (w:World) (K:W.Frag) (mg:Str->Option Value):Prop where
 fns:∀x st,P.defs.lookup x=some st->∃f fd,CG K x x st f fd/\gK K fd (params st) []/\mg x=some (.ref f)/\dG (cu st) (params st) (au st)
 cons:∀x p,P.cons.lookup x=some p->∃u v,mg x=some u/\RelV v u/\∀F,bN K F p v
 dA:∀x,P.dA.contains x=true->mg x=none
 tabs:∀T rows,P.tabs.lookup T=some rows->Ft K mg w.params T rows
 ns:∀x a,W.nsIn K mainGlobals x=some (some (.ref a))->mg x=some (.ref a)
 RK:La K (P.cls.map (·.1)) P.flds
 cls:∀C st,P.cls.lookup C=some st->∃Ca f fd,ClsAt K C (.ref Ca)/\GL K Ca/\Mk K Ca f/\mg C=some (.ref Ca)/\CG K "__init__" (C++".__init__") st f fd/\gK K fd (params st) []/\dG (cu st) (params st) (au st)
 uo:∀x st,P.defs.lookup x=some st->P.om.contains x=true->x∈dq/\(∃c T,W.tabIn K x=some (c,T)/\W.codeHdIn K c T=true)/\∀st,P.defs.lookup ("spread":Str)=some st->(params st).length=2
def FR(P:Pg)(prog:Program)(w:World)(K:W.Frag)(mg:Str->Option Value)(base:Heap)(k:Nat):Prop:=∀(x:Str) (st:Stmt) (f:Addr) (fd:FuncData),P.defs.lookup x=some st->mg x=some (.ref f)->CG K x x st f fd->dG (cu st) (params st) (au st) ->
 FnOk prog w K mg base (i9 prog w) (3*k) f fd (params st) (HF K (params st).length (run P k x))
section
variable {P:Pg} (O:VH P w K mg) {k:Nat} (ih:FR P prog w K mg base k)
include O ih
def RQ{X:Cx}(h1:X.prog=prog)(h2:X.w=w)(h3:X.K=K)(h4:X.mg=mg)(h5:X.base=base):Vi X (3*k) (P.defs.map λd=>(d.1,(params d.2).length)) (run P k):=λy n hy=>by
 subst h1 h2 h3 h4 h5;rw[kA (λst=>(params st).length)]at hy
 obtain⟨aB,h1,h2⟩:=bt hy;subst h2;obtain⟨f',VI,F1,B1,m1,S1⟩:=O.fns y aB h1;exact⟨3*k,f',VI,params aB,ao _,ih y aB f' VI h1 m1 F1 S1,m1,F1.kp,B1⟩
def LO{st:Stmt}{x q:Str}{f:Addr}{cZ:Value}{A:Around}{aA:List Env}{s:Shared}{H aa:Hp}{ab:Fz}{E:XK}{cls:List (Str×Nat)}{make:CT}{uo:Option ((PV->Gx PV)->Nat->oE)}{xZ:Option (Nat×(PV->Gx PV))}{j:Nat}(S:dG (cu st) (params st) (au st))
  (hr:dM j (A.deeper (envOfC q (au st) s.heap.objs.size f cZ))) (hj:3*k<=j) (hcl:∀C n,cls.lookup C=some n->∃k' Ca f' fd ps,ClsAt K C (.ref Ca)/\GL K Ca/\Mk K Ca f'/\FnOk prog w K mg base (i9 prog w) k' f' fd ps (HF K n (make C))/\dM (k'+1) (A.deeper (envOfC q (au st) s.heap.objs.size f cZ))/\mg C=some (.ref Ca)/\gK K fd ps [])
  (Le:∀rs,uo=some rs->Ls (VD P x st cls make uo xZ (run P k)) (fF (i9 prog w) prog w K mg base (cu st) q (au st) f cZ A aA s H E) rs)
  (adW:∀n ω,xZ=some (n,ω)->AE (fF (i9 prog w) prog w K mg base (cu st) q (au st) f cZ A aA s H E) aa ab n ω) :
  SOk (VD P x st cls make uo xZ (run P k)) (fF (i9 prog w) prog w K mg base (cu st) q (au st) f cZ A aA s H E) aa ab:=by
 refine⟨⟨rfl,rfl,S.nd,S.kind,rfl,hr.hd,?_,λ_ _=>rfl,λy n hy=>?_,O.cons,O.dA,O.tabs,O.ns,O.RK,hcl,Le,adW⟩,PassesOwn.leaving⟩
 ·have:=hr.un;show(A.deeper _).units+1150<cLine
  lia
 ·obtain⟨i,f',VI,ps,h1,h2,h3,h4,h5⟩:=RQ (X:=fF (i9 prog w) prog w K mg base (cu st) q (au st) f cZ A aA s H E) O ih rfl rfl rfl rfl rfl y n hy;exact⟨i,f',VI,ps,h2,hr.mono (bE h1 hj),h3,h4,h5⟩
def VJ{st:Stmt}{x:Str}{f:Addr}{cZ:Value}{A:Around}{aA:List Env}{s:Shared}{H:Hp}{E:XK}{cls:List (Str×Nat)}{make:CT}{uo:Option ((PV->Gx PV)->Nat->oE)}{xZ:Option (Nat×(PV->Gx PV))}{rs:(PV->Gx PV)->Nat->oE}(h:P.defs.lookup x=some st)(hm:mg x=some (.ref f))(hc:Dv K f cZ)(hB:P.om≠[]->zX mg base)
  (hr:dM (3*k+2) (A.deeper (envOfC x (au st) s.heap.objs.size f cZ))) (hs:VF P x (run P k)=some rs):Ls (VD P x st cls make uo xZ (run P k)) (fF (i9 prog w) prog w K mg base (cu st) x (au st) f cZ A aA s H E) rs:=by
 obtain⟨hl,hs⟩:=bX hs;obtain⟨sp,e1,rfl⟩:=bt hs;obtain⟨hx,⟨c,T,ht,hC⟩,h2⟩:=O.uo x st h hl;obtain⟨fs,RG,F1,B1,m1,S1⟩:=O.fns _ sp e1;refine⟨⟨sp,fs,RG,params sp,cu sp,3*k,VE P sp (run P k),rfl,F1,m1,B1,S1,h2 sp e1,hr,λcZ A aA s H E aa ab n ω Zm ho=>?_,RQ O ih rfl rfl rfl rfl rfl⟩,⟨⟨x,c,T,hx,ht,hC,(by
  obtain⟨f',oc,od,fd,yV,h1,h2,h3⟩:=DT ht;obtain⟨oc',od',VI,ahQ,g1,g2⟩:=hc;have:=O.ns x f' h1;rw[hm]at this;cases this;rw[h2]at g1;cases g1;exact g2.symm.trans h3),rfl⟩,hB (λz=>by grind)⟩⟩
 exact(sns DS).ss _ _ aa ab _ (LO O ih S1 Zm (fL _ _) (λ_ _ z=>by cases z) (λ_ z=>by cases z) λ_ _ z=>by cases z;exact ho)
def ZW{C:Str}{st:Stmt}{f:Addr}{fd:FuncData}(h:P.cls.lookup C=some st)(F:CG K "__init__" (C++".__init__") st f fd)(S:dG (cu st) (params st) (au st)):FnOk prog w K mg base (i9 prog w) (3*k+1) f fd (params st) (HF K (params st).length (W3 P (run P k) C)):=by
 have e:W3 P (run P k) C=dU (rdI P C st (run P k)) (cu st).length:=by
  unfold W3;rw[h]
 rw[e];exact K4 F S λcZ A aA s H E _ hr aa ab=>(sns DS).ss _ _ aa ab _ (LO O ih S hr (ao _) (λ_ _ z=>by cases z) (λ_ z=>by cases z) λ_ _ z=>by cases z)
end
theorem LP{P:Pg}(O:VH P w K mg)(hB:P.om≠[]->zX mg base):∀(k:Nat),FR P prog w K mg base k
 | 0=>λx st f fd h N7 F S=>by
  have no:∀vs H Q E,¬HF K (params st).length (run P 0 x) vs H Q E:=λvs H Q E ⟨_,_,_,_,_,_,_,_,_,_,z,_⟩=>by cases z
  exact⟨λvs H Q E h=>absurd h (no vs H Q E),λA aA s H args us vs Q E _ _ _ _ h=>absurd h (no vs H Q E)⟩
 | k+1=>λx st f fd h N7 F S=>by
  have ih:=LP (P:=P) O hB k;rw[VG h];refine K4 (k:=3*k+2) F S λcZ A aA s H E Ua hr aa ab=>(sns DS).ss _ _ aa ab _ (LO O ih S hr (fL _ _) (λC n hy=>?_) (λrs e=>VJ O ih h N7 Ua hB hr e) λ_ _ z=>by cases z)
  unfold VC at hy;rw[kA (λst=>(params st).length)]at hy
  obtain⟨aB,h1,h2⟩:=bt hy;subst h2;obtain⟨Ca,f',VI,a,c,M,m1,F1,B1,S1⟩:=O.cls C aB h1;exact⟨3*k+1,Ca,f',VI,params aB,a,c,M,ZW O ih h1 F1 S1,hr,m1,B1⟩
def y0(ns:List Int):PV:=.lst (ns.map .int)
theorem AS{F:Fz}:∀ns:List Int,aE K F (ns.map .int) (ns.map V.int)
 | []=>.nil
 | n::r=>.cons (aG.mpr rfl) (AS r)
end
theorem jF{α β:Type} [BEq α] [LawfulBEq α] {k:α} {v:β}:∀{l:List (α×β)},l.lookup k=some v->(k,v)∈l
 | [],h=>by cases h
 | (a,b)::l,h=>by
  rw[j8]at h;cases z:k==a with
  | true =>
   rw[z]at h;cases h;rw[bj z];exact aN
  | false =>
   rw[z]at h;exact aK _ (jF h)
def GN.at{K:W.Frag}{h:Heap}{mg:Str->Option Value}{P:Params}{T:Str}{rows:List (Str×Str)}(x:GN K P T rows)(X:K.In h)(G:h.Ns mainGlobals mg):Ft K mg P T rows:=by
 obtain⟨a,es,n,h1,h2,h3,h4⟩:=x;refine⟨a,es,n,W.mg_of X G h1,h2,h3,λk fn e=>?_⟩
 obtain⟨f,h5,h6⟩:=h4 (k,fn) (jF e);exact⟨f,h5,W.mg_of X G h6,h6⟩
def Jp.at{K:W.Frag}{h base:Heap}{mg:Str->Option Value}(b:Jp K)(X:K.In h)(G:h.Ns mainGlobals mg)(Y:K.In base):zX mg base :=
 let ⟨bm,o,h1,h2,h3,h4,h5⟩:=b;⟨bm,o,W.mg_of X G h1,h2,h3,Y _ _ h4,h5⟩
def AU(K:W.Frag):List (Addr×Str):=dq.filterMap λx=>(W.tabIn K x).map λcT=>(cT.2,zw x)
theorem vD{α β:Type} [BEq α] [LawfulBEq α] {b:α} {q:β}:∀{l:List (α×β)},(l.map (·.1)).Nodup->(b,q)∈l->l.lookup b=some q
 | [],_,h=>nomatch h
 | (a,v)::l,hn,h=>by
  rw[aM,iG]at hn;rw[j8];rcases aU.mp h with e | h'
  ·grind
  ·have:(b==a)=false:=by
    grind
   rw[this];exact vD hn.2 h'
def HS(K:W.Frag):(AU K).map (·.1)=dq.filterMap λx=>(W.tabIn K x).map (·.2):=by
 unfold AU;rw[List.map_filterMap]
 congr 1
 funext x
 cases W.tabIn K x<;>rfl
def mw.tabs{K:W.Frag}{h:Heap}(t:mw K h)(X:K.In h):(∀b q,(AU K).lookup b=some q->h.get? b=some {cls:=.none,data:=.fields #[]}/\isCodeTable h b/\K.lookup b=none)/\∀H:Hp,(∀b q,(AU K).lookup b=some q->H b=some (.CF q))->rL K H:=by
 refine⟨λb q e=>?_,λH hH x hx c T e=>?_⟩
 ·have hm:=jF e;unfold AU at hm;obtain⟨x,hx,e2⟩:=qX.mp hm;obtain⟨cT,e3,e4⟩:=nL.mp e2;cases e4;obtain⟨h1,h2,h3⟩:=t.at_ x hx cT.1 cT.2 e3;obtain⟨o,vs,_,_,_,_,_,_,_,g1,g2,g3,g4,_⟩:=W.codeHd_of_K X h1;exact⟨h2,⟨_,o,vs,g1,g2,g3,g4⟩,h3⟩
 ·refine hH T (zw x) (vD (by rw[HS];exact t.nd) ?_)
  exact qX.mpr ⟨x,hx,by rw[e];rfl⟩
def VL(P:Pg):Bool:=P.om.isEmpty || (match P.defs.lookup ("spread":Str)with | some st=>(params st).length==2 | none=>true)
def adX{P:Pg}{K:W.Frag}{h:Heap}{mg:Str->Option Value}(X:K.In h)(G:h.Ns mainGlobals mg)(hd:∀d∈P.defs,Jo K d.1 d.2)
  (hc:∀d∈P.cons,∃u v,W.nsIn K mainGlobals d.1=some (some u)/\RelV v u/\∀F,bN K F d.2 v) (hb:∀x∈P.dA,W.nsIn K mainGlobals x=some none) {w:World} (ht:∀d∈P.tabs,GN K w.params d.1 d.2) (hcl:∀d∈P.cls,Ss K d.1 d.2 P.flds) (LS:VL P=true) (hlm:∀x∈P.om,Su K x):VH P w K mg where
 fns:=λx st e=>by
  obtain⟨⟨f,fd,a,F,b⟩,s⟩:=hd (x,st) (eH e);exact⟨f,fd,F,.all b,W.mg_of X G a,s⟩
 cons:=λx p e=>by
  obtain⟨u,v,a,r,b⟩:=hc (x,p) (eH e);exact⟨u,v,W.mg_of X G a,r,b⟩
 dA:=λx e=>W.mg_none_of X G (hb x (by simpa using e))
 tabs:=λT rows e=>(ht (T,rows) (jF e)).at X G
 ns:=λx a e=>W.mg_of X G e
 RK:=λC e=>by
  have e:C∈P.cls.map (·.1):=by simpa using e
  obtain⟨d,hd,rfl⟩:=aF.mp e;obtain⟨Ca,f,fd,a,M,c,na,F,b,s⟩:=hcl d hd;exact⟨Ca,a,c,λg hg=>na g (by simpa using hg)⟩
 cls:=λC st e=>by
  obtain⟨Ca,f,fd,a,M,c,na,F,b,s⟩:=hcl (C,st) (eH e);exact⟨Ca,f,fd,a,c,M,W.mg_of X G a,F,.all b,s⟩
 uo:=λx st e hs=>by
  obtain⟨h1,h2⟩:=hlm x (by simpa using hs)
  refine⟨h1,h2,λaB e'=>?_⟩
  unfold VL at LS;rw[e']at LS;rcases Bool.or_eq_true_iff.mp LS with z | z
  ·rw[wJ.mp z]at hs;cases hs
  ·exact bj z
def Yes(o:Option (Rs PV×List az)):Prop:=∃h,o=some (.ok (.bl true),h)
def VM{K:W.Frag}{P:Pg}{k:Nat}{H:Hp}{a:Addr}{ns:List Int}(hr:Yes (run P k "law" [y0 ns] []))(hS:kJ K H a (ns.map V.int)):HF K 1 (run P k "law") [.ref a] H (λv _=>v=.bl true) λ_ _ _=>False :=
 let ⟨h,e⟩:=hr
 ⟨H,⟨H,[]⟩,[],[y0 ns],_,h,⟨cK.refl H,cK.refl H,Gr.refl _,λ_ _ e=>.inl e,λn a e=>by simp at e,rfl,nZ,λn c a e=>by simp at e⟩,λ_ _ e=>.inl e,.cons (gz.mpr ⟨a,_,rfl,hS,AS ns⟩) .nil,rfl,e,λv F' H' _ b=>cj.mp b⟩
def LQ{P:Pg}{N:Nat}{x:Str}{st:Stmt}{l:W.OpenLaw}{q:Program}{loose:List Str}{XP:(Str->Option Value)->Heap->Prop}{YP:World->Heap->Prop}{d:DefRec}(ui:P.defs.lookup ("law":Str)=some st)(hx:params st=[x])
  (hn:l.most=some 63) (hdn:d.name="law") (hdf:d.params.defaults=[]) (hr:dM (3*N) callerA) (LS:VL P=true) (hY:∀(w:World) (h:Heap),YP w h->∃K:W.Frag,K.In h/\Jq P w K/\mw K h)
  (adZ:∀ns:List Int,ns.length<=63->Yes (run P N "law" [y0 ns] [])):W.WalkO q loose XP YP l.row.toRowW d [] (λf vs=>PySem.call f vs):=by
 refine Att.zL hn hdf λw s₀ s₁ mg mb fa o pm cd doc a vs ns G Y ho hd EH N7 J6 J7 eA hg=>?_
 obtain⟨K,KX,T,TH⟩:=hY w _ Y;obtain⟨t1,t2⟩:=TH.tabs KX;have O:=adX KX G.T.g T.hd T.hc T.hb T.ht T.hcl LS T.hlm;obtain⟨⟨f,fd,e0,F,b⟩,s⟩:=T.hd ("law",st) (eH ui);rw[hdn]at N7;have e:=N7.symm.trans (W.mg_of KX G.T.g e0);cases e;rw[hx]at b;refine Ha (CX:=i9 l.prog w) KX G.T.g G.T.b G.T.builtins G.T.nolimit hg t1 t2 J6 J7 (bE eA (by decide)) hr (λbase kb _=>?_) (λs u=>.of_eq (b [u] rfl)) (λH hS=>VM (adZ ns eA) hS) (by rintro _ _ _ ⟨_,_,_,_,_,_,_,_,_,_,_,h,_⟩;exact h)
 have k:=LP (prog:=l.prog) O (λz=>(T.hbm z).at KX G.T.g kb) N "law" st _ fd ui (W.mg_of KX G.T.g e0) F s
 rw[hx]at k;exact k
abbrev Ev{α:Type}(f:Gx α)(s:cC)(a:α)(s':cC):Prop:=f s=some (.ok a,s')
abbrev Ek {α : Type} (f : Gx α) (s : cC) (a : α) : Prop := Ev f s a s
section
variable {α β:Type} {s s1 s2 s3:cC}
def eB(h:Ev f s a s1)(h2:k a s1=r):bnd f k s=r:=by
 show(f s).bind (Yn k)=r;rw[h];exact h2
def eI(h:Ev gc s b s1)(h2:(if b=true then f s1 else g s1)=r):fG gc f g s=r:=eB h (by grind)
def iT(h:Ev gc s true s1)(h2:f s1=r):fG gc f g s=r:=eI h h2
def iF(h:Ev gc s false s1)(h2:g s1=r):fG gc f g s=r:=eI h h2
variable {fa fb fe:Gx PV} {ts:Gx (List PV)} {p q x y z:PV} {ps as:List PV}
def b2(ha:Ev fa s x s1)(hb:Ev fb s1 y s2)(h:g s2.h x y=some z):Ev (op2 g fa fb) s z s2:=eB ha (eB hb (by show(g s2.h x y).map _=_;rw[h];rfl))
def cA(ha:Ev fa s x s1)(hb:Ev ts s1 as s2):Ev (aq fa ts) s (x::as) s2:=eB ha (eB hb rfl)
def tU(h:Ev ts s ps s1)(hl:ps.length<=4000000):Ev (mq .ay ts) s (.ay ps) s1:=eB h (by show(small ps (.nd .ay ps)).map _=_;rw[show small ps (.nd .ay ps)=some (.nd .ay ps)from if_pos hl];rfl)
def lS(h:Ev ts s ps s1)(hl:ps.length<=4000000):Ev (mq .lst ts) s (.lst ps) s1:=eB h (by show(small ps (.nd .lst ps)).map _=_;rw[show small ps (.nd .lst ps)=some (.nd .lst ps)from if_pos hl];rfl)
def bV(ha:Ev ts s as s1)(h:g s1.h as=some z):Ev (gI g ts) s z s1:=eB ha (by show(g s1.h as).map _=_;rw[h];rfl)
def bT(h:Ev fa s (.bl b) s1):Ev (toB fa) s b s1:=eB h rfl
def tR(h:Ev fa s p s1)(ht:pY s1.h p=some b):Ev (gM fa) s b s1:=eB h (by show(pY s1.h p).map _=_;rw[ht];rfl)
def nB(h:Ev gc s b s1):Ev (uD gc) s (!b) s1:=eB h rfl
def clV(ha:Ev ts s as s1)(hl:as.length=n)(hn:(s1.h.isEmpty || ah as)=true)(hc:g as []=some (.ok p,h'))(hf:oF h' p=some q):Ev (bnd ts (bF 0 n g)) s q s1:=eB ha (by
 unfold bF;rw[hn,if_pos (show((0==0)&&true)=true from rfl)]
 unfold oG;rw[if_pos ⟨hl,hn⟩,hc];show(oF h' p).map _=_;rw[hf];rfl)
def ZX(ha:Ev ts s as s1)(hl:as.length=n)(hn:((m==0)&&(s1.h.isEmpty || ah as))=false)(hc:g as s1.h=some (.ok p,h')):Ev (bnd ts (bF m n g)) s p ⟨s1.ρ,h'⟩:=eB ha (by
 unfold bF;rw[hn,if_neg d9];unfold Dw;rw[if_pos hl,hc];rfl)
variable {f g:Gx dB} {r:Option (Rs dB×cC)}
def sq(h:Ev f s .nx s1)(h2:g s1=r):eE f g s=r:=eB h h2
def uM(h:Ev f s (.rt p) s1):eE f g s=some (.ok (.rt p),s1):=eB h rfl
def aS(h:Ev fa s p s1)(ht:t p s1=some s2):Ev (dc fa t) s .nx s2:=eB h (by show(t p s1).map _=_;rw[ht];rfl)
def rS(h:Ev fa s p s1):Ev (retS fa) s (.rt p) s1:=eB h rfl
def dS(h:Ev fa s p s1):Ev (g9 fa) s .nx s1:=eB h rfl
def jT(e:f ⟨gJ n as,h⟩=some (.ok (.rt p),⟨DU,h'⟩)):dU f n as h=some (.ok p,h'):=by
 unfold dU;rw[e];rfl
def VN(e:f ⟨gJ n as,h⟩=some (.ok .nx,⟨DU,h'⟩)):dU f n as h=some (.ok .bQ,h'):=by
 unfold dU;rw[e];rfl
variable {t:Tg} {body:Gx dB}
def fC(ht:t p s=some s1)(hb:Ev body s1 .nx s2)(h:du t body ps s2=r):du t body (p::ps) s=r:=eB (show Ev (stp (t p)) s .nx s1 by show(t p s).map _=_;rw[ht];rfl) (eB hb h)
def fR(ht:t p s=some s1)(hb:Ev body s1 (.rt q) s2):du t body (p::ps) s=some (.ok (.rt q),s2):=eB (show Ev (stp (t p)) s .nx s1 by show(t p s).map _=_;rw[ht];rfl) (eB hb rfl)
def fS(h:Ev fi s (.sq ps) s1)(h2:du t body ps s1=r):As fi t body s=r:=eB h h2
def sV(he:Ev fa s p s1)(hs:xO p=some h):Ev (ik fa) s (.sq h) s1:=eB he (by show(KR s1.h p).map _=_;unfold KR;rw[hs];rfl)
def sG(h:Ev fi s ps s1):Ev (Fj fi) s (.sq ps) s1:=eB h rfl
theorem AV:∀{ps:List PV},(∀p∈ps,bd p h=some (F p,h))->fz bd ps h=some (ps.filterMap F,h)
 | [],_=>rfl
 | p::ps,H=>by
  show(bd p h).bind _=_;rw[H p aN];show(fz bd ps h).map _=_;rw[AV λq hq=>H q (aK _ hq)]
  cases e:F p with
  | none=>rw[List.filterMap_cons_none e];rfl
  | some v=>rw[List.filterMap_cons_some e];rfl
def cQ(hi:Ev fi s (.sq ps) s1)(hl:ps.length<=4000000)(hb:∀p∈ps,bd (bO link s1.ρ) p s1.h=some (F p,s1.h)):Ev (dh false link fi bd) s (.lst (ps.filterMap F)) s1:=eB hi (by
 show(if ps.length<=f9 then fz _ ps s1.h else none).bind _=_
 rw[if_pos (show ps.length<=f9 from hl),AV hb]
 rfl)
def e1(ht:t p ⟨ρ,h⟩=some ⟨sH,h1⟩)(he:Ev fe ⟨sH,h1⟩ q ⟨ρ2,h2⟩):k7 t fe ρ p h=some (some q,h2):=by
 unfold k7;rw[ht,dO,he];rfl
def VO(ht:t p ⟨ρ,h⟩=some ⟨sH,h1⟩)(hw:Ev ft ⟨sH,h1⟩ true ⟨ρ2,h2⟩)(he:Ev fe ⟨ρ2,h2⟩ q ⟨ρ3,h3⟩):k8 t ft fe ρ p h=some (some q,h3):=by
 unfold k8;rw[ht,dO,hw,dO];show(if true=true then(fe ⟨ρ2,h2⟩).bind _ else _)=_
 rw[if_pos rfl,he];rfl
def Pt(ht:t p ⟨ρ,h⟩=some ⟨sH,h1⟩)(hw:Ev ft ⟨sH,h1⟩ false ⟨ρ2,h2⟩):k8 t ft fe ρ p h=some (none,h2):=by
 unfold k8;rw[ht,dO,hw];rfl
end
inductive Sh where
 | num | own | bJ (n:Int) | bz (ps:List Sh)
mutual
def enc:Sh->PV
 | .num=>.ay [.str "num"]
 | .own=>.ay [.str "own"]
 | .bJ n=>.ay [.str "strip",.int n]
 | .bz ps=>.ay [.str "rec",.ay (b8 ps)]
def b8:List Sh->List PV
 | []=>[]
 | s::r=>enc s::b8 r
end
mutual
def lv:Sh->List Sh
 | .num=>[.num]
 | .own=>[.own]
 | .bJ n=>[.bJ n]
 | .bz ps=>gU ps
def gU:List Sh->List Sh
 | []=>[]
 | s::r=>lv s++gU r
end
mutual
def dp:Sh->Nat
 | .bz ps=>qh ps+1
 | _=>0
def qh:List Sh->Nat
 | []=>0
 | s::r=>max (dp s) (qh r)
end
def iQ:Sh->Bool
 | .bz _=>false
 | _=>true
theorem kB:∀l:List Sh,b8 l=l.map enc
 | []=>rfl
 | s::r=>by simp[b8,kB r]
def px(a b:List Sh):b8 (a++b)=b8 a++b8 b:=by simp[kB]
def fW(a:List Sh):(b8 a).length=a.length:=by simp[kB]
theorem sX:∀a b:List Sh,gU (a++b)=gU a++gU b
 | [],b=>by simp[gU]
 | s::r,b=>by simp[gU,sX r b]
mutual
theorem yk:∀s:Sh,∀x∈lv s,iQ x=true
 | .num,x,h=>by simp[lv]at h;subst h;rfl
 | .own,x,h=>by simp[lv]at h;subst h;rfl
 | .bJ n,x,h=>by simp[lv]at h;subst h;rfl
 | .bz ps,x,h=>AW ps x (by simpa[lv]using h)
theorem AW:∀ps:List Sh,∀x∈gU ps,iQ x=true
 | [],x,h=>by simp[gU]at h
 | s::r,x,h=>by
  simp only[gU,bZ]at h;rcases h with h | h
  ·exact yk s x h
  ·exact AW r x h
end
def DV(h:iQ s=true):lv s=[s]/\dp s=0:=by
 cases s with
 | bz _=>cases h
 | _=>exact⟨by simp[lv],by simp[dp]⟩
mutual
theorem dv:∀s:Sh,noRef (enc s)=true
 | .num=>rfl
 | .own=>rfl
 | .bJ _=>rfl
 | .bz ps=>by simp[enc,noRef,ah,qE ps]
theorem qE:∀l:List Sh,ah (b8 l)=true
 | []=>rfl
 | s::l=>by simp[b8,ah,dv s,qE l]
end
def xC(hc:h[n]?=some ⟨.lst,ps⟩)(hq:Dk h q=some qs)(hl:ps.length+qs.length<=4000000):Am (.ref n) [q] ⟨ρ,h⟩=some (.ok .bQ,⟨ρ,h.set n ⟨.lst,ps++qs⟩⟩):=by
 show(Dk h q).bind _=_;rw[hq,dO];show(qb h (.ref n)).bind _=_;have e:qb h (.ref n)=some (n,⟨.lst,ps⟩):=by
  show(h[n]?).bind _=_;rw[hc];rfl
 rw[e,dO];show(((if ps.length+qs.length<=f9 then some (ps++qs)else none).map _).map _)=_
 rw[if_pos (show ps.length+qs.length<=f9 from hl)]
 rfl
def aC(hc:h[n]?=some ⟨.lst,ps⟩)(hl:ps.length<4000000):l0 (iK Al) (.ref n) [q] ⟨ρ,h⟩=some (.ok .bQ,⟨ρ,h.set n ⟨.lst,ps++[q]⟩⟩):=by
 show(qb h (.ref n)).bind _=_;have e:qb h (.ref n)=some (n,⟨.lst,ps⟩):=by
  show(h[n]?).bind _=_;rw[hc];rfl
 rw[e,dO];show(((if ps.length<f9 then some (ps++[q])else none).map _).map _)=_
 rw[if_pos (show ps.length<f9 from hl)]
 rfl
def BW(h1:Ev fo s (.ref n) s1)(hc:s1.h[n]?=some ⟨.lst,ps⟩)(h2:Ev ts s1 as s2)(h3:w (.ref n) as s2=r):Dx "list" w fo ts s=r:=by
 refine eB h1 (eB (a:=()) ?_ (eB h2 h3));show((cX s1.h (.ref n)).bind _).map _=_;have e:cX s1.h (.ref n)=some (.lst,ps):=by
  show(s1.h[n]?).bind _=_;rw[hc];rfl
 rw[e];rfl
def FJ(c:CT):Gx dB:=(g9 (Dx "list" Am (rd 1) (aq (bnd (aq (rd 2) (aY [])) (bF 0 1 (c "leaves"))) (aY []))))
def yl(c:CT):Gx dB :=
 (eE (fG (toB (op2 Ri (op2 bW (rd 0) (aY (.int 0))) (aY (.str "rec"))))
  (retS (mq .ay (aq (rd 0) (aY []))))
  (aY .nx))
  (eE (dc (xy (aY [])) (aR 1))
  (eE (As (ik (op2 bW (rd 0) (aY (.int 1)))) (aR 2) (FJ c))
  (retS (gI Hj (aq (rd 1) (aY [])))))))
def Gives(o:Option (Rs PV×List az))(q:PV):Prop:=∃p h,o=some (.ok p,h)/\oF h p=some q
def DW(hp:noRef p=true):oF h p=some p:=by
 unfold oF;split
 ·rfl
 ·unfold yY;rw[if_pos hp]
theorem pz(X:PV):∀(ps acc:List Sh) (o:Option PV),(∀s∈ps,Gives (c "leaves" [enc s] []) (.ay (b8 (lv s))))->acc.length+(gU ps).length<=4000000 ->
  ∃o',du (aR 2) (FJ c) (b8 ps) ⟨[some X,some (.ref 0),o],[⟨.lst,b8 acc⟩]⟩=some (.ok .nx,⟨[some X,some (.ref 0),o'],[⟨.lst,b8 (acc++gU ps)⟩]⟩)
 | [],acc,o,_,_=>⟨o,by simp[gU];rfl⟩
 | s::r,acc,o,h,hz=>by
  obtain⟨p,h',h1,h2⟩:=h s aN;simp only[gU,bu]at hz;obtain⟨o',ih⟩:=pz X r (acc++lv s) (some (enc s)) (λs hs=>h s (aK _ hs)) (by grind)
  refine⟨o',?_⟩;rw[cg]at ih;refine fC rfl (dS (BW rfl rfl (cA (clV rfl rfl (by simp[ah,dv]) h1 h2) rfl) (xC rfl rfl (by rw[fW,fW];lia)))) ?_
  rw[<-px];exact ih
def kC(h:iQ s=true):dU (yl c) 3 [enc s] []=some (.ok (.ay [enc s]),[]):=by
 cases s with
 | bz _=>cases h
 | _=>kernel_rfl
def DX (h:∀s∈ps,Gives (c "leaves" [enc s] []) (.ay (b8 (lv s)))) (hz:(gU ps).length<=4000000):Gives (dU (yl c) 3 [enc (.bz ps)] []) (.ay (b8 (gU ps))):=by
 obtain⟨o',q⟩:=pz (enc (.bz ps)) ps [] none h (by simpa using hz)
 refine⟨_,_,jT (sq (iF (s1:=⟨[some (enc (.bz ps)),none,none],[]⟩) (bT (by kernel_rfl)) rfl) (sq rfl (sq (fS rfl q) (rS rfl)))),DW ?_⟩
 simp[noRef,qE]
structure er (R:Nat->CT):Prop where
 run:∀k,R (k+1) "leaves"=dU (yl (R k)) 3
mutual
theorem er.all{R:Nat->CT}(A:er R):∀(s:Sh) (k:Nat),dp s<=k->(lv s).length<=4000000->Gives (R (k+1) "leaves" [enc s] []) (.ay (b8 (lv s)))
 | .num,k,_,_=>⟨_,_,by rw[A.run,kC rfl],rfl⟩
 | .own,k,_,_=>⟨_,_,by rw[A.run,kC rfl],rfl⟩
 | .bJ n,k,_,_=>⟨_,_,by rw[A.run,kC rfl],rfl⟩
 | .bz ps,0,hd,_=>by simp[dp]at hd
 | .bz ps,k+1,hd,hz=>by
  simp only[dp]at hd;simp only[lv]at hz;rw[A.run];exact DX (A.each ps k (by lia) hz) hz
theorem er.each{R:Nat->CT}(A:er R):∀ps k,qh ps<=k->(gU ps).length<=4000000->∀s∈ps,Gives (R (k+1) "leaves" [enc s] []) (.ay (b8 (lv s)))
 | [],_,_,_,s,hs=>by cases hs
 | p::r,k,hd,hz,s,hs=>by
  simp only[qh]at hd;simp only[gU,bu]at hz;rcases aU.mp hs with e | e
  ·rw[e];exact er.all A p k (by lia) (by lia)
  ·exact er.each A r k (by lia) (by lia) s e
end
end L2.U
namespace L2.U
open PySem L2
abbrev Rw:=List Int×Int×Int×Sh
noncomputable def m4(k a:Int)(r:Rw):Rw:=(k::r.1,a+r.2.1,r.2.2)
mutual
def tab:Sh->List Rw
 | .num=>[([],0,1,.num)]
 | .own=>[([],0,1,.own)]
 | .bJ n=>[([],0,1,.bJ n)]
 | .bz ps=>([],0,((gU ps).length:Int),.bz ps)::tabs 0 0 ps
def tabs:Nat->Int->List Sh->List Rw
 | _,_,[]=>[]
 | k,a,s::r=>(tab s).map (m4 k a)++tabs (k+1) (a+((lv s).length:Int)) r
end
def sz(s:Sh):Int:=((lv s).length:Int)
def iR:List Sh->Nat
 | []=>0
 | s::l=>(tab s).length+iR l
def LR(h:iQ s=true):tab s=[([],0,1,s)]:=by
 cases s with
 | bz _=>cases h
 | _=>rfl
def AX(s:Sh):∃R,tab s=(([],0,sz s,s):Rw)::R:=by
 cases s with
 | bz ps=>exact⟨tabs 0 0 ps,by simp only[tab,sz,lv]⟩
 | num=>exact⟨[],by simp[tab,sz,lv]⟩
 | own=>exact⟨[],by simp[tab,sz,lv]⟩
 | bJ n=>exact⟨[],by simp[tab,sz,lv]⟩
theorem ie:∀(l:List Sh) (k:Nat) (a:Int),(tabs k a l).length=iR l
 | [],_,_=>rfl
 | s::l,k,a=>by simp[tabs,iR,ie l]
def ym(s:Sh):1<=(tab s).length:=by
 obtain⟨R,e⟩:=AX s;rw[e];simp
theorem AY:∀l:List Sh,l.length<=iR l
 | []=>ao _
 | s::l=>by
  have:=ym s;have:=AY l;simp only[iR,aW]
  lia
mutual
theorem vE:∀s:Sh,(lv s).length<=(tab s).length
 | .num=>by simp[lv,tab]
 | .own=>by simp[lv,tab]
 | .bJ n=>by simp[lv,tab]
 | .bz ps=>by
  have:=DY ps;simp only[lv,tab,aW,ie]
  lia
theorem DY:∀l:List Sh,(gU l).length<=iR l
 | []=>by simp[gU]
 | s::l=>by
  have:=vE s;have:=DY l;simp only[gU,iR,bu]
  lia
end
mutual
theorem RS:∀s:Sh,dp s<=(tab s).length
 | .num=>by simp[dp]
 | .own=>by simp[dp]
 | .bJ n=>by simp[dp]
 | .bz ps=>by
  have:=LU ps;simp only[dp,tab,aW,ie]
  lia
theorem LU:∀l:List Sh,qh l<=iR l
 | []=>by simp[qh]
 | s::l=>by
  have:=RS s;have:=LU l;simp only[qh,iR]
  lia
end
mutual
theorem FK:∀(s:Sh),∀r∈tab s,r.1.length<=dp s
 | .num,r,h=>by simp[tab]at h;subst h;simp
 | .own,r,h=>by simp[tab]at h;subst h;simp
 | .bJ n,r,h=>by simp[tab]at h;subst h;simp
 | .bz ps,r,h=>by
  simp only[tab,aU]at h;rcases h with rfl | h
  ·simp
  ·simp only[dp];exact AZ ps 0 0 r h
theorem AZ:∀l k a,∀r∈tabs k a l,r.1.length<=qh l+1
 | [],_,_,r,h=>by simp[tabs]at h
 | s::l,k,a,r,h=>by
  simp only[tabs,bZ,aF]at h;simp only[qh];rcases h with⟨r0,h0,rfl⟩ | h
  ·have:=FK s r0 h0;simp only[m4,aW]
   lia
  ·have:=AZ l _ _ r h
   lia
end
theorem A0:∀(l:List Sh) (s:Sh),s∈l->(tab s).length<=iR l
 | s::l,t,h=>by
  simp only[iR];rcases aU.mp h with rfl | h
  ·lia
  ·have:=A0 l t h
   lia
def HU(h:s∈ps):(tab s).length<=(tab (.bz ps)).length:=by
 have:=A0 ps s h;simp only[tab,aW,ie]
 lia
noncomputable def Na:Sh->Int->Option (Sh×Int)
 | .bz ps,k=>if 0<=k then(ps[k.toNat]?).map λs=>(s,((gU (ps.take k.toNat)).length:Int))else none
 | _,_=>none
def walk:Sh->Int->List Int->Option (Sh×Int)
 | s,a,[]=>some (s,a)
 | s,a,k::p=>(Na s k).bind λx=>walk x.1 (a+x.2) p
mutual
theorem A1:∀(s:Sh),∀r∈tab s,∀b,walk s b r.1=some (r.2.2.2,b+r.2.1)
 | .num,r,h,b=>by simp[tab]at h;subst h;simp[walk]
 | .own,r,h,b=>by simp[tab]at h;subst h;simp[walk]
 | .bJ n,r,h,b=>by simp[tab]at h;subst h;simp[walk]
 | .bz ps,r,h,b=>by
  simp only[tab,aU]at h;rcases h with rfl | h
  ·simp[walk]
  ·exact vF ps [] r (by simpa[gU]using h) b
theorem vF:∀(BX pre:List Sh),∀r∈tabs pre.length ((gU pre).length:Int) BX,∀b,walk (.bz (pre++BX)) b r.1=some (r.2.2.2,b+r.2.1)
 | [],pre,r,h,b=>by simp[tabs]at h
 | s::BX,pre,r,h,b=>by
  simp only[tabs,bZ,aF]at h;rcases h with⟨r0,h0,rfl⟩ | h
  ·have:=A1 s r0 h0 (b+((gU pre).length:Int));simp only[m4,walk,Na];simp[this]
   lia
  ·have:=vF BX (pre++[s]) r (by simpa[sX,gU]using h) b
   simpa using this
end
end L2.U
namespace L2.U
open PySem PySem.Spec PyProof.Rows
noncomputable def oJ:bB->PV
 | .inl i=>.int i
 | .inr x=>.str x
def cV(ks:List bB):PV:=.ay (ks.map oJ)
def vG:Nat:=3000000
abbrev fH:=List (List bB×Int)
noncomputable def A2(ks:List (List bB))(k:List bB):Bool:=ks.any λj=>decide (j=k)
def eY(ag:fH)(c:Int)(f:List bB):fH:=if A2 (ag.map (·.1)) f=true then ag else ag++[(f,c)]
def dj(ag:fH)(c:Int):List (List bB)->fH
 | []=>ag
 | f::r=>dj (eY ag c f) c r
def oK(ag:fH)(c:Int)(f:List bB):(eY ag c f).length<=ag.length+1:=by
 unfold eY;split
 ·lia
 ·grind
theorem oM(c:Int):∀(l:List (List bB)) (ag:fH),(dj ag c l).length<=ag.length+l.length
 | [],_=>ao _
 | g::l,ag=>by
  have h1:=oM c l (eY ag c g);have h2:=oK ag c g;show(dj (eY ag c g) c l).length<=_;rw[aW]
  lia
def toldP(t:List bB×Int):PV:=.ay (t.1.map oJ++[.int t.2])
def gP(out:List bB->Option (List (List bB))):Nat->Nat->fH->Option fH
 | 0,_,_=>none
 | n+1,k,ag=>match ag[k]? with
  | none=>some ag
  | some t=>(out t.1).bind λfs=>if ag.length+fs.length<f9 then gP out n (k+1) (dj ag k fs)else none
theorem jj [DecidableEq α]:∀(l U:List α),l.Nodup->(∀x∈l,x∈U)->l.length<=U.length
 | [],_,_,_=>dF _
 | x::l,U,hn,hs=>by
  rw[iG]at hn;have hx:=hs x aN;have h1:=jj l (U.erase x) hn.2 λy hy=>(List.mem_erase_of_ne (λz=>hn.1 (by grind))).mpr (hs y (aK _ hy))
  have h2:=List.length_erase_of_mem hx;have h3:=List.length_pos_of_mem hx;rw[aW]
  lia
def m6:A2 ks k=true↔k∈ks:=by
 unfold A2;simp only[List.any_eq_true,j6];exact⟨(by rintro⟨x,h,e⟩;exact e▸h),λh=>⟨k,h,rfl⟩⟩
theorem gu(c:Int):∀(fs:List (List bB)) (ag:fH),∃more:fH,dj ag c fs=ag++more/\(∀t∈more,t.2=c/\t.1∈fs)
 | [],ag=>⟨[],by rw[fq];rfl,λ_ z=>nomatch z⟩
 | f::fs,ag=>by
  obtain⟨more,h1,h2⟩:=gu c fs (eY ag c f);show ∃m,dj (eY ag c f) c fs=ag++m/\_
  by_cases h:A2 (ag.map (·.1)) f=true
  ·have e:eY ag c f=ag:=by unfold eY;rw[if_pos h]
   rw[e]at h1 ⊢;exact⟨more,h1,λt ht=>⟨(h2 t ht).1,aK _ (h2 t ht).2⟩⟩
  ·have e:eY ag c f=ag++[(f,c)]:=by unfold eY;rw[if_neg h]
   rw[e]at h1 ⊢;refine⟨(f,c)::more,by rw[h1];simp,λt ht=>?_⟩
   rcases aU.mp ht with rfl | ht
   ·grind
   ·grind
theorem sY(c:Int):∀(fs:List (List bB)) (ag:fH),(ag.map (·.1)).Nodup->((dj ag c fs).map (·.1)).Nodup
 | [],_,h=>h
 | f::fs,ag,h=>by
  refine sY c fs (eY ag c f) ?_;unfold eY;split
  ·exact h
  ·rename_i hm;rw[cG];refine q8.mpr ⟨h,by simp,λa ha b hb z=>?_⟩
   simp at hb;subst z;rw[hb]at ha;exact hm (m6.mpr ha)
theorem oN(c:Int):∀(fs:List (List bB)) (ag:fH),∀f∈fs,f∈(dj ag c fs).map (·.1)
 | [],_,_,h=>nomatch h
 | g::fs,ag,f,h=>by
  rcases aU.mp h with rfl | h
  ·obtain⟨more,h1,_⟩:=gu c fs (eY ag c f);show f∈(dj (eY ag c f) c fs).map (·.1);rw[h1,cG];refine iB _ ?_;unfold eY;split
   ·rename_i hm;exact m6.mp hm
   ·grind
  ·exact oN c fs (eY ag c g) f h
section
variable (out:List bB->Option (List (List bB))) (eu:List (List bB))
def VP(ag:fH):Prop:=∀(i:Nat) (f:List bB) (c:Int),ag[i]?=some (f,c)->(c = -1/\f∈eu)\/∃(j:Nat) (g:List bB) (d:Int) (fs:List (List bB)),j<i/\c=(j:Int)/\ag[j]?=some (g,d)/\out g=some fs/\f∈fs
def DZ(ag:fH)(k:Nat):Prop:=∀(j:Nat) (g:List bB) (d:Int),j<k->ag[j]?=some (g,d)->∃fs,out g=some fs/\∀f∈fs,f∈ag.map (·.1)
def HV:VP out eu (dj [] (-1) eu):=by
 obtain⟨more,h1,h2⟩:=gu (-1) eu [];rw[fj]at h1;intro i f c e;rw[h1]at e;obtain⟨h3,h4⟩:=h2 _ (dN e);exact .inl ⟨h3,h4⟩
def LV{k:Nat}(h:VP out eu ag)(hk:ag[k]?=some (g,d))(ho:out g=some fs):VP out eu (dj ag (k:Int) fs):=by
 obtain⟨more,h1,h2⟩:=gu k fs ag;have fO:=(cf.mp hk).1;have old:∀{j:Nat} {x:List bB×Int},ag[j]?=some x->(ag++more)[j]?=some x:=λ{j x} e=>by
  rw[iA (cf.mp e).1];exact e
 intro i f c e;rw[h1]at e ⊢;by_cases hi:i<ag.length
 ·rw[iA hi]at e;rcases h i f c e with z | ⟨j,g',d',SV,z1,z2,z3,z4,z5⟩
  ·exact .inl z
  ·exact .inr ⟨j,g',d',SV,z1,z2,old z3,z4,z5⟩
 ·rw[we (by lia)]at e
  obtain⟨h3,h4⟩:=h2 _ (dN e);exact .inr ⟨k,g,d,fs,by lia,h3,old hk,ho,h4⟩
def HW(h:DZ out ag k)(hk:ag[k]?=some (g,d))(ho:out g=some fs):DZ out (dj ag (k:Int) fs) (k+1):=by
 obtain⟨more,h1,h2⟩:=gu k fs ag;have fO:=(cf.mp hk).1;intro j g' d' hj e;rw[h1]at e;rw[iA (bY ‹_› ‹_›)]at e;by_cases hjk:j=k
 ·subst hjk;rw[hk]at e;cases e;exact⟨fs,ho,oN j fs ag⟩
 ·obtain⟨SV,z1,z2⟩:=h j g' d' (by lia) e
  refine⟨SV,z1,λf hf=>?_⟩
  rw[h1,cG];exact iB _ (z2 f hf)
theorem pC(U:List (List bB))(B:Nat)(hB:U.length+B<f9)(hU:∀g∈U,∃fs,out g=some fs/\(∀f∈fs,f∈U)/\fs.length<=B):∀(n k:Nat) (ag:fH),U.length<n+k->k<=ag.length->(ag.map (·.1)).Nodup->(∀t∈ag,t.1∈U)->VP out eu ag->DZ out ag k ->
  ∃res,gP out n k ag=some res/\(res.map (·.1)).Nodup/\(∀t∈res,t.1∈U)/\VP out eu res/\DZ out res res.length/\∃more,res=ag++more
 | n,k,ag,hn,hk,nd,sub,why,done=>by
  have eA:ag.length<=U.length:=by
   have:=jj (ag.map (·.1)) U nd λx hx=>by
    grind
   rwa [ak]at this
  cases n with
  | zero=>lia
  | succ n =>
   cases ht:ag[k]? with
   | none =>
    have hkl:ag.length<=k:=by grind
    refine⟨ag,?_,nd,sub,why,?_,[],by simp⟩
    ·show(match ag[k]? with | none=>some ag | some t=>_)=_
     rw[ht]
    ·grind
   | some t =>
    obtain⟨g,d⟩:=t;have hg:=sub (g,d) (dN ht);obtain⟨fs,h1,h2,h3⟩:=hU g hg;obtain⟨more,m1,m2⟩:=gu k fs ag;have fO:=(cf.mp ht).1;obtain⟨res,r1,r2,r3,r4,r5,RT,r6⟩:=pC U B hB hU n (k+1) (dj ag k fs) (by lia) (by grind) (sY _ _ _ nd) (λt ht'=>by
     grind) (LV out eu why ht h1) (HW out done ht h1)
    refine⟨res,?_,r2,r3,r4,r5,more++RT,by grind⟩
    show(match ag[k]? with | none=>some ag | some t=>(out t.1).bind λfs=>if ag.length+fs.length<f9 then gP out n (k+1) (dj ag k fs)else none)=_
    rw[ht];show((out g).bind λfs=>if ag.length+fs.length<f9 then gP out n (k+1) (dj ag k fs)else none)=_
    rw[h1,dO,if_pos (by lia)]
    exact r1
def sZ(U:List (List bB))(B:Nat)(hB:U.length+B<f9)(hn:U.length<vG)(hU:∀g∈U,∃fs,out g=some fs/\(∀f∈fs,f∈U)/\fs.length<=B)(hf:∀f∈eu,f∈U) :
  ∃res,gP out vG 0 (dj [] (-1) eu)=some res/\(res.map (·.1)).Nodup/\(∀t∈res,t.1∈U)/\VP out eu res/\DZ out res res.length/\∀f∈eu,f∈res.map (·.1):=by
 obtain⟨more,h1,h2⟩:=gu (-1) eu [];obtain⟨res,r1,r2,r3,r4,r5,RT,r6⟩:=pC out eu U B hB hU vG 0 (dj [] (-1) eu) (B7 ‹_›) (dF _) (sY _ _ _ nZ) (λt ht=>by
  grind) (HV out eu) (λj g d hj=>absurd hj (CD _))
 exact⟨res,r1,r2,r3,r4,r5,λf hff=>by rw[r6,cG];exact iB _ (oN _ _ _ f hff)⟩
end
def VQ(k:bB):Ai (oJ k)=some k:=by cases k<;>rfl
theorem LW:∀ks:List bB,di Ai (ks.map oJ)=some ks
 | []=>rfl
 | k::ks=>by simp only[aM,di,VQ,LW ks,dO,iH]
def qF(h:ks.length<1000):jd true (cV ks)=some ks:=by
 show(if(ks.map oJ).length<1000 then di Ai (ks.map oJ)else none)=_
 rw[ak,if_pos h,LW]
def LX(k:bB):noRef (oJ k)=true:=by cases k<;>rfl
theorem FL:∀ks:List bB,ah (ks.map oJ)=true
 | []=>rfl
 | k::ks=>by simp[ah,LX,FL ks]
def Pu(ks:List bB):noRef (cV ks)=true:=by simp[cV,noRef,FL]
def hS(hd:List az)(ag:fH):List az:=hd++[⟨.lst,ag.map toldP⟩,⟨.gR true (ag.map (·.1)),ag.map λ_=>.bl true⟩]
section
variable {hd:List az} {ag:fH}
def VR:(hS hd ag)[hd.length]?=some ⟨.lst,ag.map toldP⟩:=by simp[hS]
def ZY:(hS hd ag)[hd.length+1]?=some ⟨.gR true (ag.map (·.1)),ag.map λ_=>.bl true⟩:=by simp[hS]
def RU(h:j<hd.length):(hS hd ag)[j]?=hd[j]?:=by unfold hS;rw[iA h]
def ZZ(a b c:az):(hd++[a,b]).set (hd.length+1) c=hd++[a,c]:=by
 simp_all
def Z0(a b c:az):(hd++[a,b]).set hd.length c=hd++[c,b]:=by
 grind
end
def m7:Gx dB :=
 (fG (toB (op2 (oA true) (rd 4) (rd 1)))
  (eE (O3 (aY (.bl true)) (rd 1) (rd 4))
  (g9 (Dx "list" (l0 (iK Al)) (rd 0) (aq (op2 eU (rd 4) (mq .ay (aq (rd 3) (aY [])))) (aY [])))))
  (aY .nx))
def vH(hf:f.length<1000)(hl:ag.length<4000000) :
  Ev m7 ⟨[some (.ref hd.length),some (.ref (hd.length+1)),x2,some (.int gQ),some (cV f)],hS hd ag⟩ .nx ⟨[some (.ref hd.length),some (.ref (hd.length+1)),x2,some (.int gQ),some (cV f)],hS hd (eY ag gQ f)⟩:=by
 have dr:cX (hS hd ag) (.ref (hd.length+1))=some (.gR true (ag.map (·.1)),ag.map λ_=>.bl true):=by
  show((hS hd ag)[hd.length+1]?).bind _=_;rw[ZY];rfl
 have t:oA true (hS hd ag) (cV f) (.ref (hd.length+1))=some (.bl (!A2 (ag.map (·.1)) f)):=by
  unfold oA;rw[dr];show(jd true (cV f)).map _=_;rw[qF hf];rfl
 unfold m7 eY;cases hm:A2 (ag.map (·.1)) f with
 | true =>
  rw[hm]at t;rw[if_pos rfl];exact iF (bT (b2 rfl rfl t)) rfl
 | false =>
  rw[hm]at t;rw[if_neg d9];refine iT (bT (b2 rfl rfl t)) (sq (s1:=⟨[some (.ref hd.length),some (.ref (hd.length+1)),x2,some (.int gQ),some (cV f)],hd++[⟨.lst,ag.map toldP⟩,⟨.gR true (ag.map (·.1)++[f]),(ag.map λ_=>PV.bl true)++[.bl true]⟩]⟩) ?_ ?_)
  ·refine eB rfl (eB rfl (eB rfl ?_));show(AA (.ref (hd.length+1)) (cV f) (.bl true) _).map _=_;have c:qb (hS hd ag) (.ref (hd.length+1))=some (hd.length+1,⟨.gR true (ag.map (·.1)),ag.map λ_=>.bl true⟩):=by
    show((hS hd ag)[hd.length+1]?).bind _=_;rw[ZY];rfl
   unfold AA;rw[c];show((jd true (cV f)).bind _).map _=_;rw[qF hf];show Option.map _ (if(ag.map (λt:List bB×Int=>t.1)).length<f9 then _ else _)=_
   rw[if_pos (show(ag.map (·.1)).length<f9 by rw[ak];have:f9=4000000:=rfl;lia)]
   unfold qa;rw[show lZ f (ag.map (·.1))=false from hm,if_neg d9]
   show some (Rs.ok dB.nx,cC.mk _ ((hd++_).set (hd.length+1) _))=_;rw[ZZ]
  ·have ad:∀h,eU h (cV f) (.ay [.int gQ])=some (toldP (f,gQ)):=λh=>by
    have e:eU h (cV f) (.ay [.int gQ])=sizeOk ((f.map oJ).length+1) (toldP (f,gQ)):=rfl;rw[e,ak];exact if_pos (show f.length+1<=f9 by have:f9=4000000:=rfl;lia)
   have hT:(hd++[⟨.lst,ag.map toldP⟩,⟨.gR true (ag.map (·.1)++[f]),(ag.map λ_=>PV.bl true)++[.bl true]⟩]:List az)[hd.length]?=some ⟨.lst,ag.map toldP⟩:=by simp
   refine dS (p:=.bQ) (BW rfl hT (cA (b2 rfl (tU (cA rfl rfl) (by simp)) (ad _)) rfl) ((aC hT (by rw[ak];lia)).trans ?_))
   rw[Z0];simp[hS]
theorem vI:∀(fs:List (List bB)) (ag:fH) (o:Option PV),(∀f∈fs,f.length<1000)->ag.length+fs.length<4000000 ->
  ∃o',du (aR 4) m7 (fs.map cV) ⟨[some (.ref hd.length),some (.ref (hd.length+1)),x2,some (.int gQ),o],hS hd ag⟩=some (.ok .nx,⟨[some (.ref hd.length),some (.ref (hd.length+1)),x2,some (.int gQ),o'],hS hd (dj ag gQ fs)⟩)
 | [],ag,o,_,_=>⟨o,rfl⟩
 | f::fs,ag,o,hf,hl=>by
  simp only[aW]at hl;have h2:=oK ag gQ f;obtain⟨o',ih⟩:=vI fs (eY ag gQ f) (some (cV f)) (λg hg=>hf g (aK _ hg)) (by lia)
  exact⟨o',fC rfl (vH (hf f aN) (by lia)) ih⟩
def A3:Gx dB:=As (ik (rd 2)) (aR 4) m7
def Z1(c:CT)(ω:PV->Gx PV)(n:Nat):Gx dB :=
 (eE (g9 (bnd (aq (rd 2) (aq (rd 3) (aq (Lb 1 n ω (cutE (op2 bW (rd 2) (rd 4)) (aY none) (vj (Ah (aY (.int 1)))))) (aq (rd 4) (aY []))))) (bF 0 4 (c "tell_new"))))
  (dc (op2 Pp (rd 4) (aY (.int 1))) (aR 4)))
def VS(c:CT)(ω:PV->Gx PV)(n:Nat):Gx dB :=
 (eE (dc (xy (aY [])) (aR 2))
  (eE (dc (K6 true) (aR 3))
  (eE (g9 (bnd (aq (rd 2) (aq (rd 3) (aq (rd 0) (aq (Ah (aY (.int 1))) (aY []))))) (bF 0 4 (c "tell_new"))))
  (eE (dc (aY (.int 0)) (aR 4))
  (eE (jC (toB (op2 Km (rd 4) (gI gH (aq (rd 2) (aY []))))) (Z1 c ω n) ZV)
  (retS (rd 2)))))))
def A4(hf:∀f∈fs,f.length<1000)(hl:ag.length+fs.length<4000000) :
  dU A3 5 [.ref hd.length,.ref (hd.length+1),.lst (fs.map cV),.int gQ] (hS hd ag)=some (.ok .bQ,hS hd (dj ag gQ fs)):=by
 obtain⟨o',e⟩:=vI fs ag none hf hl;exact VN (fS (sV rfl rfl) e)
theorem s9{all:List (List bB)}(hj:hd[j]?=some ⟨.lst,all.map cV⟩):∀(fs:List (List bB)) (i jE:Nat) (ag:fH) (o:Option PV),all.drop i=fs->(∀f∈fs,f.length<1000)->ag.length+fs.length<4000000->fs.length<jE ->
  ∃o',Ar (aR 4) m7 j jE i ⟨[some (.ref hd.length),some (.ref (hd.length+1)),x2,some (.int gQ),o],hS hd ag⟩=some (.ok .nx,⟨[some (.ref hd.length),some (.ref (hd.length+1)),x2,some (.int gQ),o'],hS hd (dj ag gQ fs)⟩)
 | fs,i,0,ag,o,_,_,_,h=>by lia
 | fs,i,jE+1,ag,o,wZ,hf,hl,hfu=>by
  have fO:=(cf.mp hj).1;have nx:KQ j (hS hd ag) i=some ((all.map cV)[i]?):=by
   unfold KQ;have:cX (hS hd ag) (.ref j)=some (.lst,all.map cV):=by
    show((hS hd ag)[j]?).bind _=_;rw[RU fO,hj];rfl
   rw[this]
  have st:Ar (aR 4) m7 j (jE+1) i ⟨[some (.ref hd.length),some (.ref (hd.length+1)),x2,some (.int gQ),o],hS hd ag⟩=(match KQ j (hS hd ag) i with
   | some (some p)=>bnd (stp (aR 4 p)) (λ_=>bnd m7 (vi (Ar (aR 4) m7 j jE (i+1)))) ⟨[some (.ref hd.length),some (.ref (hd.length+1)),x2,some (.int gQ),o],hS hd ag⟩
   | some none=>some (.ok .nx,⟨[some (.ref hd.length),some (.ref (hd.length+1)),x2,some (.int gQ),o],hS hd ag⟩)
   | none=>none):=rfl
  rw[st,nx,bR];cases fs with
  | nil =>
   have:=List.drop_eq_nil_iff.mp wZ;rw[j0 this];exact⟨o,rfl⟩
  | cons f fs =>
   have hi:i<all.length:=by
    rcases Nat.lt_or_ge i all.length with h | h
    ·exact h
    ·rw[List.drop_eq_nil_of_le h]at wZ;cases wZ
   rw[qQ hi]at wZ;injection wZ with e1 e2
   simp only[aW]at hl hfu;have h2:=oK ag gQ f;obtain⟨o',ih⟩:=s9 hj fs (i+1) jE (eY ag gQ f) (some (cV f)) e2 (λg hg=>hf g (aK _ hg)) (by lia) (by lia)
   refine⟨o',?_⟩;rw[cO hi,e1];exact eB rfl (eB (vH (hf f aN) (by lia)) ih)
def HX(hj:hd[j]?=some ⟨.lst,fs.map cV⟩)(hf:∀f∈fs,f.length<1000)(hl:ag.length+fs.length<4000000) :
  dU A3 5 [.ref hd.length,.ref (hd.length+1),.ref j,.int gQ] (hS hd ag)=some (.ok .bQ,hS hd (dj ag gQ fs)):=by
 obtain⟨o',e⟩:=s9 hj fs 0 f9 ag none rfl hf hl (by have:f9=4000000:=rfl;lia)
 have fO:=(cf.mp hj).1;refine VN (eB (eB rfl ?_) (show YZ (aR 4) m7 (yX.cl j) _=_ from e))
 have:cX (hS hd ag) (.ref j)=some (.lst,fs.map cV):=by
  show((hS hd ag)[j]?).bind _=_;rw[RU fO,hj];rfl
 unfold KR;show Option.map _ (match cX (hS hd ag) (.ref j)with | some (.lst,_)=>some (yX.cl j) | _=>none)=_
 rw[this];rfl
def VT(e:cX h (.ref n)=some (.lst,ps)):bW h (.ref n) (.int i)=L2.mn ps i:=by
 unfold bW;simp only[e];rfl
def LY(ps:List PV)(p:PV):k6 (ps++[p]) none (some (-1))=ps:=by
 unfold k6;have e:HT.eW (ps++[p]).length (ps++[p]).length (some (-1))=ps.length:=by
  simp[HT.eW]
  lia
 rw[HT.zI,e,List.drop_zero,Nat.sub_zero];simp
def cE'(h1:Ev fa s p s1)(h2:Ev fl s1 l s2)(h3:Ev fh s2 h s3)(h4:Ks s3.h l h p=some q):Ev (cutE fa fl fh) s q s3:=eB h1 (eB h2 (eB h3 (by show(Ks s3.h l h p).map _=_;rw[h4];rfl)))
section
variable {c:CT} {hd:List az} {out:List bB->Option (List (List bB))} {ω:PV->Gx PV} {n:Nat} (hc:c "tell_new"=dU A3 5)
  (hω:∀g fs,out g=some fs->(∀f∈fs,f.length<1000)/\∀ag ρ,ω (cV g) ⟨ρ,hS hd ag⟩=some (.ok (.lst (fs.map cV)),⟨ρ,hS hd ag⟩))
include hc hω
theorem A5(p:Option PV):∀(N k jE:Nat) (ag res:fH),gP out N k ag=some res->N<=jE->ag.length<4000000 ->
  ∃k',jC (toB (op2 Km (rd 4) (gI gH (aq (rd 2) (aY []))))) (Z1 c ω n) jE ⟨[p,some (.ref n),some (.ref hd.length),some (.ref (hd.length+1)),some (.int (k:Int))],hS hd ag⟩=some (.ok .nx,⟨[p,some (.ref n),some (.ref hd.length),some (.ref (hd.length+1)),k'],hS hd res⟩)
 | 0,_,_,_,_,h,_,_=>by cases h
 | N+1,k,jE,ag,res,h,hf,hl=>by
  obtain⟨jE,rfl⟩:∃f,jE=f+1:=⟨jE-1,by lia⟩
  have dT:cX (hS hd ag) (.ref hd.length)=some (.lst,ag.map toldP):=by
   show((hS hd ag)[hd.length]?).bind _=_;rw[VR];rfl
  have t:Ek (toB (op2 Km (rd 4) (gI gH (aq (rd 2) (aY []))))) ⟨[p,some (.ref n),some (.ref hd.length),some (.ref (hd.length+1)),some (.int k)],hS hd ag⟩ (decide (k<(ag.length:Int))):=bT (b2 rfl (bV (cA rfl rfl) (by
   have e:YK (hS hd ag) (.ref hd.length)=some ag.length:=by
    unfold YK;rw[dT];show some (ag.map toldP).length=_;rw[ak]
   show Option.map _ (Option.bind (YK (hS hd ag) (.ref hd.length)) _)=_;rw[e];rfl)) rfl)
  have h:(match ag[k]? with | none=>some ag | some t=>(out t.1).bind λfs=>if ag.length+fs.length<f9 then gP out N (k+1) (dj ag k fs)else none)=some res:=h
  cases hk:ag[k]? with
  | none =>
   rw[hk]at h;cases h;have hkl:=lK.mp hk;rw[j9 (by lia)]at t
   exact⟨_,eB t rfl⟩
  | some tt =>
   obtain⟨g,d⟩:=tt;rw[hk]at h;obtain⟨fs,h1,h⟩:=aX h;obtain⟨h2,h⟩:=bX h;have h2:ag.length+fs.length<4000000:=h2;obtain⟨hs,hw⟩:=hω g fs h1;have fO:=(cf.mp hk).1;have tl:=oM k fs ag;obtain⟨k',ih⟩:=A5 p N (k+1) jE (dj ag k fs) res h (by lia) (iC ‹_› ‹_›)
   refine⟨k',?_⟩;rw[dE (by lia)]at t
   have ct:Ks (hS hd ag) none (some (-1)) (toldP (g,d))=some (cV g):=by
    show some (PV.ay (k6 (g.map oJ++[.int d]) none (some (-1))))=_;rw[LY];rfl
   refine eB t ?_;refine eB (sq (dS (ZX (cA rfl (cA rfl (cA (eB rfl (eB (show Option.map _ (if n=n then some ()else none)=_ by rw[if_pos rfl];rfl) (eB (cE' (b2 rfl rfl (by
    rw[VT dT];exact atI_nat (by grind))) rfl rfl ct) (hw ag _)))) (cA rfl rfl)))) rfl (by
    have:(hS hd ag).isEmpty=false:=by simp[hS]
    rw[this];rfl) (by rw[hc];exact A4 hs h2))) (aS (b2 rfl rfl rfl) rfl)) ih
def Pw(hp:p=.lst (fk.map cV)\/∃j,p=.ref j/\hd[j]?=some ⟨.lst,fk.map cV⟩)(hk:∀f∈fk,f.length<1000)(hl:fk.length<4000000)(hs:gP out vG 0 (dj [] (-1) fk)=some res) :
  dU (VS c ω n) 5 [p,.ref n] hd=some (.ok (.ref hd.length),hS hd res):=by
 have tl:=oM (-1) fk [];simp only[wO,fu]at tl;obtain⟨k',e⟩:=A5 hc hω (some p) vG 0 ZV (dj [] (-1) fk) res hs (by decide) (iC ‹_› ‹_›)
 have h0:hS hd []=(hd++[⟨.lst,[]⟩])++[⟨.gR true [],[]⟩]:=by simp[hS]
 have a1:Ev (dc (xy (aY [])) (aR 2)) ⟨[some p,some (.ref n),none,none,none],hd⟩ .nx ⟨[some p,some (.ref n),some (.ref hd.length),none,none],hd++[⟨.lst,[]⟩]⟩:=rfl;have run:c "tell_new" [.ref hd.length,.ref (hd.length+1),p,.int (-1)] (hS hd [])=some (.ok .bQ,hS hd (dj [] (-1) fk)):=by
  rw[hc];rcases hp with rfl | ⟨j,rfl,hj⟩
  ·exact A4 hk (by grind)
  ·exact HX hj hk (by grind)
 have a3:Ev (g9 (bnd (aq (rd 2) (aq (rd 3) (aq (rd 0) (aq (Ah (aY (.int 1))) (aY []))))) (bF 0 4 (c "tell_new")))) ⟨[some p,some (.ref n),some (.ref hd.length),some (.ref (hd.length+1)),none],hS hd []⟩ .nx ⟨[some p,some (.ref n),some (.ref hd.length),some (.ref (hd.length+1)),none],hS hd (dj [] (-1) fk)⟩ :=
  dS (ZX (s1:=⟨[some p,some (.ref n),some (.ref hd.length),some (.ref (hd.length+1)),none],hS hd []⟩) (cA rfl (cA rfl (cA rfl (cA rfl rfl)))) rfl (by
   have:(hS hd []).isEmpty=false:=by simp[hS]
   rw[this];rfl) run)
 exact jT (sq a1 (sq (by
  rw[h0,<-show(hd++[(⟨.lst,[]⟩:az)]).length=hd.length+1 by simp]
  rfl) (sq a3 (sq rfl (sq e (rS rfl))))))
end
end L2.U
namespace c5
open PySem L2 L2.U
abbrev m8:Stmt:=top 16
abbrev Z2:Stmt:=top 82
abbrev kI (n : Int) : Gx PV := aY (.int n)
abbrev kS (s : Str) : Gx PV := aY (.str s)
abbrev Q0 := aq (rd 1) (aY [])
abbrev Q1 := dt (aR 2) (dt (aR 3) pZ)
abbrev Q2 := mq .ay (aq (kS "lent") (aq (kS "sole") (aY [])))
abbrev Q3 := aq (rd 3) (aY [])
abbrev Q4 := op2 bW (rd 1) (kI 1)
abbrev Q5 := op2 bW (rd 1) (op2 bW (rd 0) (kI 0))
abbrev Q6 := dt (aR 4) (dt (aR 5) pZ)
abbrev Q7 := gI gH (aq (rd 2) (aY []))
abbrev Q8 := fG (toB (op2 k0 (rd 2) (op2 bW (rd 4) (kI 1)))) (fG (gM (rd 3)) (aY true) (toB (op2 k0 (rd 5) (kS "lend")))) (aY false)
abbrev Q9 := dc (rd 2) (jB 6 (dt (aR 3) (dt (aR 4) (dt (aR 5) (dt (aR 6) (dt (aR 7) (dt (aR 8) pZ)))))))
abbrev Qa := aq (rd 0) Q0
abbrev Qb := orG (rd 6) (mq .lst (aq (aY (.ay [(.str "rest"),(.str ""),(.bl false),(.int 0),(.int 0),(.str "")])) (aY [])))
abbrev Qc := jB 2 (dt (aR 1) (dt (aR 2) pZ))
abbrev Qd := fG (toB (op2 k0 (op2 bW (rd 2) (kI 0)) (kS "strip"))) (gM (rd 3)) (aY false)
abbrev Qe := aq (op2 bW (rd 2) (op2 bW (rd 0) (kI 0))) (aq Q5 (aq (rd 0) (aY [])))
abbrev Qf := jB 3 (dt (aR 1) Q1)
abbrev Qg := op2 bW (rd 5) (kI 0)
abbrev Qh := op2 bW (rd 0) (rd 1)
abbrev Qi := dh false [none,none] (ik Q5) (k7 (aR 1) (mq .ay Q0))
abbrev Qj := jB 3 (dt (aR 4) (dt (aR 5) (dt (aR 6) pZ)))
abbrev Qk := fG (toB (op2 k0 (rd 2) (rd 4))) (gM (rd 3)) (aY false)
abbrev Ql := toB (op2 Ri (op2 bW (rd 0) (kI 1)) (kS "empty"))
abbrev Qm := aq (mq .ay (aq (kI 0) (aY []))) (aY [])
abbrev Qn := toB (op2 k0 Q4 (kS ""))
abbrev Qo := toB (op2 (oA true) (op2 bW (rd 3) (kI 0)) Q2)
abbrev Qp := op2 eU (rd 4) (kI 1)
abbrev Qq := toB (op2 (oA false) (op2 bW Q4 (kI 0)) Q2)
abbrev Qr := op2 bW (rd 2) (kI 1)
abbrev Qs := aq (rd 6) (aY [])
abbrev Qt := jB 2 Q1
abbrev Qu := ik (rd 3)
abbrev Qv := gI gH (aq (rd 7) (aY []))
abbrev Qw := aq (rd 0) (aq Q4 (aY []))
def VU:List (Str×Nat):=txt.defs.map λd=>(d.1,(params d.2).length)
abbrev Rn(x:Str)(F:CT->Gx dB)(n:Nat):Prop:=∀k,run txt (k+1) x=dU (F (run txt k)) n
open Lean Meta in
dsimproc_decl pqF (Str.mk _):=λe=>do
 let .app _ (.app _ l):=e | return .continue
 let some l <-getListLit? l | return .continue
 return .done (mkApp (mkConst ``Str.ofString) (toExpr (String.ofList (l.toList.map λx=>Char.ofNat (x.nat?.getD 0)))))
open Lean in
dsimproc_decl pqI (Int.ofNat _):=λe=>do
 let .app _ n:=e | return .continue
 let some n:=n.nat? | return .continue
 return .done (toExpr (n:Int))
def gv(x:Str)(i n k:Nat){f:CT->Gx dB}(h:∀k,run txt (k+1) x=dU (RP txt x (top i) (run txt k)) n:=by intro _;kernel_rfl)(e:∀c,RP txt x (top i) c=f c:=by intro c;conv=>(lhs;reduce;simp only[pqF,pqI])):run txt (k+1) x=dU (f (run txt k)) n:=by rw[h,e]
noncomputable def lbP(s:List Stmt):List Nat->List Stmt
 | []=>s
 | i::r=>lbP (match s[i]? with | some (.For _ _ b _ _) | some (.If _ b _ _)=>b | _=>[]) r
def qG(x:Str)(i:Nat)(p:List Nat)(c:CT):Gx dB:=kz DS (VD txt x (top i) (VC txt) (W3 txt c) (VF txt x c) none c) (lbP (dk (top i)) p)
abbrev oO(a:Gx dB){f:Gx dB}(_:a=f:=by conv=>(lhs;reduce;simp only[pqF,pqI])):Gx dB:=f
section
seal eE U3 op2 bW rd bnd aq aY bF dh ik k7 k8 aR g9 Dx Am fG toB Ri retS mq dc xy As gI Hj cz uD chain leO Km gH Pp Hm cutE vj oA k0 eU jB dt pZ gM K6 Ah jC O3 l0 iK Al Lm AB K8 orG Fj vq Hw FC HJ lrg Hg Ve isV YI Hl mkP W3 U2 sL xP YF geO gD uE Hk jc Oq OG Kw Og Lp Lb dU VE OY KN
def D0(k:Nat):=gv "leaves" 5 3 k
def td(k:Nat):=gv "check_part" 6 2 k
noncomputable def LZ(c:CT):=oO (qG "part" 7 [1] c)
def L0(k:Nat):=gv "part" 7 4 k
noncomputable def HY(c:CT):=oO (qG "first" 8 [2] c)
def HZ(k:Nat):=gv "first" 8 5 k
def uN(k:Nat):=gv "is_copied" 9 1 k
noncomputable def A6(c:CT):=oO (qG "kind_of" 12 [0] c)
def A7(k:Nat):=gv "kind_of" 12 4 k
def uO(k:Nat):=gv "is_holder" 13 1 k
def yn(k:Nat):=gv "shape_of" 14 1 k
def yo(k:Nat):=gv "tell_new" 17 5 k
noncomputable def pE(c:CT):=oO (RP txt "row_nexts" (top 28) c)
theorem uP:Rn "row_nexts" pE 3:=λ_=>by kernel_rfl
noncomputable def tf(c:CT):Gx dB :=
 (eE (dc (AB VU c (K8 (λk=>(List.lookup k jw).map .fn) Qg) (aq (rd 2) (aq (rd 5) (aY [])))) (aR 6))
  (g9 (Dx "list" Am (rd 3) (aq (dh false [none,none,some 4] (ik Qb) (k7 (aR 1) (op2 eU (mq .ay (aq (rd 2) (aY []))) (rd 1)))) (aY [])))))
noncomputable def VV(c:CT):Gx dB :=
 (eE (dc Qh (aR 2))
  (eE (dc (xy (aY [])) (aR 3))
  (eE (As (Fj (vq (op2 bW (rd 2) (kI 4)))) (jB 2 Q6) (tf c))
  (retS (rd 3)))))
theorem L3:Rn "acts" VV 7:=λ_=>by kernel_rfl
noncomputable def vJ(c:CT):=oO (qG "nexts" 30 [2] c)
noncomputable def oQ(c:CT):=oO (qG "nexts" 30 [4] c)
def H0(k:Nat):=gv "nexts" 30 7 k
def A8(k:Nat):=gv "come_to" 31 2 k
noncomputable def D1(c:CT):Gx dB :=
 (retS (HJ (λω n=>dU (VE txt m8 c ω n) 5) (mq .lst Qm) Qi [some 0]))
theorem yp:Rn "arrivals" D1 1:=λ_=>by kernel_rfl
def A9(k:Nat):=gv "touched" 33 1 k
def Ba(k:Nat):=gv "touches" 34 3 k
def H9(k:Nat):=gv "touch" 35 6 k
def qi(k:Nat):=gv "touch_whole" 36 4 k
def Bb(k:Nat):=gv "at_acts" 37 2 k
def oR(k:Nat):=gv "operand_acts" 38 2 k
noncomputable def lD(c:CT):=oO (RP txt "target_acts" (top 39) c)
theorem qj:Rn "target_acts" lD 2:=λ_=>by kernel_rfl
def yq(k:Nat):=gv "put_acts" 40 2 k
def yr(k:Nat):=gv "set_acts" 41 2 k
def uQ(k:Nat):=gv "copy_acts" 42 2 k
def uR(k:Nat):=gv "move_acts" 43 2 k
def uS(k:Nat):=gv "drop_acts" 44 2 k
def uT(k:Nat):=gv "lend_acts" 45 2 k
def uU(k:Nat):=gv "call_acts" 46 3 k
def Bc(k:Nat):=gv "arg_act" 47 4 k
def uV(k:Nat):=gv "owner_act" 48 2 k
def Be(k:Nat):=gv "if_acts" 49 2 k
def Bf(k:Nat):=gv "go_acts" 50 2 k
def yt(k:Nat):=gv "say_acts" 51 2 k
def lF(k:Nat):=gv "give_acts" 52 2 k
noncomputable def pF(c:CT):=oO (qG "empties" 55 [3] c)
noncomputable def Ia(c:CT):Gx dB :=
 (eE (dc (bnd Qa (bF 0 2 (c "acts"))) (aR 5))
  (eE (dc (bnd Qa (bF 0 2 (c "nexts"))) (aR 4))
  (eE (dc (bnd (aq Qh (aY [])) (bF 1 1 (c "empty_at_first"))) (aR 2))
  (eE (As (ik (bnd Qa (bF 0 2 (c "come_to")))) (aR 3) (pF c))
  (retS (HJ (λω n=>dU (VE txt m8 c ω n) 5) (rd 2) (bnd Qe (bF 0 3 (c "stays_empty"))) [some 4,some 5]))))))
theorem Bg:Rn "empties" Ia 6:=λ_=>by kernel_rfl
noncomputable def mf(c:CT):=oO (qG "empty_at_first" 56 [1] c)
def mh(k:Nat):=gv "empty_at_first" 56 5 k
noncomputable def Bh(c:CT):=oO (qG "emptied" 57 [2] c)
def Bi(k:Nat):=gv "emptied" 57 4 k
def qk(k:Nat):=gv "stays_empty" 58 3 k
def Ib(k:Nat):=gv "fills" 59 3 k
def yu(k:Nat):=gv "_law_cell_at" 61 2 k
def D2(k:Nat):=gv "_law_mixed" 62 4 k
noncomputable def tj(c:CT):=oO (qG "_law_names" 63 [5,1] c)
noncomputable def tq(c:CT):=oO (qG "_law_names" 63 [5] c)
def D3(k:Nat):=gv "_law_names" 63 10 k
def D4(k:Nat):=gv "_law_shape" 64 4 k
noncomputable def pG(c:CT):=oO (qG "_law_leaves" 65 [2] c)
def pH(k:Nat):=gv "_law_leaves" 65 3 k
noncomputable def tu(c:CT):=oO (qG "_law_parts" 66 [1,0] c)
def tw(k:Nat):=gv "_law_parts" 66 4 k
noncomputable def Ic(c:CT):=oO (qG "_law_lets" 67 [3] c)
def Ie(k:Nat):=gv "_law_lets" 67 8 k
noncomputable def D5(c:CT):=oO (qG "_law_spots" 68 [1,3] c)
noncomputable def D6(c:CT):=oO (qG "_law_spots" 68 [1] c)
def D7(k:Nat):=gv "_law_spots" 68 8 k
noncomputable def m9(c:CT):=oO (qG "_law_numbers" 69 [1] c)
def yv(k:Nat):=gv "_law_numbers" 69 7 k
def yw(k:Nat):=gv "_law_operand" 70 3 k
def yx(k:Nat):=gv "_law_carried" 71 9 k
def yy(k:Nat):=gv "_law_lending" 72 9 k
def Ig(k:Nat):=gv "_law_call" 73 10 k
def tx(k:Nat):=gv "_law_small_row" 74 6 k
def L4(k:Nat):=gv "_law_row" 75 14 k
noncomputable def tD(c:CT):=oO (RP txt "_law_program" (top 76) c)
theorem yz:Rn "_law_program" tD 24:=λ_=>by kernel_rfl
def D8(k:Nat):=gv "_law_whole" 77 1 k
def yA(k:Nat):=gv "_law_is_fact" 78 1 k
def Ih(k:Nat):=gv "_law_ends" 79 3 k
noncomputable def D9(c:CT):=oO (qG "_law_begun" 80 [0,2] c)
noncomputable def Ea(c:CT):=oO (qG "_law_begun" 80 [0] c)
def Eb(k:Nat):=gv "_law_begun" 80 6 k
noncomputable def Ii(c:CT):=oO (qG "_law_left" 81 [1,0] c)
noncomputable def Ij(c:CT):=oO (qG "_law_left" 81 [1] c)
def Ik(k:Nat):=gv "_law_left" 81 5 k
noncomputable def FN(c:CT):=oO (qG "law" 82 [5] c)
noncomputable def FO(c:CT):=oO (qG "law" 82 [9] c)
noncomputable def Px(c:CT):=oO (qG "law" 82 [11] c)
noncomputable def Py(c:CT):=oO (qG "law" 82 [12] c)
def Pz(k:Nat):=gv "law" 82 13 k
noncomputable def Bj(c:CT)(ω:PV->Gx PV)(n:Nat):Gx dB :=
 (eE (g9 (bnd (aq (rd 2) (aq (rd 3) (aq (Lb 1 n ω (cutE (op2 bW (rd 2) (rd 4)) (aY none) (vj (Ah (kI 1))))) (aq (rd 4) (aY []))))) (bF 0 4 (c "tell_new"))))
  (dc (op2 Pp (rd 4) (kI 1)) (aR 4)))
noncomputable def Il(c:CT)(ω:PV->Gx PV)(n:Nat):Gx dB :=
 (eE (dc (xy (aY [])) (aR 2))
  (eE (dc (K6 true) (aR 3))
  (eE (g9 (bnd (aq (rd 2) (aq (rd 3) (aq (rd 0) (aq (Ah (kI 1)) (aY []))))) (bF 0 4 (c "tell_new"))))
  (eE (dc (kI 0) (aR 4))
  (eE (jC (toB (op2 Km (rd 4) Q7)) (Bj c ω n) ZV)
  (retS (rd 2)))))))
theorem Ec(c:CT)(ω:PV->Gx PV)(n:Nat):VE txt m8 c ω n=Il c ω n:=by kernel_rfl
end
abbrev S0(l:List (Option PV)):cC:=⟨l,[]⟩
section
variable {s s1:cC} {ts:Gx (List PV)} {as:List PV} {q:PV}
theorem cY{n:Nat}{g:oE}(ha:Ev ts s as s1)(hl:as.length=n)(hn:(s1.h.isEmpty || ah as)=true)(hc:Gives (g as []) q):Ev (bnd ts (bF 0 n g)) s q s1:=let ⟨_,_,h1,h2⟩:=hc;clV ha hl hn h1 h2
theorem gV{f:Gx dB}{n:Nat}{p:PV}{DU:List (Option PV)}{h':List az}(e:f ⟨gJ n as,[]⟩=some (.ok (.rt p),⟨DU,h'⟩))(hp:noRef p=true):Gives (dU f n as []) p:=⟨p,h',jT e,DW hp⟩
theorem gN{f:Gx dB}{n:Nat}{DU:List (Option PV)}{h':List az}(e:f ⟨gJ n as,[]⟩=some (.ok .nx,⟨DU,h'⟩)):Gives (dU f n as []) .bQ:=⟨.bQ,h',VN e,DW rfl⟩
end
theorem dX(h:List az)(a b:Str):k0 h (.str a) (.str b)=some (.bl (a==b)):=rfl
def W4:Sh->Str
 | .num=>"num"
 | .own=>"own"
 | .bJ _=>"strip"
 | .bz _=>"rec"
theorem pK(h:List az)(s:Sh):bW h (enc s) (.int 0)=some (.str (W4 s)):=by cases s<;>rfl
inductive Kn where
 | ow (s:Sh) | ho (ahW:Bool) (s:Sh)
noncomputable def hw(b:Bool):Str:=if b then "sole" else "lent"
def de:Kn->PV
 | .ow s=>enc s
 | .ho b s=>.ay [.str (hw b),enc s]
def b9:Kn->Sh
 | .ow s=>s
 | .ho _ s=>s
noncomputable def gw:Kn->Bool
 | .ow _=>false
 | .ho _ _=>true
theorem qH(d:Kn):noRef (de d)=true:=by
 cases d with
 | ow s=>exact dv s
 | ho b s=>simp[de,noRef,ah,dv]
theorem PC(d:Kn):((bW [] (de d) (.int 0)).bind λw=>oA false [] w (.ay [.str "lent",.str "sole"]))=some (.bl (gw d)):=by
 cases d with
 | ow s=>cases s<;>kernel_rfl
 | ho b s=>cases b<;>kernel_rfl
theorem fB(k:Nat)(d:Kn):Gives (run txt (k+1) "is_holder" [de d] []) (.bl (gw d)):=by
 rw[uO];obtain⟨w,h1,h2⟩:=qS.mp (PC d);exact gV (rS (b2 (b2 rfl rfl h1) rfl h2)) rfl
theorem Ed(k:Nat)(d:Kn):Gives (run txt (k+2) "shape_of" [de d] []) (enc (b9 d)):=by
 rw[yn];have h:=fB k d;refine gV (DU:=[some (de d)]) (h':=[]) (rS (eI (tR (cY (cA rfl rfl) rfl rfl h) rfl) ?_)) (dv _);cases d with
 | ow s=>rfl
 | ho b s=>rfl
abbrev Rk:=Str×Kn
def bI(r:Rk):PV:=.ay [.str r.1,de r.2]
def tF:List Rk->Str->Option Kn
 | [],_=>none
 | r::l,x=>if r.1=x then some r.2 else tF l x
theorem vK:∀(l:List Rk) (r:Rk),(l.map (·.1)).Nodup->r∈l->tF l r.1=some r.2
 | s::l,r,hn,h=>by
  rw[aM,iG]at hn;rcases aU.mp h with rfl | h
  ·rw[tF,if_pos rfl]
  ·rw[tF,if_neg,vK l r hn.2 h];intro e;exact hn.1 (aF.mpr ⟨r,h,e.symm⟩)
theorem vL(c:CT)(f:Option PV)(x:Str):∀(R:List Rk) (o2 o3:Option PV) (d:Kn),tF R x=some d->∃ρ,du Qt (A6 c) (R.map bI) (S0 [f,some (.str x),o2,o3])=some (.ok (.rt (de d)),S0 ρ)
 | [],_,_,_,h=>by cases h
 | r::R,o2,o3,d,h=>by
  have t:jB 2 Q1 (bI r) (S0 [f,some (.str x),o2,o3])=some (S0 [f,some (.str x),some (.str r.1),some (de r.2)]):=rfl;have e:Ek (toB (op2 k0 (rd 2) (rd 1))) (S0 [f,some (.str x),some (.str r.1),some (de r.2)]) (r.1==x):=bT (b2 rfl rfl (dX _ _ _));unfold tF at h;by_cases hx:r.1=x
  ·rw[if_pos hx]at h;cases h;rw[show(r.1==x)=true by rw[hx];exact nU x]at e
   exact⟨_,fR t (iT e (rS rfl))⟩
  ·rw[if_neg hx]at h;obtain⟨ρ,ih⟩:=vL c f x R (some (.str r.1)) (some (de r.2)) d h;rw[show(r.1==x)=false by rw[jn];exact hx]at e
   exact⟨ρ,fC t (iF e rfl) ih⟩
def BY(nm res body:PV)(R1 R2:List Rk):PV:=.ay [nm,.ay (R1.map bI),res,.ay (R2.map bI),body]
theorem aT{h:List az}{ps qs:List PV}(hl:ps.length+qs.length<=4000000):eU h (.ay ps) (.ay qs)=some (.ay (ps++qs)):=if_pos (show ps.length+qs.length<=f9 from hl)
theorem Im(k:Nat)(n res body:PV)(R1 R2:List Rk)(x:Str)(d:Kn)(hd:tF (R1++R2) x=some d)(h:R1.length+R2.length<=1000):Gives (run txt (k+1) "kind_of" [BY n res body R1 R2,.str x] []) (de d):=by
 rw[A7];obtain⟨ρ,e⟩:=vL (run txt k) (some (BY n res body R1 R2)) x (R1++R2) none none d hd;have hs:eU [] (.ay (R1.map bI)) (.ay (R2.map bI))=some (.ay ((R1++R2).map bI)):=by
  rw[cG];exact aT (by simp;lia)
 exact gV (uM (fS (sV (b2 (b2 rfl rfl rfl) (b2 rfl rfl rfl) hs) rfl) e)) (qH d)
theorem LA:er (run txt):=⟨λk=>D0 k⟩
theorem FP{ps:List Sh}{i:Int}{y:Sh}(h0:0<=i)(hg:ps[i.toNat]?=some y):L2.mn (b8 ps) i=some (enc y):=by
 have:=atI_nat (xs:=b8 ps) (by rw[kB,bR,hg];rfl)
 rw[lM h0]at this;exact this
theorem tH{s:Sh}{i:Int}{x:Sh×Int}(h:Na s i=some x):∃ps,s=.bz ps/\0<=i/\ps[i.toNat]?=some x.1/\x.2=((gU (ps.take i.toNat)).length:Int):=by
 cases s with
 | bz ps =>
  simp only[Na]at h;by_cases h0:0<=i
  ·rw[if_pos h0]at h;cases hg:ps[i.toNat]? with
   | none=>rw[hg]at h;simp at h
   | some y=>rw[hg]at h;simp at h;subst h;exact⟨ps,rfl,h0,hg,rfl⟩
  ·rw[if_neg h0]at h;cases h
 | num=>simp[Na]at h
 | own=>simp[Na]at h
 | bJ n=>simp[Na]at h
theorem VW{ps:List Sh}{y:Sh}(h:y∈ps):dp y<=qh ps:=by
 induction ps with
 | nil=>cases h
 | cons z zs ih =>
  simp only[qh];rcases aU.mp h with rfl | hm
  ·lia
  ·have:=ih hm
   lia
mutual
theorem L5:∀(s:Sh),∀r∈tab s,r.2.2.1=sz r.2.2.2
 | .num,r,h=>by simp[tab]at h;subst h;simp[sz,lv]
 | .own,r,h=>by simp[tab]at h;subst h;simp[sz,lv]
 | .bJ n,r,h=>by simp[tab]at h;subst h;simp[sz,lv]
 | .bz ps,r,h=>by
  simp only[tab,aU]at h;rcases h with rfl | h
  ·simp[sz,lv]
  ·exact FQ ps 0 0 r h
theorem FQ:∀(l:List Sh) (k:Nat) (a:Int),∀r∈tabs k a l,r.2.2.1=sz r.2.2.2
 | [],_,_,r,h=>by simp[tabs]at h
 | s::l,k,a,r,h=>by
  simp only[tabs,bZ,aF]at h;rcases h with⟨r0,h0,rfl⟩ | h
  ·exact L5 s r0 h0
  ·exact FQ l _ _ r h
end
mutual
theorem yB:∀(s:Sh),∀r∈tab s,dp r.2.2.2<=dp s/\(lv r.2.2.2).length<=(lv s).length
 | .num,r,h=>by simp[tab]at h;subst h;simp
 | .own,r,h=>by simp[tab]at h;subst h;simp
 | .bJ n,r,h=>by simp[tab]at h;subst h;simp
 | .bz ps,r,h=>by
  simp only[tab,aU]at h;rcases h with rfl | h
  ·simp
  ·have:=FU ps 0 0 r h;simp only[dp,lv]
   lia
theorem FU:∀(l:List Sh) (k:Nat) (a:Int),∀r∈tabs k a l,dp r.2.2.2<=qh l/\(lv r.2.2.2).length<=(gU l).length
 | [],_,_,r,h=>by simp[tabs]at h
 | s::l,k,a,r,h=>by
  simp only[tabs,bZ,aF]at h;simp only[qh,gU,bu];rcases h with⟨r0,h0,rfl⟩ | h
  ·have:=yB s r0 h0;simp only[m4]
   lia
  ·have:=FU l _ _ r h
   lia
end
section
variable {s s1 s2 s3:cC} {fa fb fc:Gx PV} {x y z r:PV}
theorem eCh{g g':G2}(ha:Ev fa s x s1)(hb:Ev fb s1 y s2)(h1:g s2.h x y=some (.bl true))(hc:Ev fc s2 z s3)(h2:g' s3.h y z=some r):Ev (chain g g' fa fb fc) s r s3 :=
 eB ha (eB hb (eB (by show((g s2.h x y).bind vg).map _=_;rw[h1];rfl) (by rw[if_pos rfl];exact eB hc (by show(g' s3.h y z).map _=_;rw[h2];rfl))))
end
theorem le_int(h:List az)(i j:Int):leO h (.int i) (.int j)=some (.bl (decide (i<=j))):=rfl
theorem lt_int(h:List az)(i j:Int):Km h (.int i) (.int j)=some (.bl (decide (i<j))):=rfl
theorem FV(k:Nat){s:Sh}{i:Int}{x:Sh×Int}(hx:Na s i=some x):Gives (run txt (k+1) "check_part" [enc s,.int i] []) .bQ:=by
 obtain⟨ps,rfl,h0,hg,_⟩:=tH hx;rw[td];have hl:i.toNat<ps.length:=(cf.mp hg).1;have h1:leO [] (.int 0) (.int i)=some (.bl true):=by rw[le_int,dE h0]
 have h2:Km [] (.int i) (.int ((b8 ps).length:Int))=some (.bl true):=by rw[lt_int,dE (by rw[fW];lia)]
 exact gN (sq (iF (s1:=S0 [some (enc (.bz ps)),some (.int i)]) (bT (by kernel_rfl)) rfl) (iF (nB (b:=true) (bT (eCh rfl rfl h1 (bV (cA (b2 rfl rfl rfl) rfl) rfl) h2))) rfl))
theorem vM(k:Nat)(A P:Option PV):∀(p:List Int) (s:Sh) (a:Int) (o:Option PV) (s':Sh) (a':Int),walk s a p=some (s',a')->∃o',du (aR 3) (LZ (run txt (k+1))) (p.map .int) (S0 [A,P,some (enc s),o])=some (.ok .nx,S0 [A,P,some (enc s'),o'])
 | [],s,a,o,s',a',h=>by
  simp[walk]at h;obtain⟨rfl,rfl⟩:=h;exact⟨o,rfl⟩
 | i::p,s,a,o,s',a',h=>by
  obtain⟨x,hx,hw⟩:=qS.mp (show(Na s i).bind (λx=>walk x.1 (a+x.2) p)=some (s',a')from h)
  have hc:=FV k hx;obtain⟨ps,rfl,h0,hg,_⟩:=tH hx;obtain⟨o',q⟩:=vM k A P p x.1 (a+x.2) (some (.int i)) s' a' hw;have xY:=FP h0 hg;exact⟨o',fC rfl (sq (dS (cY (cA rfl (cA rfl rfl)) rfl rfl hc)) (aS (b2 (b2 rfl rfl rfl) rfl xY) rfl)) q⟩
theorem VX(k:Nat)(s:Sh)(p:List Int)(x:Sh×Int)(h:walk s 0 p=some x):Gives (run txt (k+2) "part" [enc s,.ay (p.map .int)] []) (enc x.1):=by
 rw[L0];obtain⟨o',q⟩:=vM k (some (enc s)) (some (.ay (p.map .int))) p s 0 none x.1 x.2 h;exact gV (sq (aS rfl rfl) (sq (fS rfl q) (rS rfl))) (dv _)
theorem PD(l:List Sh):(l.map λs=>((lv s).length:Int)).sum=((gU l).length:Int):=by
 induction l with
 | nil=>simp[gU]
 | cons s l ih=>simp[gU,ih]
theorem oS:∀ns:List Int,ly (ns.map .int)=some ns
 | []=>rfl
 | n::r=>by
  have e:di p0 (r.map PV.int)=some r:=oS r;simp only[ly,aM,di,p0,dO,e,iH]
theorem Io(h:List az)(ns:List Int):Hm h [.lst (ns.map .int)]=some (.int ns.sum):=by
 show(ly _).map _=_;rw[oS];rfl
theorem VY(ps:List PV)(q:Nat):k6 ps none (some (q:Int))=ps.take q:=by
 unfold k6;rw[HT.xg,HT.zI,List.drop_zero,Nat.sub_zero];by_cases h:q<=ps.length
 ·rw[Nat.min_eq_left h]
 ·rw[Nat.min_eq_right (by lia),nK (by lia),nK (by lia)]
theorem cM{α:Type}{link:List (Option Nat)}{fi:Gx yX}{bd:Bd}{s s1:cC}{l:List α}{e G:α->PV}(hi:Ev fi s (.sq (l.map e)) s1)(hl:l.length<=4000000)(hb:∀a∈l,bd (bO link s1.ρ) (e a) s1.h=some (some (G a),s1.h)):Ev (dh false link fi bd) s (.lst (l.map G)) s1:=eB hi (by
 have:∀l:List α,(∀a∈l,bd (bO link s1.ρ) (e a) s1.h=some (some (G a),s1.h))->fz (bd (bO link s1.ρ)) (l.map e) s1.h=some (l.map G,s1.h):=by
  intro l;induction l with
  | nil=>intro _;rfl
  | cons a l ih =>
   intro H;show(bd (bO link s1.ρ) (e a) s1.h).bind _=_;rw[H a aN];show(fz (bd (bO link s1.ρ)) (l.map e) s1.h).map _=_;rw[ih λb hb=>H b (aK _ hb)]
   rfl
 show(if(l.map e).length<=f9 then fz _ (l.map e) s1.h else none).bind _=_
 rw[if_pos (show(l.map e).length<=f9 by rw[ak];exact hl),this l hb]
 rfl)
theorem cE{fa:Gx PV}{fl fh:Gx (Option Int)}{s s1 s2 s3:cC}{p q:PV}{l h:Option Int}(h1:Ev fa s p s1)(h2:Ev fl s1 l s2)(h3:Ev fh s2 h s3)(h4:Ks s3.h l h p=some q):Ev (cutE fa fl fh) s q s3:=eB h1 (eB h2 (eB h3 (by show(Ks s3.h l h p).map _=_;rw[h4];rfl)))
theorem PF(k:Nat)(ps:List Sh)(q:Nat)(hd:qh ps<=k)(hl:(gU ps).length<=1000)(hn:ps.length<=1000)(a b d:Option PV) :
  Ek (gI Hm (aq (dh false [none,none] (ik (cutE Qr (aY none) (vj (rd 4)))) (k7 (aR 1) (gI gH (aq (bnd Q0 (bF 0 1 (run txt (k+1) "leaves"))) (aY []))))) (aY []))) (S0 [a,b,some (enc (.bz ps)),d,some (.int (q:Int))]) (.int ((gU (ps.take q)).length:Int)):=by
 have e2:=Io [] ((ps.take q).map λs=>((lv s).length:Int))
 rw[PD,b6]at e2;have ad1:Ks [] none (some (q:Int)) (.ay (b8 ps))=some (.ay ((ps.take q).map enc)):=by
  show some (PV.ay (k6 (b8 ps) none (some (q:Int))))=_;rw[VY,kB,List.map_take]
 refine bV (cA (cM (sV (cE (b2 rfl rfl rfl) rfl rfl ad1) rfl) (by rw[jq];lia) λs hs=>?_) rfl) e2
 have hm:=er.each LA ps k hd (by lia) s (List.mem_of_mem_take hs)
 refine e1 rfl (bV (cA (cY (cA rfl rfl) rfl rfl hm) rfl) ?_);show some (PV.int ((b8 (lv s)).length:Int))=_;rw[fW];rfl
theorem tJ(k:Nat)(A P:Option PV):∀(p:List Int) (s:Sh) (a:Int) (o:Option PV) (s':Sh) (a':Int),(tab s).length<=500->dp s<=k->walk s a p=some (s',a')->∃o',du (aR 4) (HY (run txt (k+1))) (p.map .int) (S0 [A,P,some (enc s),some (.int a),o])=some (.ok .nx,S0 [A,P,some (enc s'),some (.int a'),o'])
 | [],s,a,o,s',a',_,_,h=>by
  simp[walk]at h;obtain⟨rfl,rfl⟩:=h;exact⟨o,rfl⟩
 | i::p,s,a,o,s',a',ht,hd,h=>by
  obtain⟨x,hx,hw⟩:=qS.mp (show(Na s i).bind (λx=>walk x.1 (a+x.2) p)=some (s',a')from h)
  have hc:=FV k hx;obtain⟨ps,rfl,h0,hg,hx2⟩:=tH hx;have DE:x.1∈ps:=dN hg;have uj:=HU DE;have htl:(tab (.bz ps)).length=iR ps+1:=by simp only[tab,aW,ie]
  have hll:=DY ps;have hnl:=AY ps;have hdm:=VW DE;have hdd:qh ps+1<=k:=by simpa only[dp]using hd
  obtain⟨o',q⟩:=tJ k A P p x.1 (a+x.2) (some (.int i)) s' a' (by lia) (by lia) hw
  have L6:=PF k ps i.toNat (by lia) (by lia) (by lia) A P (some (.int a))
  rw[lM h0,<-hx2]at L6;have xY:=FP h0 hg;exact⟨o',fC rfl (sq (dS (cY (cA rfl (cA rfl rfl)) rfl rfl hc)) (sq (aS (b2 rfl L6 rfl) rfl) (aS (b2 (b2 rfl rfl rfl) rfl xY) rfl))) q⟩
theorem PH(k:Nat)(s:Sh)(p:List Int)(x:Sh×Int)(ht:(tab s).length<=500)(hd:dp s<=k)(h:walk s 0 p=some x):Gives (run txt (k+2) "first" [enc s,.ay (p.map .int)] []) (.int x.2):=by
 rw[HZ];obtain⟨o',q⟩:=tJ k (some (enc s)) (some (.ay (p.map .int))) p s 0 none x.1 x.2 ht hd h;exact gV (sq (aS rfl rfl) (sq (aS rfl rfl) (sq (fS rfl q) (rS rfl)))) rfl
structure dw where
 w:Str
 n:Str
 t:Bool
 f:Int
 m:Int
 k:Str
def lg(a:dw):PV:=.ay [.str a.w,.str a.n,.bl a.t,.int a.f,.int a.m,.str a.k]
noncomputable def L7:dw:=⟨"rest","",false,0,0,""⟩
def vO:dw:=⟨"hand","",false,0,0,""⟩
def Z3(x:Str)(th:Bool)(p:List Int)(at_:PV):PV:=.ay [.str x,.bl th,.ay (p.map .int),at_]
def yC(s:Sh):Prop:=(tab s).length<=100/\dp s<=3
def tK(F:PV)(ks:List Rk):Prop:=∀k,∀r∈ks,Gives (run txt (k+1) "kind_of" [F,.str r.1] []) (de r.2)
def tA(w x:Str)(d:Kn)(r:Rw)(t:Str):dw:=⟨w,x,gw d,r.2.1,r.2.2.1,t⟩
theorem JY(n res body:PV)(R1 R2:List Rk)(h:R1.length+R2.length<=1000)(hn:((R1++R2).map (·.1)).Nodup):tK (BY n res body R1 R2) (R1++R2):=λk r hr=>Im k n res body R1 R2 r.1 r.2 (vK _ r hn hr) h
theorem gA{F:PV}{ks:List Rk}(hF:tK F ks)(k:Nat)(hk:3<=k)(w t:Str){x:Str}{d:Kn}(hx:(x,d)∈ks)(hs:yC (b9 d)){r:Rw}(hr:r∈tab (b9 d))(a:PV):Gives (run txt (k+3) "touch" [F,.str w,Z3 x (gw d) r.1 a,.str t] []) (lg (tA w x d r t)):=by
 rw[H9];have hw:=A1 (b9 d) r hr 0;have hd:=yB (b9 d) r hr;have hl:=vE (b9 d);have h1:=hF (k+1) (x,d) hx;have h2:=Ed k d;have h3:=VX k (b9 d) r.1 _ hw;have h4:=er.all LA r.2.2.2 (k+1) (by have:=hs.2;lia) (by have:=hs.1;lia)
 have h5:=PH k (b9 d) r.1 _ (by have:=hs.1;lia) (by have:=hs.2;lia) hw
 have h6:=L5 (b9 d) r hr;have e4:0+r.2.1=r.2.1:=by lia
 rw[e4]at h5;have eA:gH [] [.ay (b8 (lv r.2.2.2))]=some (.int r.2.2.1):=by
  show some (PV.int ((b8 (lv r.2.2.2)).length:Int))=_;rw[fW,h6];rfl
 exact gV (sq (aS (cY (cA (cY (cA rfl (cA (b2 rfl rfl rfl) rfl)) rfl rfl h1) rfl) rfl rfl h2) rfl)
  (sq (aS (bV (cA (cY (cA (cY (cA rfl (cA (b2 rfl rfl rfl) rfl)) rfl rfl h3) rfl) rfl rfl h4) rfl) eA) rfl)
  (rS (tU (cA rfl (cA (b2 rfl rfl rfl) (cA (b2 rfl rfl rfl) (cA (cY (cA rfl (cA (b2 rfl rfl rfl) rfl)) rfl rfl h5) (cA rfl (cA rfl rfl)))))) (by simp))))) rfl
theorem ig(s:Sh):(([],0,sz s,s):Rw)∈tab s:=by
 obtain⟨L,e⟩:=AX s;rw[e];exact aN
theorem eZ{F:PV}{ks:List Rk}(hF:tK F ks)(k:Nat)(hk:3<=k)(w t:Str){x:Str}{d:Kn}(hx:(x,d)∈ks)(hs:yC (b9 d)):Gives (run txt (k+4) "touch_whole" [F,.str w,.str x,.str t] []) (lg (tA w x d ([],0,sz (b9 d),b9 d) t)):=by
 rw[qi];have h1:=hF (k+2) (x,d) hx;have h2:=fB (k+2) d;have h3:=gA hF k hk w t hx hs (ig (b9 d)) .bQ;exact gV (rS (cY (cA rfl (cA rfl (cA (tU (cA rfl (cA (cY (cA (cY (cA rfl (cA rfl rfl)) rfl rfl h1) rfl) rfl rfl h2) (cA (tU rfl (by simp)) (cA rfl rfl)))) (by simp)) (cA rfl rfl)))) rfl rfl h3)) rfl
def fI(as:List dw):PV:=.lst (as.map lg)
theorem ad2(a:dw):noRef (lg a)=true:=rfl
theorem L8:∀as:List dw,ah (as.map lg)=true
 | []=>rfl
 | a::as=>by simp[ah,ad2,L8 as]
theorem Bk(as:List dw):noRef (fI as)=true:=by simp[fI,noRef,L8]
theorem aL{h:List az}{ps qs:List PV}(hl:ps.length+qs.length<=4000000):eU h (.lst ps) (.lst qs)=some (.lst (ps++qs)):=by
 have e:eU h (.lst ps) (.lst qs)=sizeOk (ps.length+qs.length) (.lst (ps++qs)):=rfl;rw[e];exact if_pos (show ps.length+qs.length<=f9 from hl)
theorem lE(as bs:List dw)(h:List az)(hl:as.length+bs.length<=1000):eU h (fI as) (fI bs)=some (fI (as++bs)):=by
 unfold fI;rw[cG];exact aL (by simp only[ak];lia)
inductive yD (ks:List Rk):PV->Prop
 | bQ:yD ks .bQ
 | int (i:Int):yD ks (.int i)
 | str (y:Str) (h:(y,Kn.ow .num)∈ks):yD ks (.str y)
noncomputable def Nb:PV->List dw
 | .str y=>[⟨"read",y,false,0,1,""⟩]
 | _=>[]
theorem vP{F:PV}{ks:List Rk}(hF:tK F ks)(k:Nat)(hk:3<=k)(x:Str)(th:Bool)(p:List Int){a:PV}(ha:yD ks a):Gives (run txt (k+5) "at_acts" [F,Z3 x th p a] []) (fI (Nb a)):=by
 rw[Bb];cases ha with
 | bQ=>exact gV (uM (iT (nB (tR (p:=.bl false) (by rfl) rfl)) (rS rfl))) rfl
 | int i=>exact gV (uM (iT (nB (tR (p:=.bl false) (by rfl) rfl)) (rS rfl))) rfl
 | str y h =>
  have h1:=eZ hF k hk "read" "" h ⟨by simp[b9,tab],by simp[b9,dp]⟩
  have e:tA "read" y (.ow .num) ([],0,sz (b9 (.ow .num)),b9 (.ow .num)) ""=⟨"read",y,false,0,1,""⟩:=by
   simp[tA,gw,b9,sz,lv]
  rw[e]at h1;exact gV (sq (iF (nB (tR (p:=.bl true) (by rfl) rfl)) rfl) (rS (lS (cA (cY (cA rfl (cA rfl (cA (b2 rfl rfl rfl) (cA rfl rfl)))) rfl rfl h1) rfl) (by show 1<=4000000;decide)))) rfl
structure Sp where
 x:Str
 d:Kn
 r:Rw
 a:PV
def bK(s:Sp):PV:=Z3 s.x (gw s.d) s.r.1 s.a
structure c7 (ks:List Rk) (s:Sp):Prop where
 mem:(s.x,s.d)∈ks
 ok:yC (b9 s.d)
 row:s.r∈tab (b9 s.d)
 at_:yD ks s.a
def ql(w:Str)(s:Sp)(t:Str):dw:=tA w s.x s.d s.r t
inductive Op where
 | n (i:Int) | s (s:Sp)
def fJ:Op->PV
 | .n i=>.int i
 | .s s=>bK s
def dY(ks:List Rk):Op->Prop
 | .n _=>True
 | .s s=>c7 ks s
def pM:Op->List dw
 | .n _=>[]
 | .s s=>Nb s.a++[ql "read" s ""]
theorem yE(a:PV):(Nb a).length<=1:=by
 unfold Nb;split<;>simp
theorem dy{F:PV}{ks:List Rk}(hF:tK F ks)(k:Nat)(hk:3<=k){o:Op}(ho:dY ks o):Gives (run txt (k+6) "operand_acts" [F,fJ o] []) (fI (pM o)):=by
 rw[oR];cases o with
 | n i=>exact gV (uM (iT (nB (tR (p:=.bl false) (by rfl) rfl)) (rS rfl))) rfl
 | s s =>
  obtain⟨h1,h2,h3,h4⟩:=ho;have e1:=vP hF k hk s.x (gw s.d) s.r.1 h4;have e2:=gA hF (k+2) (by lia) "read" "" h1 h2 h3 s.a
  have hl:=yE s.a;exact gV (sq (iF (nB (tR (p:=.bl true) (by rfl) rfl)) rfl) (rS (b2 (cY (cA rfl (cA rfl rfl)) rfl rfl e1) (lS (cA (cY (cA rfl (cA rfl (cA rfl (cA rfl rfl)))) rfl rfl e2) rfl) (by simp)) (lE (Nb s.a) [ql "read" s ""] [] (by simp;lia))))) (Bk _)
def Ee(s:Sp):List dw:=match s.a with
 | .bQ=>[ql "fill" s ""]
 | a=>Nb a++[ql "turn" s ""]
theorem lG{F:PV}{ks:List Rk}(hF:tK F ks)(k:Nat)(hk:3<=k){s:Sp}(hs:c7 ks s):Gives (run txt (k+6) "target_acts" [F,bK s] []) (fI (Ee s)):=by
 rw[qj];obtain⟨h1,h2,h3,h4⟩:=hs;have e1:=vP hF k hk s.x (gw s.d) s.r.1 h4;have ef:=gA hF (k+2) (by lia) "fill" "" h1 h2 h3 s.a
 have et:=gA hF (k+2) (by lia) "turn" "" h1 h2 h3 s.a
 obtain⟨x,d,r,a⟩:=s;have hl:=yE a;have lU:∀(z:YI [] a .bQ=some (.bl false)) (q:Ee ⟨x,d,r,a⟩=Nb a++[ql "turn" ⟨x,d,r,a⟩ ""]),Gives (dU (lD (run txt (k+5))) 2 [F,bK ⟨x,d,r,a⟩] []) (fI (Ee ⟨x,d,r,a⟩)):=by
  intro z q;rw[q];exact gV (sq (iF (bT (b2 (b2 rfl rfl rfl) rfl z)) rfl) (rS (b2 (cY (cA rfl (cA rfl rfl)) rfl rfl e1) (lS (cA (cY (cA rfl (cA rfl (cA rfl (cA rfl rfl)))) rfl rfl et) rfl) (by simp)) (lE (Nb a) [ql "turn" ⟨x,d,r,a⟩ ""] [] (by simp;lia))))) (Bk _)
 cases h4 with
 | bQ=>exact gV (uM (iT (bT (b2 (b2 rfl rfl rfl) rfl rfl)) (rS (lS (cA (cY (cA rfl (cA rfl (cA rfl (cA rfl rfl)))) rfl rfl ef) rfl) (by show 1<=4000000;decide))))) rfl
 | int i=>exact lU rfl rfl
 | str y h=>exact lU rfl rfl
theorem iS(o:Op):(pM o).length<=2:=by
 cases o with
 | n i=>simp[pM]
 | s s=>have:=yE s.a;simp[pM];lia
theorem yF(s:Sp):(Ee s).length<=2:=by
 unfold Ee;split
 ·simp
 ·rename_i a _;have:=yE s.a;simp
  lia
section
variable {F:PV} {ks:List Rk} (hF:tK F ks) (k:Nat) (hk:3<=k)
include hF hk
theorem Ef(w:Str){s:Sp}(hs:c7 ks s){o:Op}(ho:dY ks o):Gives (run txt (k+7) "put_acts" [F,.ay [.str w,bK s,fJ o]] []) (fI (pM o++Ee s)):=by
 rw[yq];have h1:=dy hF k hk ho;have h2:=lG hF k hk hs;have l1:=iS o;have l2:=yF s;exact gV (rS (b2 (cY (cA rfl (cA (b2 rfl rfl rfl) rfl)) rfl rfl h1) (cY (cA rfl (cA (b2 rfl rfl rfl) rfl)) rfl rfl h2) (lE _ _ _ (by lia)))) (Bk _)
theorem Eg(w:Str){s:Sp}(hs:c7 ks s)(q:PV){a b:Op}(ha:dY ks a)(hb:dY ks b):Gives (run txt (k+7) "set_acts" [F,.ay [.str w,bK s,q,fJ a,fJ b]] []) (fI (pM a++pM b++Ee s)):=by
 rw[yr];have h1:=dy hF k hk ha;have h3:=dy hF k hk hb;have h2:=lG hF k hk hs;have l1:=iS a;have l3:=iS b;have l2:=yF s;exact gV (rS (b2 (b2 (cY (cA rfl (cA (b2 rfl rfl rfl) rfl)) rfl rfl h1) (cY (cA rfl (cA (b2 rfl rfl rfl) rfl)) rfl rfl h3) (lE _ _ _ (by lia))) (cY (cA rfl (cA (b2 rfl rfl rfl) rfl)) rfl rfl h2) (lE _ _ _ (by rw[bu];lia)))) (Bk _)
theorem Ip(w:Str)(q:PV){a b:Op}(ha:dY ks a)(hb:dY ks b):Gives (run txt (k+7) "if_acts" [F,.ay [.str w,fJ a,fJ b,q]] []) (fI (pM a++pM b)):=by
 rw[Be];have h1:=dy hF k hk ha;have h3:=dy hF k hk hb;have l1:=iS a;have l3:=iS b;exact gV (rS (b2 (cY (cA rfl (cA (b2 rfl rfl rfl) rfl)) rfl rfl h1) (cY (cA rfl (cA (b2 rfl rfl rfl) rfl)) rfl rfl h3) (lE _ _ _ (by lia)))) (Bk _)
theorem Eh(w:Str){a:Op}(ha:dY ks a):Gives (run txt (k+7) "say_acts" [F,.ay [.str w,fJ a]] []) (fI (pM a)):=by
 rw[yt];have h1:=dy hF k hk ha;exact gV (rS (cY (cA rfl (cA (b2 rfl rfl rfl) rfl)) rfl rfl h1)) (Bk _)
omit hF hk in
theorem Iq(p:PV):Gives (run txt (k+7) "go_acts" [F,p] []) (fI []):=by
 rw[Bf];exact gV (rS rfl) rfl
omit hF hk in
theorem yG(w:Str):Gives (run txt (k+7) "give_acts" [F,.ay [.str w,.str ""]] []) (fI []):=by
 rw[lF];exact gV (uM (iT (bT (b2 (b2 rfl rfl rfl) rfl (show k0 [] (.str "") (.str "")=some (.bl true) by kernel_rfl))) (rS rfl))) rfl
theorem Bl(w:Str){s t:Sp}(hs:c7 ks s)(ht:c7 ks t):Gives (run txt (k+7) "copy_acts" [F,.ay [.str w,bK s,bK t]] []) (fI [ql "read" t "",ql "fill" s ""]):=by
 rw[uQ];have h1:=gA hF (k+3) (by lia) "read" "" ht.mem ht.ok ht.row t.a
 have h2:=gA hF (k+3) (by lia) "fill" "" hs.mem hs.ok hs.row s.a
 exact gV (rS (lS (cA (cY (cA rfl (cA rfl (cA (b2 rfl rfl rfl) (cA rfl rfl)))) rfl rfl h1) (cA (cY (cA rfl (cA rfl (cA (b2 rfl rfl rfl) (cA rfl rfl)))) rfl rfl h2) rfl)) (by simp))) rfl
theorem Bm(w:Str){s t:Sp}(hs:c7 ks s)(ht:c7 ks t):Gives (run txt (k+7) "move_acts" [F,.ay [.str w,bK s,bK t]] []) (fI [ql "empty" t "",ql "fill" s ""]):=by
 rw[uR];have h1:=gA hF (k+3) (by lia) "empty" "" ht.mem ht.ok ht.row t.a
 have h2:=gA hF (k+3) (by lia) "fill" "" hs.mem hs.ok hs.row s.a
 exact gV (rS (lS (cA (cY (cA rfl (cA rfl (cA (b2 rfl rfl rfl) (cA rfl rfl)))) rfl rfl h1) (cA (cY (cA rfl (cA rfl (cA (b2 rfl rfl rfl) (cA rfl rfl)))) rfl rfl h2) rfl)) (by simp))) rfl
theorem Bn(w:Str){s:Sp}(hs:c7 ks s):Gives (run txt (k+7) "drop_acts" [F,.ay [.str w,bK s]] []) (fI [ql "empty" s ""]):=by
 rw[uS];have h1:=gA hF (k+3) (by lia) "empty" "" hs.mem hs.ok hs.row s.a
 exact gV (rS (lS (cA (cY (cA rfl (cA rfl (cA (b2 rfl rfl rfl) (cA rfl rfl)))) rfl rfl h1) rfl) (by simp))) rfl
theorem Bo(w t:Str){s:Sp}(hs:c7 ks s):Gives (run txt (k+7) "lend_acts" [F,.ay [.str w,.str t,bK s]] []) (fI [ql w s t]):=by
 rw[uT];have h1:=gA hF (k+3) (by lia) w t hs.mem hs.ok hs.row s.a
 exact gV (rS (lS (cA (cY (cA rfl (cA (b2 rfl rfl rfl) (cA (b2 rfl rfl rfl) (cA (b2 rfl rfl rfl) rfl)))) rfl rfl h1) rfl) (by simp))) rfl
end
noncomputable def pN:Sh->Bool
 | .own=>true
 | _=>false
abbrev oP:PV:=.ay [.str "own"]
mutual
def vQ:Sh->Tr
 | .num=>.ay [.str "num"]
 | .own=>.ay [.str "own"]
 | .bJ n=>.ay [.str "strip",.int n]
 | .bz ps=>.ay [.str "rec",.ay (ng ps)]
def ng:List Sh->List Tr
 | []=>[]
 | s::l=>vQ s::ng l
end
mutual
theorem toT_enc(h:List az):∀(s:Sh) (n:Nat),2*dp s+2<n->toT h n (enc s)=some (vQ s)
 | .num,n+3,_=>rfl
 | .own,n+3,_=>rfl
 | .bJ _,n+3,_=>rfl
 | .bz ps,n+3,hn=>by
  have:=toT_encs h ps (n+1) (by simp only[dp]at hn;lia)
  have e1:toT h (n+2) (.str "rec")=some (.str "rec"):=rfl;have e2:toT h (n+2) (.ay (b8 ps))=some (.ay (ng ps)):=by
   show((di (toT h (n+1)) (b8 ps)).bind (Kp .ay))=_;rw[this];rfl
  show((di (toT h (n+2)) [.str "rec",.ay (b8 ps)]).bind (Kp .ay))=_;simp only[di,e1,e2,dO,iH,vQ,Kp]
 | .num,0,hn=>by lia
 | .num,1,hn=>by lia
 | .num,2,hn=>by lia
 | .own,0,hn=>by lia
 | .own,1,hn=>by lia
 | .own,2,hn=>by lia
 | .bJ _,0,hn=>by lia
 | .bJ _,1,hn=>by lia
 | .bJ _,2,hn=>by lia
 | .bz _,0,hn=>by lia
 | .bz _,1,hn=>by lia
 | .bz _,2,hn=>by lia
theorem toT_encs(h:List az):∀(l:List Sh) (n:Nat),2*qh l+2<n->di (toT h n) (b8 l)=some (ng l)
 | [],_,_=>rfl
 | s::l,n,hn=>by
  simp only[qh]at hn;have h1:=toT_enc h s n (by lia)
  have h2:=toT_encs h l n (by lia)
  simp only[b8,di,h1,h2,dO,iH,ng]
end
theorem VZ(s:Sh):eqT (vQ s) (.ay [.str "own"])=pN s:=by
 cases s with
 | bz ps=>show((Str.ofString "rec"==Str.ofString "own")&&mK [.ay (ng ps)] [])=false;rw[show(Str.ofString "rec"==Str.ofString "own")=false by decide +kernel];rfl
 | num=>decide +kernel
 | own=>decide +kernel
 | bJ n=>show((Str.ofString "strip"==Str.ofString "own")&&mK [.int n] [])=false;rw[show(Str.ofString "strip"==Str.ofString "own")=false by decide +kernel];rfl
theorem Ei:∀l:List Sh,((ng l).any λy=>eqT y (.ay [.str "own"]))=l.any pN
 | []=>rfl
 | s::l=>by rw[ng,jr,jr,Ei l,VZ]
def Z4(s:Sh):Bool:=!(lv s).any pN
theorem tM:∀{l:List Sh},(∀x∈l,iQ x=true)->qh l=0
 | [],_=>rfl
 | s::l,h=>by
  have h1:=(DV (h s aN)).2;have h2:=tM λx hx=>h x (aK _ hx)
  simp only[qh]
  lia
theorem V0(s:Sh):oA true [] oP (.ay (b8 (lv s)))=some (.bl (Z4 s)):=by
 have hd:=tM (yk s);have e:=toT_encs [] (lv s) gn (by rw[hd];decide)
 have e0:Ox [] oP (b8 (lv s))=some ((lv s).any pN):=by
  unfold Ox;rw[e,show toT [] gn oP=some (.ay [.str "own"])from rfl,<-Ei]
  rfl
 have e1:oA true [] oP (.ay (b8 (lv s)))=(Ox [] oP (b8 (lv s))).map λb=>.bl (if true=true then !b else b):=rfl
 rw[e1,e0];unfold Z4;cases(lv s).any pN<;>rfl
def oW(s:Sh):Str:=if Z4 s=true then "read" else "empty"
abbrev Ej(s:Sh):Rw:=([],0,sz s,s)
def tkA(x:Str)(d:Kn)(t:Str):dw:=match d with
 | .ow s=>tA (oW s) x (.ow s) (Ej s) ""
 | .ho b s=>tA (if b=true then "sole" else "lend") x (.ho b s) (Ej s) t
def gvA(x:Str)(d:Kn):dw:=match d with
 | .ow s=>tA (oW s) x (.ow s) (Ej s) ""
 | .ho b s=>tA "give" x (.ho b s) (Ej s) ""
theorem Bp(k:Nat)(s:Sh)(hd:dp s<=k)(hz:(lv s).length<=4000000):Gives (run txt (k+2) "is_copied" [enc s] []) (.bl (Z4 s)):=by
 rw[uN];have h:=er.all LA s k hd hz;exact gV (rS (b2 (tU (cA rfl rfl) (by simp)) (cY (cA rfl rfl) rfl rfl h) (V0 s))) rfl
section
variable {F:PV} {ks:List Rk} (hF:tK F ks) (k:Nat) (hk:3<=k)
include hF hk
theorem pO{x:Str}{s:Sh}(hx:(x,Kn.ow s)∈ks)(hs:yC s):Gives (run txt (k+5) "owner_act" [F,.str x] []) (lg (tA (oW s) x (.ow s) (Ej s) "")):=by
 rw[uV];have h1:=hF (k+3) _ hx;have hl:=vE s;have h2:=Bp (k+2) s (by have:=hs.2;lia) (by have:=hs.1;lia)
 have h3:=eZ hF k hk (oW s) "" hx hs;have hw:Ek (fG (gM (bnd (aq (bnd Qa (bF 0 2 (run txt (k+4) "kind_of"))) (aY [])) (bF 0 1 (run txt (k+4) "is_copied")))) (aY (PV.str "read")) (aY (PV.str "empty"))) (S0 [some F,some (.str x)]) (PV.str (oW s)):=by
  refine eI (tR (cY (cA (cY (cA rfl (cA rfl rfl)) rfl rfl h1) rfl) rfl rfl h2) rfl) ?_;unfold oW;cases Z4 s<;>rfl
 exact gV (rS (cY (cA rfl (cA hw (cA rfl (cA rfl rfl)))) rfl rfl h3)) rfl
theorem Ir{x:Str}{d:Kn}(hx:(x,d)∈ks)(hs:yC (b9 d))(t:Str):Gives (run txt (k+6) "arg_act" [F,.str x,.str t] []) (lg (tkA x d t)):=by
 rw[Bc];have h1:=hF (k+4) _ hx;have h2:=fB (k+4) d;have a0:Ev (dc (bnd Qa (bF 0 2 (run txt (k+5) "kind_of"))) (aR 3)) (S0 [some F,some (.str x),some (.str t),none]) .nx (S0 [some F,some (.str x),some (.str t),some (de d)]):=aS (cY (cA rfl (cA rfl rfl)) rfl rfl h1) rfl;have t0:Ek (uD (gM (bnd Q3 (bF 0 1 (run txt (k+5) "is_holder"))))) (S0 [some F,some (.str x),some (.str t),some (de d)]) (!gw d):=nB (tR (cY (cA rfl rfl) rfl rfl h2) rfl);cases d with
 | ow s =>
  have h3:=pO hF k hk hx hs;exact gV (sq a0 (uM (iT t0 (rS (cY (cA rfl (cA rfl rfl)) rfl rfl h3))))) rfl
 | ho b s =>
  have h3:=eZ hF (k+1) (by lia) (if b=true then "sole" else "lend") t hx hs
  have hw:Ek (fG (toB (op2 k0 (op2 bW (rd 3) (kI 0)) (aY (PV.str "lent")))) (aY (PV.str "lend")) (aY (PV.str "sole"))) (S0 [some F,some (.str x),some (.str t),some (de (.ho b s))]) (PV.str (if b=true then "sole" else "lend")):=by
   cases b with
   | false=>exact iT (bT (b2 (b2 rfl rfl rfl) rfl (show k0 [] (.str (hw false)) (.str "lent")=some (.bl true) by kernel_rfl))) rfl
   | true=>exact iF (bT (b2 (b2 rfl rfl rfl) rfl (show k0 [] (.str (hw true)) (.str "lent")=some (.bl false) by kernel_rfl))) rfl
  exact gV (sq a0 (sq (iF t0 rfl) (rS (cY (cA rfl (cA hw (cA rfl (cA rfl rfl)))) rfl rfl h3)))) rfl
theorem Bq(w:Str){x:Str}{d:Kn}(hx:(x,d)∈ks)(hs:yC (b9 d))(hne:(x==(Str.ofString ""))=false):Gives (run txt (k+7) "give_acts" [F,.ay [.str w,.str x]] []) (fI [gvA x d]):=by
 rw[lF];have h1:=hF (k+5) _ hx;have h2:=fB (k+5) d;have t0:Ek Qn (S0 [some F,some (.ay [.str w,.str x])]) false:=by
  refine bT (b2 (b2 rfl rfl rfl) rfl ?_);rw[dX,hne]
 have t1:Ek (gM (bnd (aq (bnd Qw (bF 0 2 (run txt (k+6) "kind_of"))) (aY [])) (bF 0 1 (run txt (k+6) "is_holder")))) (S0 [some F,some (.ay [.str w,.str x])]) (gw d):=tR (cY (cA (cY (cA rfl (cA (b2 rfl rfl rfl) rfl)) rfl rfl h1) rfl) rfl rfl h2) rfl;cases d with
 | ow s =>
  have h3:=pO hF (k+1) (by lia) hx hs
  exact gV (sq (iF t0 rfl) (sq (iF t1 rfl) (rS (lS (cA (cY (cA rfl (cA (b2 rfl rfl rfl) rfl)) rfl rfl h3) rfl) (by simp))))) rfl
 | ho b s =>
  have h3:=eZ hF (k+2) (by lia) "give" "" hx hs
  exact gV (sq (iF t0 rfl) (uM (iT t1 (rS (lS (cA (cY (cA rfl (cA rfl (cA (b2 rfl rfl rfl) (cA rfl rfl)))) rfl rfl h3) rfl) (by simp)))))) rfl
end
noncomputable abbrev sI(i:Nat):Str:=Str.ofString (toString (i:Int))
def nh:Nat->List Rk->List dw
 | _,[]=>[]
 | i,r::l=>tkA r.1 r.2 (sI i)::nh (i+1) l
theorem tN:∀(l:List Rk) (i:Nat),(nh i l).length=l.length
 | [],_=>rfl
 | r::l,i=>by simp[nh,tN l]
def uW:Option Rk->List dw
 | none=>[]
 | some (x,.ow s)=>[tA "fill" x (.ow s) (Ej s) ""]
 | some (x,.ho _ _)=>[⟨"take","",false,0,0,x⟩]
def El:Option Rk->Str
 | none=>""
 | some r=>r.1
def V1(ks:List Rk):Prop:=∀q∈ks,yC (b9 q.2)
theorem Z5(h:List az)(i:Nat)(hi:i<1000):Hl h [.int (i:Int)]=some (.str (sI i)):=if_pos ⟨by lia,by lia⟩
theorem cF{bd:PV->List az->Option (Option PV×List az)}{h:List az}{α:Type}{e G:α->PV}:∀l:List α,(∀a∈l,bd (e a) h=some (some (G a),h))->fz bd (l.map e) h=some (l.map G,h)
 | [],_=>rfl
 | a::l,H=>by
  show(bd (e a) h).bind _=_;rw[H a aN];show(fz bd (l.map e) h).map _=_;rw[cF l λb hb=>H b (aK _ hb)]
  rfl
theorem cN{link:List (Option Nat)}{fi:Gx yX}{bd:Bd}{s s1:cC}{ps qs:List PV}(hi:Ev fi s (.sq ps) s1)(hl:ps.length<=4000000)(hb:fz (bd (bO link s1.ρ)) ps s1.h=some (qs,s1.h)):Ev (dh true link fi bd) s (.ref s1.h.length) ⟨s1.ρ,s1.h++[⟨.lst,qs⟩]⟩:=eB hi (by
 show(if ps.length<=f9 then fz _ ps s1.h else none).bind _=_
 rw[if_pos (show ps.length<=f9 from hl),hb]
 rfl)
theorem L9{h:List az}{n:Nat}:∀ps:List PV,ah ps=true->di (yY h n) ps=some ps
 | [],_=>rfl
 | p::ps,hp=>by
  simp only[ah,aO]at hp;have e:yY h n p=some p:=by cases n<;>(unfold yY;rw[if_pos hp.1])
  simp only[di,e,L9 ps hp.2,dO,iH]
theorem mi{ps:List PV}{r:List az}(hp:ah ps=true):oF (⟨.lst,ps⟩::r) (.ref 0)=some (.lst ps):=by
 unfold oF;rw[if_neg (by simp)]
 unfold yY;rw[if_neg (by simp[noRef])]
 show((di (yY _ 3) ps).map _)=_;rw[L9 ps hp];rfl
theorem FW{bd:PV->List az->Option (Option PV×List az)}{h:List az}:∀(l:List Rk) (i:Nat),(∀r∈l,∀j:Nat,j<1000->bd (Aq (.int (j:Int)) (.str r.1)) h=some (some (lg (tkA r.1 r.2 (sI j))),h))->i+l.length<=1000->fz bd (fQ i (l.map λr=>PV.str r.1)) h=some ((nh i l).map lg,h)
 | [],_,_,_=>rfl
 | r::l,i,H,hz=>by
  simp only[aW]at hz;show(bd (Aq (.int (i:Int)) (.str r.1)) h).bind _=_;rw[H r aN i (by lia)]
  show(fz bd (fQ (i+1) (l.map λr=>PV.str r.1)) h).map _=_
  rw[FW l (i+1) (λq hq=>H q (aK _ hq)) (by lia)]
  rfl
theorem vR:∀(l:List PV) (i:Nat),(fQ i l).length=l.length
 | [],_=>rfl
 | a::l,i=>by simp[fQ,vR l]
theorem eV{fa:Gx PV}{s s1:cC}{p:PV}{ps:List PV}(h:Ev fa s p s1)(hp:xO p=some ps):Ev (vq fa) s (fQ 0 ps) s1:=eB h (by show((xO p).map _).map _=_;rw[hp];rfl)
section
variable {F:PV} {ks:List Rk} (hF:tK F ks) (k:Nat) (hk:3<=k) (hN:noRef F=true)
include hF hk hN
theorem Br(w:Str)(fn:PV){ar:List Rk}(ha:∀r∈ar,r∈ks)(ho:V1 ks)(hl:ar.length<=10){tk:Option Rk}(ht:∀r,tk=some r->r∈ks/\(r.1==(Str.ofString ""))=false):Gives (run txt (k+7) "call_acts" [F,.ay [.str w,.str (El tk),fn,.ay (ar.map λr=>.str r.1)]] []) (fI (nh 0 ar++vO::uW tk)):=by
 rw[uU];obtain⟨p,hp⟩:∃p,p=PV.ay [.str w,.str (El tk),fn,.ay (ar.map λr=>.str r.1)]:=⟨_,rfl⟩
 have i3:∀h,bW h p (.int 3)=some (.ay (ar.map λr=>.str r.1)):=λh=>by rw[hp];rfl
 have i1:∀h,bW h p (.int 1)=some (.str (El tk)):=λh=>by rw[hp];rfl
 rw[<-hp];have tl:=tN ar 0;have s1:Ev (dc (dh true [none,none,none,some 0] (Fj (vq (op2 bW (rd 1) (kI 3)))) (k7 Qc (bnd (aq (rd 3) (aq (rd 2) (aq (gI Hl Q0) (aY [])))) (bF 0 3 (run txt (k+6) "arg_act"))))) (aR 2)) (S0 [some F,some p,none]) .nx ⟨[some F,some p,some (.ref 0)],[⟨.lst,(nh 0 ar).map lg⟩]⟩:=by
  refine aS (cN (sG (eV (b2 rfl rfl (i3 _)) rfl)) (by rw[vR,ak];lia) (FW ar 0 (λr hr j hj=>?_) (by lia))) rfl
  have h:=Ir hF k hk (ha r hr) (ho r (ha r hr)) (sI j);exact e1 rfl (cY (cA rfl (cA rfl (cA (bV (cA rfl rfl) (Z5 _ j hj)) rfl))) rfl rfl h)
 obtain⟨L,hL⟩:∃L,L=(nh 0 ar++[vO]).map lg:=⟨_,rfl⟩
 have hLl:L.length<=100:=by rw[hL];simp[tl];lia
 have s2:Ev (g9 (Dx "list" (l0 (iK Al)) (rd 2) (aq (aY (.ay [(.str "hand"),(.str ""),(.bl false),(.int 0),(.int 0),(.str "")])) (aY [])))) ⟨[some F,some p,some (.ref 0)],[⟨.lst,(nh 0 ar).map lg⟩]⟩ .nx ⟨[some F,some p,some (.ref 0)],[⟨.lst,L⟩]⟩:=by
  rw[hL,cG];exact dS (BW rfl rfl (cA rfl rfl) (aC rfl (by rw[ak];lia)))
 have t0:Ek Qn ⟨[some F,some p,some (.ref 0)],[⟨.lst,L⟩]⟩ (El tk==(Str.ofString "")):=bT (b2 (b2 rfl rfl (i1 _)) rfl (dX _ _ _));have nrL:ah L=true:=by rw[hL];exact L8 _
 have add:∀q:dw,eU [⟨.lst,L⟩] (.ref 0) (.lst [lg q])=some (fI (nh 0 ar++vO::[q])):=λq=>by
  have e:eU [⟨.lst,L⟩] (.ref 0) (.lst [lg q])=sizeOk (L.length+1) (.lst (L++[lg q])):=rfl;rw[e];refine(if_pos (show L.length+1<=f9 from by have:f9=4000000:=rfl;lia)).trans ?_
  rw[hL];simp[fI]
 cases tk with
 | none =>
  rw[show(El none==(Str.ofString ""))=true by decide +kernel]at t0
  refine⟨_,_,jT (sq s1 (sq s2 (uM (iT t0 (rS rfl))))),?_⟩;rw[mi nrL,hL];rfl
 | some r =>
  obtain⟨g1,g2⟩:=ht r rfl;obtain⟨x,d⟩:=r;have i1:∀h,bW h p (.int 1)=some (.str x):=i1
  simp only at g2;have t2:Ek Qn ⟨[some F,some p,some (.ref 0)],[⟨.lst,L⟩]⟩ false:=bT (b2 (b2 rfl rfl (i1 _)) rfl (by rw[dX,g2]))
  have h1:=hF (k+5) _ g1;have h2:=fB (k+5) d;have nFx:ah [F,PV.str x]=true:=by simp[ah,hN,noRef]
  have t1:Ek (gM (bnd (aq (bnd Qw (bF 0 2 (run txt (k+6) "kind_of"))) (aY [])) (bF 0 1 (run txt (k+6) "is_holder")))) ⟨[some F,some p,some (.ref 0)],[⟨.lst,L⟩]⟩ (gw d):=tR (cY (cA (cY (cA rfl (cA (b2 rfl rfl (i1 _)) rfl)) rfl (by rw[nFx];rfl) h1) rfl) rfl (by simp[ah,qH]) h2) rfl
  cases d with
  | ho b s =>
   exact gV (sq s1 (sq s2 (sq (iF t2 rfl) (uM (iT t1 (rS (b2 rfl (lS (cA (tU (cA rfl (cA rfl (cA rfl (cA rfl (cA rfl (cA (b2 rfl rfl (i1 _)) rfl)))))) (by simp)) rfl) (by simp)) (add ⟨"take","",false,0,0,x⟩)))))))) (Bk _)
  | ow s =>
   have h3:=eZ hF (k+2) (by lia) "fill" "" g1 (ho _ g1)
   exact gV (sq s1 (sq s2 (sq (iF t2 rfl) (sq (iF t1 rfl) (rS (b2 rfl (lS (cA (cY (cA rfl (cA rfl (cA (b2 rfl rfl (i1 _)) (cA rfl rfl)))) rfl (by simp[ah,hN,noRef]) h3) rfl) (by simp)) (add (tA "fill" x (.ow s) (Ej s) "")))))))) (Bk _)
end
def lj(i:Nat)(a:dw):PV:=.ay [.int i,.str a.w,.str a.n,.bl a.t,.int a.f,.int a.m,.str a.k]
def gy:List dw->List dw
 | []=>[L7]
 | a::r=>a::r
structure Ma (c:CT) (F p:PV) (as:List dw):Prop where
 ex:∃w fn rest,p=.ay (.str w::rest)/\jw.lookup w=some fn/\VU.lookup fn=some 2/\Gives (c fn [F,p] []) (fI as)
 few:as.length<=20
 nr:noRef p=true
theorem RV{as:List dw}(h:as.length<=20):(gy as).length<=20:=by
 cases as with
 | nil=>simp[gy]
 | cons a r=>exact h
theorem clF{fns:List (Str×Nat)}{tab:List (Str×Str)}{c:CT}{fk:Gx PV}{ts:Gx (List PV)}{s s1 s2:cC}{w fn:Str}{n:Nat}{as:List PV}{q:PV}(hk:Ev fk s (.str w) s1)(h1:tab.lookup w=some fn)(h2:fns.lookup fn=some n)(ha:Ev ts s1 as s2)(hl:as.length=n)(hn:(s2.h.isEmpty || ah as)=true)(hc:Gives (c fn as []) q):Ev (AB fns c (K8 (λk=>(List.lookup k tab).map .fn) fk) ts) s q s2:=by
 obtain⟨p,h',e1,e2⟩:=hc;refine eB (eB hk (show(kM ((U0 (.str w)).bind λk=>(List.lookup k tab).map PV.fn)) s1=some (.ok (.fn fn),s1)from ?_)) (eB (a:=(fn,n)) ?_ (eB ha ?_))
 ·show((List.lookup w tab).map PV.fn).map _=_;rw[h1];rfl
 ·show((fns.lookup fn).map _).map _=_;rw[h2];rfl
 ·unfold oG;rw[if_pos ⟨hl,hn⟩,e1];show(oF h' p).map _=_;rw[e2];rfl
theorem mkN(i:Nat)(a:dw)(h:List az):eU h (.ay [.int (i:Int)]) (lg a)=some (lj i a):=aT (by simp)
theorem Iu{c:CT}{F p:PV}{as:List dw}(hN:noRef F=true)(M:Ma c F p as)(i:Nat)(ag:List PV)(hl:ag.length<=90000)(x0 x1 x6:Option PV):Ev (tf c) ⟨[x0,x1,some F,some (.ref 0),some (.int (i:Int)),some p,x6],[⟨.lst,ag⟩]⟩ .nx ⟨[x0,x1,some F,some (.ref 0),some (.int (i:Int)),some p,some (fI as)],[⟨.lst,ag++(gy as).map (lj i)⟩]⟩:=by
 obtain⟨w,fn,rest,rfl,h1,h2,h3⟩:=M.ex;have hf:=M.few;have hn:=M.nr;have i0:∀h,bW h (.ay (.str w::rest)) (.int 0)=some (.str w):=λh=>(show bW h (.ay (.str w::rest)) (.int 0)=L2.mn (PV.str w::rest) ((0:Nat):Int)from rfl).trans (atI_nat rfl)
 refine sq (aS (clF (b2 rfl rfl (i0 _)) h1 h2 (cA rfl (cA rfl rfl)) rfl (by simp[ah,hN,hn]) h3) rfl) ?_
 have ho:Ek Qb ⟨[x0,x1,some F,some (.ref 0),some (.int (i:Int)),some (.ay (.str w::rest)),some (fI as)],[⟨.lst,ag⟩]⟩ (fI (gy as)):=by
  cases as with
  | nil=>rfl
  | cons a r=>rfl
 have hor:=RV hf;exact dS (BW rfl rfl (cA (cM (sV ho rfl) (by lia) λa _=>e1 rfl (b2 (tU (cA rfl rfl) (by simp)) rfl (mkN i a _))) rfl) (xC rfl rfl (by rw[ak];lia)))
def tO:Nat->List (List dw)->List PV
 | _,[]=>[]
 | i,as::r=>(gy as).map (lj i)++tO (i+1) r
theorem vT{c:CT}{F:PV}(hN:noRef F=true)(x0 x1:Option PV):∀(L:List (PV×List dw)) (i:Nat) (ag:List PV) (x4 x5 x6:Option PV),(∀q∈L,Ma c F q.1 q.2)->ag.length+20*L.length<=90000 ->
  ∃RX y9 RY,du (jB 2 Q6) (tf c) (fQ i (L.map (·.1))) ⟨[x0,x1,some F,some (.ref 0),x4,x5,x6],[⟨.lst,ag⟩]⟩=some (.ok .nx,⟨[x0,x1,some F,some (.ref 0),RX,y9,RY],[⟨.lst,ag++tO i (L.map (·.2))⟩]⟩)
 | [],i,ag,x4,x5,x6,_,_=>⟨x4,x5,x6,by simp[tO];rfl⟩
 | (p,as)::L,i,ag,x4,x5,x6,h,hz=>by
  have M:=h (p,as) aN;have hor:=RV (as:=as) M.few;simp only[aW]at hz;obtain⟨RX,y9,RY,e⟩:=vT hN x0 x1 L (i+1) (ag++(gy as).map (lj i)) (some (.int (i:Int))) (some p) (some (fI as)) (λq hq=>h q (aK _ hq)) (by rw[bu,ak];lia)
  refine⟨RX,y9,RY,?_⟩;rw[cg]at e;exact fC rfl (Iu hN M i ag (by lia) x0 x1 x6) e
theorem Bs:∀(L:List (List dw)) (i:Nat),∀p∈tO i L,∃j a,p=lj j a
 | [],i,p,h=>by simp[tO]at h
 | as::L,i,p,h=>by
  rw[tO,bZ]at h;rcases h with h | h
  ·obtain⟨a,_,rfl⟩:=aF.mp h;exact⟨i,a,rfl⟩
  ·exact Bs L (i+1) p h
theorem V2(L:List (List dw))(i:Nat):ah (tO i L)=true:=by
 have:∀l:List PV,(∀p∈l,noRef p=true)->ah l=true:=λl=>by
  induction l with
  | nil=>intro _;rfl
  | cons p l ih=>intro h;simp[ah,h p aN,ih λq hq=>h q (aK _ hq)]
 exact this _ λp hp=>by
  obtain⟨j,a,rfl⟩:=Bs L i p hp;rfl
theorem V3{P F:PV}{at_:Int}{a b d e:PV}{L:List (PV×List dw)}(k:Nat)(hP:∀h,bW h P (.int at_)=some F)(hF:F=.ay [a,b,d,e,.ay (L.map (·.1))])(hN:noRef F=true)(hM:∀q∈L,Ma (run txt k) F q.1 q.2)(hl:L.length<=1000):Gives (run txt (k+1) "acts" [P,.int at_] []) (.lst (tO 0 (L.map (·.2)))):=by
 rw[L3];obtain⟨RX,y9,RY,q⟩:=vT hN (some P) (some (.int at_)) L 0 [] none none none hM (by simp;lia)
 have h4:∀h,bW h F (.int 4)=some (.ay (L.map (·.1))):=λh=>by rw[hF];rfl
 refine⟨_,_,jT (sq (aS (b2 rfl rfl (hP _)) rfl) (sq rfl (sq (fS (sG (eV (b2 rfl rfl (h4 _)) rfl)) q) (rS rfl)))),?_⟩;exact mi (V2 _ _)
theorem Em{h:List az}{n:Nat}{ps:List PV}(hc:h[n]?=some ⟨.lst,ps⟩)(hp:ah ps=true):oF h (.ref n)=some (.lst ps):=by
 have hne:h.isEmpty=false:=by
  cases h with
  | nil=>simp at hc
  | cons a r=>rfl
 unfold oF;rw[hne,if_neg d9];unfold yY;rw[if_neg (by simp[noRef])]
 show((h[n]?).bind _)=_;rw[hc,dO];show(if live ⟨.lst,ps⟩=true then(di (yY h 3) ps).map (PV.nd .lst)else none)=_
 rw[if_pos (show live ⟨.lst,ps⟩=true from rfl),L9 ps hp]
 rfl
theorem yH:∀t:fH,ah (t.map toldP)=true
 | []=>rfl
 | q::t=>by
  have:noRef (toldP q)=true:=by
   have h:∀l:List bB,ah (l.map oJ++[.int q.2])=true:=λl=>by
    induction l with
    | nil=>rfl
    | cons k l ih=>simp only[aM,List.cons_append,ah,LX,ih,Bool.and_self]
   simpa[toldP,noRef]using h q.1
  simp[ah,this,yH t]
theorem Mb{c:CT}{rs:(PV->Gx PV)->Nat->oE}{fe fb:Gx PV}{link:List (Option Nat)}{s s1:cC}{p:PV}{fk:List (List bB)}{res:fH}{out:List bB->Option (List (List bB))}(h:Ev fe s p s1)(hp:p=.lst (fk.map cV)\/∃j,p=.ref j/\s1.h[j]?=some ⟨.lst,fk.map cV⟩)
  (hc:c "tell_new"=dU A3 5) (hrs:∀ω n,rs ω n=dU (VS c ω n) 5) (hk:∀f∈fk,f.length<1000) (hl:fk.length<4000000) (hs:gP out vG 0 (dj [] (-1) fk)=some res)
  (hb:∀g fs,out g=some fs->(∀f∈fs,f.length<1000)/\∀ag,∃DU,fb ⟨some (cV g)::bO link s1.ρ,hS (s1.h++[mV]) ag⟩=some (.ok (.lst (fs.map cV)),⟨DU,hS (s1.h++[mV]) ag⟩)) :
  Ev (HJ rs fe fb link) s (.ref (s1.h.length+1)) ⟨s1.ρ,hS (s1.h++[mV]) res⟩:=by
 refine eB h ?_;have hd:(s1.h++[mV]).length=s1.h.length+1:=by simp
 have r:=Pw (ω:=O6 fb (bO link s1.ρ)) (n:=s1.h.length) hc (λg fs e=>⟨(hb g fs e).1,λag ρ=>by
  obtain⟨DU,e2⟩:=(hb g fs e).2 ag;show(fb ⟨some (cV g)::bO link s1.ρ,hS (s1.h++[mV]) ag⟩).bind _=_;rw[e2];rfl⟩) (hp.imp id λ⟨j,h1,h2⟩=>⟨j,h1,by rw[iA (cf.mp h2).1];exact h2⟩) hk hl hs
 show(rs (O6 fb (bO link s1.ρ)) s1.h.length [p,.ref s1.h.length] (s1.h++[mV])).map _=_;rw[hrs,r,hd];rfl
noncomputable def kN(n:Nat):List bB:=[.inl (n:Int)]
def iN(n:Nat):PV:=.int (n:Int)
def nT(l:List Nat):PV:=.ay (l.map iN)
structure V4 (ls:List (List Nat)) (N:Nat):Prop where
 len:ls.length=N
 ok:∀l∈ls,l.length<=2/\∀m∈l,m<N
 pos:0<N
 few:N<128
def En(ls:List (List Nat)):List bB->Option (List (List bB))
 | [.inl i]=>if 0<=i then(ls[i.toNat]?).map λl=>l.map kN else none
 | _=>none
theorem FX{ls:List (List Nat)}{n:Nat}{l:List Nat}(hl:ls[n]?=some l):En ls (kN n)=some (l.map kN):=by
 show(if(0:Int)<=(n:Int)then(ls[(n:Int).toNat]?).map _ else none)=_
 rw[if_pos (by lia),gg,hl]
 rfl
theorem Mc{a b:Nat}(h:kN a=kN b):a=b:=by
 unfold kN at h;injection h with h _
 injection h with h
 exact Int.ofNat.inj h
theorem FY(k:Nat):run txt (k+1) "tell_new"=dU A3 5:=yo k
theorem Me(k:Nat)(ω:PV->Gx PV)(n:Nat):dU (VE txt m8 (run txt k) ω n) 5=dU (VS (run txt k) ω n) 5:=by
 rw[Ec];rfl
theorem Mf{ls:List (List Nat)}{N:Nat}(H:V4 ls N)(hd:List az)(g:List bB)(fs:List (List bB))(e:En ls g=some fs):(∀f∈fs,f.length<1000)/\∀ag,∃DU,Qi ⟨some (cV g)::[some (.lst (ls.map nT))],hS hd ag⟩=some (.ok (.lst (fs.map cV)),⟨DU,hS hd ag⟩):=by
 unfold En at e;split at e
 ·rename_i i;obtain⟨h0,e⟩:=bX e;obtain⟨l,h1,rfl⟩:=bt e;refine⟨λf hf=>?_,λag=>⟨some (cV [.inl i])::[some (.lst (ls.map nT))],?_⟩⟩
  ·obtain⟨m,_,rfl⟩:=aF.mp hf;show 1<1000
   lia
  ·have h2:=(H.ok l (dN h1)).1;have ix:∀h,bW h (.lst (ls.map nT)) (.int i)=some (nT l):=λh=>by
    have:=atI_nat (v:=nT l) (by rw[bR,h1];rfl)
    rw[lM h0]at this;exact this
   have r:=cM (link:=[none,none]) (bd:=k7 (aR 1) (mq .ay Q0)) (s:=⟨some (cV [.inl i])::[some (.lst (ls.map nT))],hS hd ag⟩) (e:=iN) (G:=λm=>cV (kN m)) (fi:=ik Q5) (sV (p:=nT l) (b2 (x:=.lst (ls.map nT)) (y:=.int i) rfl (b2 rfl rfl rfl) (ix _)) rfl) (by lia) (λm _=>e1 (sH:=[none,some (iN m)]) (h1:=hS hd ag) rfl (tU (cA rfl rfl) (show 1<=4000000 by decide)))
   rw[b6];exact r
 ·cases e
theorem Eo{ls:List (List Nat)}{N:Nat}(H:V4 ls N):∃(ag:fH) (ns:List Nat),(∀k,Gives (run txt (k+2) "arrivals" [.lst (ls.map nT)] []) (.lst (ag.map toldP)))/\ag.map (·.1)=ns.map kN/\ns.Nodup/\(∀n∈ns,n<N)/\VP (En ls) [kN 0] ag/\DZ (En ls) ag ag.length/\0∈ns:=by
 have hU:∀g∈(List.range N).map kN,∃fs,En ls g=some fs/\(∀f∈fs,f∈(List.range N).map kN)/\fs.length<=2:=λg hg=>by
  obtain⟨n,hn,rfl⟩:=aF.mp hg;rw[ee]at hn;obtain⟨l,hl⟩:∃l,ls[n]?=some l:=⟨_,cO (by rw[H.len];exact hn)⟩
  obtain⟨h1,h2⟩:=H.ok l (dN hl);refine⟨_,FX hl,λf hf=>?_,by rw[ak];exact h1⟩
  obtain⟨m,hm,rfl⟩:=aF.mp hf;exact aF.mpr ⟨m,ee.mpr (h2 m hm),rfl⟩
 have eA:((List.range N).map kN).length=N:=by simp
 have hf:=H.few;obtain⟨ag,t1,t2,t3,t4,t5,t6⟩:=sZ (En ls) [kN 0] ((List.range N).map kN) 2 (by rw[eA];show N+2<4000000;lia) (by rw[eA];show N<3000000;lia) hU (λf hf=>by
  rw[bC]at hf;subst hf;exact aF.mpr ⟨0,ee.mpr H.pos,rfl⟩)
 have t3':∀f∈ag.map (·.1),∃n,n<N/\f=kN n:=λf hf=>by
  obtain⟨t,ht,rfl⟩:=aF.mp hf;obtain⟨n,hn,e⟩:=aF.mp (t3 t ht);exact⟨n,ee.mp hn,e.symm⟩
 obtain⟨ns,e1,e2⟩:∃ns:List Nat,ag.map (·.1)=ns.map kN/\∀n∈ns,n<N:=by
  revert t3'
  generalize ag.map (·.1)=fs
  intro t3';induction fs with
  | nil=>exact⟨[],rfl,λ_ z=>nomatch z⟩
  | cons f fs ih =>
   obtain⟨n,hn,rfl⟩:=t3' f aN;obtain⟨ns,q1,q2⟩:=ih λg hg=>t3' g (aK _ hg)
   exact⟨n::ns,by rw[aM,q1],λm hm=>(aU.mp hm).elim (λz=>by rw[z];exact hn) (q2 m)⟩
 refine⟨ag,ns,?_,e1,?_,e2,t4,t5,?_⟩
 ·intro k;rw[yp];have r:=Mb (fe:=mq .lst Qm) (link:=[some 0]) (s1:=S0 [some (.lst (ls.map nT))]) rfl (.inl rfl) (FY k) (Me (k+1)) (λf hf=>by rw[bC]at hf;subst hf;decide) (by decide) t1 (Mf H _)
  exact⟨_,_,jT (rS r),Em (VR) (yH ag)⟩
 ·rw[e1]at t2;exact List.Pairwise.imp (λ{a b} h z=>h (by rw[z])) (List.pairwise_map.mp t2)
 ·have:=t6 (kN 0) (bC.mpr rfl);rw[e1]at this;obtain⟨n,hn,e⟩:=aF.mp this;rw[<-Mc e];exact hn
def eN(q:Nat×dw):PV:=lj q.1 q.2
def ij:Nat->List (List dw)->List (Nat×dw)
 | _,[]=>[]
 | i,as::r=>(gy as).map (λa=>(i,a))++ij (i+1) r
theorem ni:∀(L:List (List dw)) (i:Nat),tO i L=(ij i L).map eN
 | [],_=>rfl
 | as::L,i=>by
  rw[tO,ij,cG,b6,ni L (i+1)];rfl
theorem Bt:∀(L:List (List dw)) (i:Nat),∀q∈ij i L,i<=q.1/\q.1<i+L.length
 | [],_,_,h=>nomatch h
 | as::L,i,q,h=>by
  rw[ij,bZ]at h;rw[aW];rcases h with h | h
  ·obtain⟨a,_,rfl⟩:=aF.mp h;show i<=i/\i<i+(L.length+1)
   lia
  ·have:=Bt L (i+1) q h
   lia
theorem tP:∀(L:List (List dw)) (i j:Nat),i<=j->j<i+L.length->∃a,(j,a)∈ij i L
 | [],_,_,h1,h2=>by simp at h2;lia
 | as::L,i,j,h1,h2=>by
  rw[aW]at h2;by_cases e:j=i
  ·subst e;obtain⟨a,ha⟩:∃a,a∈gy as:=by
    cases as with
    | nil=>exact⟨L7,aN⟩
    | cons a r=>exact⟨a,aN⟩
   exact⟨a,by rw[ij];exact iB _ (aF.mpr ⟨a,ha,rfl⟩)⟩
  ·obtain⟨a,ha⟩:=tP L (i+1) j (by lia) (by lia)
   exact⟨a,by rw[ij];exact dD _ ha⟩
noncomputable def ez(kvs:List (bB×PV))(k:bB):Option PV:=(kvs.find? λkv=>decide (kv.1=k)).map (·.2)
def W5(N:Nat)(kvs:List (bB×PV)):Prop:=∀q∈kvs,∃m:Nat,q.2=.int (m:Int)/\m<N
theorem Ep(kvs:List (bB×PV))(k:bB)(p:PV):(ez (kvs++[(k,p)]) k).isSome=true:=by
 unfold ez;rw[Cj,List.find?_isSome];exact⟨(k,p),by simp,by simp⟩
theorem tQ(kvs ms:List (bB×PV))(k:bB)(h:(ez kvs k).isSome=true):(ez (kvs++ms) k).isSome=true:=by
 unfold ez at h ⊢;rw[Cj,List.find?_isSome]at h ⊢;obtain⟨x,h1,h2⟩:=h;exact⟨x,iB _ h1,h2⟩
theorem Mg{N:Nat}{kvs:List (bB×PV)}(h:W5 N kvs){k:bB}(hk:(ez kvs k).isSome=true):∃m:Nat,ez kvs k=some (.int (m:Int))/\m<N:=by
 unfold ez at hk ⊢;cases e:kvs.find? λkv=>decide (kv.1=k)with
 | none=>rw[e]at hk;cases hk
 | some q =>
  obtain⟨m,h1,h2⟩:=h q (List.mem_of_find?_eq_some e);exact⟨m,by rw[iH,h1],h2⟩
def FZ:List (Nat×dw)->Nat->List (bB×PV)->List (bB×PV)
 | [],_,kvs=>kvs
 | (j,_)::as,i,kvs=>match ez kvs (.inl (j:Int))with
  | some _=>FZ as (i+1) kvs
  | none=>FZ as (i+1) (kvs++[(.inl (j:Int),.int (i:Int))])
noncomputable def dC(kvs:List (bB×PV)):az:=⟨.gR false (kvs.map λq=>[q.1]),kvs.map (·.2)⟩
theorem tV(k:bB):∀kvs:List (bB×PV),jO [k] (kvs.map λq=>[q.1]) (kvs.map (·.2))=ez kvs k
 | []=>rfl
 | q::kvs=>by
  have ih:=tV k kvs;unfold ez at ih ⊢;rw[aM,aM,jO];by_cases h:q.1=k
  ·rw[if_pos (by rw[h]),List.find?_cons_of_pos (by simpa using h)]
   rfl
  ·rw[if_neg (by simpa using h),List.find?_cons_of_neg (by simpa using h),ih]
theorem F6(k:bB):∀kvs:List (bB×PV),lZ [k] (kvs.map λq=>[q.1])=(ez kvs k).isSome
 | []=>rfl
 | q::kvs=>by
  have ih:=F6 k kvs;unfold ez lZ at ih ⊢;rw[aM,jr];by_cases h:q.1=k
  ·rw[List.find?_cons_of_pos (by simpa using h),dE (by rw[h])]
   rfl
  ·rw[List.find?_cons_of_neg (by simpa using h),j9 (by simpa using h),Bool.false_or,ih]
theorem V5{ρ:List (Option PV)}{r:List az}{kvs:List (bB×PV)}{j:Int}{y:PV}(hl:kvs.length<4000000):∃p,l0 Hw (.ref 0) [.int j,y] ⟨ρ,dC kvs::r⟩=some (.ok p,⟨ρ,(match ez kvs (.inl j)with | some _=>dC kvs | none=>dC (kvs++[(.inl j,y)]))::r⟩):=by
 have e:l0 Hw (.ref 0) [.int j,y] ⟨ρ,dC kvs::r⟩=(if(kvs.map λq=>[q.1]).length<f9 then(if lZ [.inl j] (kvs.map λq=>[q.1])=true then(jO [.inl j] (kvs.map λq=>[q.1]) (kvs.map (·.2))).map λp=>(dC kvs,p)else some (⟨.gR false ((kvs.map λq=>[q.1])++[[.inl j]]),kvs.map (·.2)++[y]⟩,y))else none).map λr'=>(.ok r'.2,⟨ρ,(dC kvs::r).set 0 r'.1⟩):=rfl
 rw[e,if_pos (show(kvs.map λq=>[q.1]).length<f9 by rw[ak];exact hl),F6,tV]
 cases ez kvs (.inl j)with
 | some v=>exact⟨v,rfl⟩
 | none=>exact⟨y,by simp[dC]⟩
theorem mtD{w:PV->List PV->Gx PV}{fo:Gx PV}{ts:Gx (List PV)}{s s1 s2:cC}{n:Nat}{ks:List (List bB)}{t:Bool}{ps as:List PV}{r:Option (Rs PV×cC)}(h1:Ev fo s (.ref n) s1)(hc:s1.h[n]?=some ⟨.gR t ks,ps⟩)(h2:Ev ts s1 as s2)(h3:w (.ref n) as s2=r):Dx "dict" w fo ts s=r:=by
 refine eB h1 (eB (a:=()) ?_ (eB h2 h3));show((cX s1.h (.ref n)).bind _).map _=_;have e:cX s1.h (.ref n)=some (.gR t ks,ps):=by
  show(s1.h[n]?).bind _=_;rw[hc];rfl
 rw[e];rfl
theorem kD(c:CT)(P I A:PV):∀(as:List (Nat×dw)) (i:Nat) (kvs:List (bB×PV)) (x4 x5:Option PV),W5 i kvs->kvs.length<=i->i+as.length<=90000 ->
  (∃RX y9,du (jB 2 Q6) (vJ c) (fQ i (as.map eN)) ⟨[some P,some I,some A,some (.ref 0),x4,x5,none],[dC kvs]⟩=some (.ok .nx,⟨[some P,some I,some A,some (.ref 0),RX,y9,none],[dC (FZ as i kvs)]⟩))/\W5 (i+as.length) (FZ as i kvs)/\(∃ms,FZ as i kvs=kvs++ms)/\∀q∈as,(ez (FZ as i kvs) (.inl (q.1:Int))).isSome=true
 | [],i,kvs,x4,x5,h,_,_=>⟨⟨x4,x5,rfl⟩,h,⟨[],by simp[FZ]⟩,λ_ z=>nomatch z⟩
 | (j,a)::as,i,kvs,x4,x5,h,hl,hz=>by
  rw[aW]at hz;have ui:jB 2 Q6 (Aq (.int (i:Int)) (lj j a)) ⟨[some P,some I,some A,some (.ref 0),x4,x5,none],[dC kvs]⟩=some ⟨[some P,some I,some A,some (.ref 0),some (.int (i:Int)),some (lj j a),none],[dC kvs]⟩:=rfl;obtain⟨p,hp⟩:=V5 (kvs:=kvs) (by lia)
  have hb:Ev (vJ c) ⟨[some P,some I,some A,some (.ref 0),some (.int (i:Int)),some (lj j a),none],[dC kvs]⟩ .nx ⟨[some P,some I,some A,some (.ref 0),some (.int (i:Int)),some (lj j a),none],[match ez kvs (.inl (j:Int))with | some _=>dC kvs | none=>dC (kvs++[(.inl (j:Int),.int (i:Int))])]⟩:=dS (mtD rfl rfl (cA (b2 rfl rfl rfl) (cA rfl rfl)) hp)
  cases e:ez kvs (.inl (j:Int))with
  | some v =>
   have ek:FZ ((j,a)::as) i kvs=FZ as (i+1) kvs:=by rw[FZ,e]
   rw[e]at hb;obtain⟨⟨y4,y5,h1⟩,h2,⟨ms,h3⟩,h4⟩:=kD c P I A as (i+1) kvs (some (.int (i:Int))) (some (lj j a)) (λq hq=>by obtain⟨m,z1,z2⟩:=h q hq;exact⟨m,z1,by lia⟩) (by lia) (by lia)
   rw[ek];refine⟨⟨y4,y5,fC ui hb h1⟩,?_,⟨ms,h3⟩,λq hq=>?_⟩
   ·rw[aW,show i+(as.length+1)=i+1+as.length by lia];exact h2
   ·rcases aU.mp hq with rfl | hq
    ·rw[h3];exact tQ _ _ _ (by rw[e];rfl)
    ·exact h4 q hq
  | none =>
   have ek:FZ ((j,a)::as) i kvs=FZ as (i+1) (kvs++[(.inl (j:Int),.int (i:Int))]):=by rw[FZ,e]
   rw[e]at hb;obtain⟨⟨y4,y5,h1⟩,h2,⟨ms,h3⟩,h4⟩:=kD c P I A as (i+1) (kvs++[(.inl (j:Int),.int (i:Int))]) (some (.int (i:Int))) (some (lj j a)) (λq hq=>by
    rcases bZ.mp hq with hq | hq
    ·obtain⟨m,z1,z2⟩:=h q hq;exact⟨m,z1,by lia⟩
    ·rw[bC]at hq;subst hq;exact⟨i,rfl,by lia⟩) (by rw[bu];simp;lia) (by lia)
   rw[ek];refine⟨⟨y4,y5,fC ui hb h1⟩,?_,⟨(.inl (j:Int),.int (i:Int))::ms,by rw[h3];simp⟩,λq hq=>?_⟩
   ·rw[aW,show i+(as.length+1)=i+1+as.length by lia];exact h2
   ·rcases aU.mp hq with rfl | hq
    ·rw[h3];exact tQ _ _ _ (Ep _ _ _)
    ·exact h4 q hq
def yI(c:CT)(rows:PV)(n:Nat)(nx:Nat->List Nat):Prop:=∀j:Nat,j<n->Gives (c "row_nexts" [rows,.int (j:Int)] []) (nT (nx j))/\(nx j).length<=2/\∀m∈nx j,m<n
def tW(kvs:List (bB×PV))(m:Nat):Nat:=match ez kvs (.inl (m:Int))with
 | some (.int v)=>v.toNat
 | _=>0
theorem Bu{N:Nat}{kvs:List (bB×PV)}(h:W5 N kvs){m:Nat} (hk:(ez kvs (.inl (m:Int))).isSome=true):ez kvs (.inl (m:Int))=some (.int (tW kvs m:Int))/\tW kvs m<N:=by
 obtain⟨v,h1,h2⟩:=Mg h hk;have e:tW kvs m=v:=by unfold tW;rw[h1];rfl
 rw[e];exact⟨h1,h2⟩
def qm(as:List (Nat×dw))(kvs:List (bB×PV))(nx:Nat->List Nat)(i:Nat)(q:Nat×dw):List Nat:=if as[i+1]?.map (·.1)=some q.1 then [i+1]else(nx q.1).map (tW kvs)
def Nc(as:List (Nat×dw))(kvs:List (bB×PV))(nx:Nat->List Nat):Nat->List (Nat×dw)->List (List Nat)
 | _,[]=>[]
 | i,q::bs=>qm as kvs nx i q::Nc as kvs nx (i+1) bs
theorem oT(h:List az)(i j:Int):k0 h (.int i) (.int j)=some (.bl (i==j)):=rfl
theorem kT:∀l:List Nat,ah (l.map iN)=true
 | []=>rfl
 | n::l=>by simp[ah,iN,noRef,kT l]
section
variable {c:CT} {fs:List PV} {I:Int} {nm res rows:PV} {R1 R2:List Rk} {n:Nat} {as:List (Nat×dw)} {kvs:List (bB×PV)} {nx:Nat->List Nat}
theorem Er(hP:L2.mn fs I=some (BY nm res rows R1 R2))(hN:noRef rows=true)(hR:yI c rows n nx)(hk:W5 as.length kvs) (hf:∀j:Nat,j<n->(ez kvs (.inl (j:Int))).isSome=true) (hl:as.length<=90000)
  (i:Nat) (q:Nat×dw) (hq:as[i]?=some q) (hr:∀q∈as,q.1<n) (ag:List PV) (ht:ag.length<=90000) :
  Ev (oQ c) ⟨[some (.ay fs),some (.int I),some (.lst (as.map eN)),some (.ref 0),some (.int (i:Int)),some (eN q),some (.ref 1)],[dC kvs,⟨.lst,ag⟩]⟩ .nx ⟨[some (.ay fs),some (.int I),some (.lst (as.map eN)),some (.ref 0),some (.int (i:Int)),some (eN q),some (.ref 1)],[dC kvs,⟨.lst,ag++[nT (qm as kvs nx i q)]⟩]⟩/\(qm as kvs nx i q).length<=2/\∀m∈qm as kvs nx i q,m<as.length:=by
 have hi:i<as.length:=(cf.mp hq).1;obtain⟨s,hs⟩:∃s:cC,s=⟨[some (.ay fs),some (.int I),some (.lst (as.map eN)),some (.ref 0),some (.int (i:Int)),some (eN q),some (.ref 1)],[dC kvs,⟨.lst,ag⟩]⟩:=⟨_,rfl⟩
 rw[<-hs];have fO:Ev (toB (op2 Km Qp Q7)) s (decide (((i:Int)+1)<(as.length:Int))) s:=by
  rw[hs];refine bT (b2 (y:=.int (as.length:Int)) rfl (bV (cA rfl rfl) ?_) rfl);show some (PV.int (((as.map eN).length:Nat):Int))=_;rw[ak]
 have go:∀b:Bool,Ev (fG (toB (op2 Km Qp Q7)) (toB (op2 k0 (op2 bW (op2 bW (rd 2) Qp) (kI 0)) Qg)) (aY false)) s b s->(b=true↔as[i+1]?.map (·.1)=some q.1) ->
   Ev (oQ c) s .nx ⟨[some (.ay fs),some (.int I),some (.lst (as.map eN)),some (.ref 0),some (.int (i:Int)),some (eN q),some (.ref 1)],[dC kvs,⟨.lst,ag++[nT (qm as kvs nx i q)]⟩]⟩/\(qm as kvs nx i q).length<=2/\∀m∈qm as kvs nx i q,m<as.length:=λb hb h1=>by
  cases b with
  | true =>
   have h2:=h1.mp rfl;have h3:i+1<as.length:=by
    cases z:as[i+1]? with
    | none=>rw[z]at h2;cases h2
    | some _=>exact(cf.mp z).1
   have en:qm as kvs nx i q=[i+1]:=if_pos h2;rw[en];refine⟨iT hb ?_,by simp,λm hm=>by simp at hm;lia⟩
   rw[hs];exact dS (BW rfl rfl (cA (tU (cA (b2 rfl rfl rfl) rfl) (by simp)) rfl) (aC rfl (by lia)))
  | false =>
   obtain⟨r1,r2,r3⟩:=hR q.1 (hr q (dN hq));have en:qm as kvs nx i q=(nx q.1).map (tW kvs):=if_neg λz=>nomatch h1.mpr z
   rw[en];refine⟨iF hb ?_,by rw[ak];exact r2,λm hm=>?_⟩
   ·rw[hs];have iP:∀h,bW h (.ay fs) (.int I)=some (BY nm res rows R1 R2):=λh=>hP
    refine dS (BW rfl rfl (cA (bV (cA (cM (G:=λm=>iN (tW kvs m)) (sV (cY (as:=[rows,.int (q.1:Int)]) (cA (b2 (b2 rfl rfl (iP _)) rfl rfl) (cA (b2 rfl rfl rfl) rfl)) rfl (by simp[ah,hN,noRef]) r1) rfl) (by lia) λm hm=>?_) rfl) ?_) rfl) (aC (n:=1) rfl (by lia)))
    ·refine e1 (sH:=[none,some (iN m),some (.ref 0)]) (h1:=[dC kvs,⟨.lst,ag⟩]) rfl (b2 (x:=.ref 0) (y:=.int (m:Int)) rfl rfl ?_);show jO [.inl (m:Int)] (kvs.map λq=>[q.1]) (kvs.map (·.2))=_
     rw[tV];exact(Bu hk (hf m (r3 m hm))).1
    ·unfold nT;rw[b6];rfl
   ·obtain⟨x,hx,rfl⟩:=aF.mp hm;exact(Bu hk (hf x (r3 x hx))).2
 by_cases h:i+1<as.length
 ·obtain⟨q',uz⟩:∃q',as[i+1]?=some q':=⟨_,cO h⟩
  refine go ((q'.1:Int)==(q.1:Int)) ?_ (by rw[uz];simp only[bh,iH,Option.some.injEq];lia)
  rw[dE (by lia)]at fO
  refine iT fO ?_;rw[hs];have ix:∀h,bW h (.lst (as.map eN)) (.int ((i:Int)+1))=some (eN q'):=λh=>atI_nat (xs:=as.map eN) (j:=i+1) (by rw[bR,uz];rfl)
  exact bT (b2 (x:=.int (q'.1:Int)) (y:=.int (q.1:Int)) (b2 (b2 rfl (b2 rfl rfl rfl) (ix _)) rfl rfl) (b2 rfl rfl rfl) (oT _ _ _))
 ·refine go false ?_ ⟨(λz=>nomatch z),λz=>by rw[j0 (by lia)]at z;cases z⟩
  rw[j9 (by lia)]at fO
  exact iF fO rfl
theorem tY(hP:L2.mn fs I=some (BY nm res rows R1 R2))(hN:noRef rows=true)(hR:yI c rows n nx)(hk:W5 as.length kvs) (hf:∀j:Nat,j<n->(ez kvs (.inl (j:Int))).isSome=true) (hl:as.length<=40000) (hr:∀q∈as,q.1<n):∀(bs pre:List (Nat×dw)) (ag:List PV) (x4 x5:Option PV),as=pre++bs->ag.length=pre.length ->
  ∃(RX y9:Option PV),du (jB 2 Q6) (oQ c) (fQ pre.length (bs.map eN)) ⟨[some (.ay fs),some (.int I),some (.lst (as.map eN)),some (.ref 0),x4,x5,some (.ref 1)],[dC kvs,⟨.lst,ag⟩]⟩=some (.ok .nx,⟨[some (.ay fs),some (.int I),some (.lst (as.map eN)),some (.ref 0),RX,y9,some (.ref 1)],[dC kvs,⟨.lst,ag++(Nc as kvs nx pre.length bs).map nT⟩]⟩)/\(Nc as kvs nx pre.length bs).length=bs.length/\∀l∈Nc as kvs nx pre.length bs,l.length<=2/\∀m∈l,m<as.length
 | [],pre,ag,x4,x5,_,_=>⟨x4,x5,by simp[Nc];rfl,rfl,λ_ z=>nomatch z⟩
 | q::bs,pre,ag,x4,x5,e,ht=>by
  have uj:pre.length<=as.length:=by rw[e,bu];lia
  have hq:as[pre.length]?=some q:=by rw[e];simp
  obtain⟨h1,h3,h4⟩:=Er hP hN hR hk hf (by lia) pre.length q hq hr ag (by lia)
  obtain⟨y4,y5,h5,h6,h7⟩:=tY hP hN hR hk hf hl hr bs (pre++[q]) (ag++[nT (qm as kvs nx pre.length q)]) (some (.int (pre.length:Int))) (some (eN q)) (by rw[e];simp) (by simp[ht])
  rw[show(pre++[q]).length=pre.length+1 by simp]at h5 h6 h7
  refine⟨y4,y5,?_,by simp[Nc,h6],λx hx=>?_⟩
  ·rw[aM,fQ,Nc,aM,show ag++nT (qm as kvs nx pre.length q)::(Nc as kvs nx (pre.length+1) bs).map nT=ag++[nT (qm as kvs nx pre.length q)]++(Nc as kvs nx (pre.length+1) bs).map nT by simp]
   exact fC rfl h1 h5
  ·rcases aU.mp hx with rfl | hx
   ·exact⟨h3,h4⟩
   ·exact h7 x hx
end
def qI(L:List (List dw))(nx:Nat->List Nat):List (List Nat):=Nc (ij 0 L) (FZ (ij 0 L) 0 []) nx 0 (ij 0 L)
theorem Mh:∀l:List (List Nat),ah (l.map nT)=true
 | []=>rfl
 | a::l=>by simp[ah,nT,noRef,kT,Mh l]
theorem PJ(k:Nat){fs:List PV}{I:Int}{nm res rows:PV}{R1 R2:List Rk}{L:List (List dw)}{nx:Nat->List Nat}(hP:L2.mn fs I=some (BY nm res rows R1 R2))(hN:noRef rows=true)(hA:Gives (run txt k "acts" [.ay fs,.int I] []) (.lst (tO 0 L)))(hR:yI (run txt k) rows L.length nx)(hz:(ij 0 L).length<=40000) :
  Gives (run txt (k+1) "nexts" [.ay fs,.int I] []) (.lst ((qI L nx).map nT))/\(qI L nx).length=(ij 0 L).length/\∀l∈qI L nx,l.length<=2/\∀m∈l,m<(ij 0 L).length:=by
 rw[ni]at hA;obtain⟨⟨x4,x5,h1⟩,h2,-,h4⟩:=kD (run txt k) (.ay fs) (.int I) (.lst ((ij 0 L).map eN)) (ij 0 L) 0 [] none none (λ_ z=>nomatch z) (by simp) (by lia)
 rw[fu]at h2;obtain⟨y4,y5,g1,g2,g3⟩:=tY hP hN hR h2 (λj hj=>by
  obtain⟨a,ha⟩:=tP L 0 j (dF _) (by lia)
  exact h4 _ ha) hz (λq hq=>by have:=Bt L 0 q hq;lia) (ij 0 L) [] [] x4 x5 rfl rfl
 refine⟨?_,g2,g3⟩;rw[H0];rw[fj]at g1;refine⟨_,_,jT (sq (aS (cY (cA rfl (cA rfl rfl)) rfl rfl hA) rfl) (sq rfl (sq (fS (sG (eV rfl rfl)) h1) (sq rfl (sq (fS (sG (eV rfl rfl)) g1) (rS rfl)))))),?_⟩;exact Em rfl (Mh _)
structure RZ (n j:Nat) (p:PV):Prop where
 ok:∃s,(∀h,bW h p (.int 0)=some (.str s))/\((s==(Str.ofString "go"))=true->∃m:Nat,(∀h,bW h p (.int 1)=some (iN m))/\m<n)/\((s==(Str.ofString "if"))=true->∃m:Nat,(∀h,bW h p (.int 3)=some (iN m))/\m<n)/\((s==(Str.ofString "give"))=false->(s==(Str.ofString "go"))=false->j+1<n)
def two(a b:Int):List Int:=if b<a then [b,a]else if a<b then [a,b]else [a]
theorem Mi(a b:Int):ir (oH (λi=>[a,b].getD i 0) 2)=two a b:=by
 have e:oH (λi=>[a,b].getD i 0) 2=if b=a then [a]else [a,b]:=by
  show lB (lB [] a) b=_;unfold lB;by_cases h:b=a
  ·simp[h]
  ·simp[h]
 rw[e];unfold two;by_cases h1:b<a
 ·rw[if_pos h1,if_neg (by lia)]
  show(if a<=b then [a,b]else [b,a])=_
  rw[if_neg (by lia)]
 ·rw[if_neg h1];by_cases h2:a<b
  ·rw[if_pos h2,if_neg (by lia)]
   show(if a<=b then [a,b]else [b,a])=_
   rw[if_pos (by lia)]
  ·rw[if_neg h2,if_pos (by lia)]
   rfl
noncomputable def Bw(a b:Nat):List Nat:=if b<a then [b,a]else if a<b then [a,b]else [a]
theorem Z6(a b:Nat):two (a:Int) (b:Int)=(Bw a b).map λn:Nat=>(n:Int):=by
 unfold two Bw;by_cases h1:b<a
 ·rw[if_pos (by lia),if_pos h1];rfl
 ·rw[if_neg (by lia),if_neg h1]
  by_cases h2:a<b
  ·rw[if_pos (by lia),if_pos h2];rfl
  ·rw[if_neg (by lia),if_neg h2];rfl
def cell(ns:List Int)(i:Nat):Int:=ns.getD i 0
theorem Mj(k:Nat)(ns:List Int)(i:Nat):Gives (run txt (k+1) "_law_cell_at" [y0 ns,.int (i:Int)] []) (.int (cell ns i)):=by
 rw[yu];have ln:gH [] [y0 ns]=some (.int (ns.length:Int)):=by
  show some (PV.int (((ns.map PV.int).length:Nat):Int))=_;rw[ak]
 have t:Ek (toB (op2 Km (rd 1) (gI gH (aq (rd 0) (aY []))))) (S0 [some (y0 ns),some (.int (i:Int))]) (decide ((i:Int)<(ns.length:Int))):=bT (b2 rfl (bV (cA rfl rfl) ln) rfl);by_cases h:i<ns.length
 ·rw[dE (by lia)]at t
  have ix:∀h,bW h (y0 ns) (.int (i:Int))=some (.int (cell ns i)):=λ_=>atI_nat (by rw[bR,cO h];simp[cell,h])
  exact gV (uM (iT t (rS (b2 rfl rfl (ix _))))) rfl
 ·rw[j9 (by lia)]at t
  have:cell ns i=0:=by simp[cell,List.getD,j0 (nV h)]
  rw[this];exact gV (sq (iF t rfl) (rS rfl)) rfl
theorem c8{h:List az}{i j:Int}(hj:0<j):gD h (.int i) (.int j)=some (.int (i%j)):=if_pos (dE hj)
theorem yJ{h:List az}{i j:Int}(hj:0<j/\j<1073741824):jc h (.int i) (.int j)=some (.int (i/j)):=if_pos (dE hj)
theorem Bx{h:List az}{i j:Int}(hj:(-E5<i/\i<E5)\/(-E5<j/\j<E5)):uE h (.int i) (.int j)=some (.int (i*j)):=if_pos (dE hj)
noncomputable def mxA:Nat->Int×Int
 | 0=>(48271,2147483647)
 | 1=>(69621,998244353)
 | 2=>(40692,1000000007)
 | _=>(16807,2147483629)
def Iv(c:Int)(i:Nat):Int:=(c%1000000000039+(i:Int))*(mxA i).1%(mxA i).2
theorem nj(k:Nat)(c:Int){i:Nat}(hi:i<4):Gives (run txt (k+1) "_law_mixed" [.int c,.int (i:Int)] []) (.int (Iv c i)):=by
 rw[D2];have hm:∀h,gD h (.int c) (.int 1000000000039)=some (.int (c%1000000000039)):=λ_=>c8 (by decide)
 match i,hi with
 | 0,_=>exact gV (sq (aS rfl rfl) (rS (b2 (b2 (b2 (b2 rfl rfl (hm _)) rfl rfl) rfl (Bx (.inr (by decide)))) rfl (c8 (by decide))))) rfl
 | 1,_=>exact gV (sq (aS rfl rfl) (rS (b2 (b2 (b2 (b2 rfl rfl (hm _)) rfl rfl) rfl (Bx (.inr (by decide)))) rfl (c8 (by decide))))) rfl
 | 2,_=>exact gV (sq (aS rfl rfl) (rS (b2 (b2 (b2 (b2 rfl rfl (hm _)) rfl rfl) rfl (Bx (.inr (by decide)))) rfl (c8 (by decide))))) rfl
 | 3,_=>exact gV (sq (aS rfl rfl) (rS (b2 (b2 (b2 (b2 rfl rfl (hm _)) rfl rfl) rfl (Bx (.inr (by decide)))) rfl (c8 (by decide))))) rfl
 | n+4,h=>lia
noncomputable def cp(n:Int):Nat:=97+(n%26).toNat
def lt(n:Int):Str:=⟨#[cp n]⟩
def fE(l:List Nat):Str:=⟨l.toArray⟩
theorem vU{a b:List Nat}(h:fE a=fE b):a=b:=by
 have:a.toArray=b.toArray:=ej Str.cps h;simpa using this
theorem Es(a b:List Nat):fE a++fE b=fE (a++b):=by
 show Str.append _ _=_;unfold Str.append fE;simp
theorem Z7(n:Int):lt n=fE [cp n]:=rfl
theorem F7:(Str.ofString "")=fE []:=by decide +kernel
theorem F8(l:List Nat):(fE l).length=l.length:=by
 unfold fE Str.length;simp
theorem Et:∀m:Fin 26,L2.mn (Str.ofString "abcdefghijklmnopqrstuvwxyz").cps.toList ((m:Nat):Int)=some (97+(m:Nat)):=by decide +kernel
theorem Iw(h:List az)(n:Int):bW h (.str "abcdefghijklmnopqrstuvwxyz") (.int (n%26))=some (.str (lt n)):=by
 have h0:=lQ n (show(26:Int)≠0 by decide)
 have h1:=wA n (show(0:Int)<26 by decide)
 obtain⟨m,hm⟩:=Int.eq_ofNat_of_zero_le h0;have:=Et ⟨m,by lia⟩
 show(if(Str.ofString "abcdefghijklmnopqrstuvwxyz").length<=f9 then(L2.mn (Str.ofString "abcdefghijklmnopqrstuvwxyz").cps.toList (n%26)).map λc=>PV.str ⟨#[c]⟩else none)=_
 rw[if_pos (by decide +kernel),hm,this]
 show some (PV.str ⟨#[97+m]⟩)=some (PV.str ⟨#[cp n]⟩);unfold cp;rw[hm,gg]
theorem V6{a b:Int}(h:cp a=cp b):a%26=b%26:=by
 unfold cp at h;have h0:=lQ a (show(26:Int)≠0 by decide)
 have h1:=lQ b (show(26:Int)≠0 by decide)
 lia
abbrev W6:PV:=.str "abcdefghijklmnopqrstuvwxyz"
def V7(B:List Int)(pl q i:Nat):Nat:=cp (B.getD i 0+(q:Int)*(if i=pl then 1 else 0))
def F9(B:List Int)(pl q:Nat):Str:=fE ((List.range B.length).map (V7 B pl q))
def nH(i:Nat):PV:=.int (0+(i:Int))
theorem nk{ts:Gx (List PV)}{s s1:cC}{j:Nat}(h:Ev ts s [iN j] s1)(hj:j<=4000000):Ev (Fj (sL xP ts)) s (.sq ((List.range j).map nH)) s1:=by
 refine sG (eB h ?_);show Option.map _ (if HA 0 (j:Int)=true then some (Du 0 (j:Int).toNat)else none)=_
 rw[if_pos (by unfold HA;rw[j6];lia),gg]
 rfl
section
variable (c:CT) (x0 x1:Option PV) (B:List Int) (pl q:Nat)
def nS(x0 x1:Option PV)(B:List Int)(pl:Nat)(x5 x8 x9:Option PV)(F:List PV):cC:=⟨[x0,x1,some W6,some (iN B.length),some (iN pl),x5,some (.lst (B.map .int)),some (.ref 0),x8,x9],[⟨.lst,F⟩]⟩
theorem By(F:List PV)(i:Nat)(hi:i<B.length)(N:List Nat)(hN:N.length<=100)(hq:q<=100):Ev (tj c) (nS x0 x1 B pl (some (nH i)) (some (nH q)) (some (.str (fE N))) F) .nx (nS x0 x1 B pl (some (nH i)) (some (nH q)) (some (.str (fE (N++[V7 B pl q i])))) F):=by
 have e0:∀j:Nat,nH j=iN j:=λj=>by unfold nH iN;rw[oe]
 rw[e0,e0];have hb:∀h,bW h (.lst (B.map PV.int)) (.int (i:Int))=some (.int (B.getD i 0)):=λ_=>atI_nat (by rw[bR,List.getD_eq_getElem?_getD,cO hi];rfl)
 have he:∀h,Hk h [.bl ((i:Int)==(pl:Int))]=some (.int (if i=pl then 1 else 0)):=λh=>by
  by_cases hh:i=pl
  ·rw[if_pos hh,hh,nU];rfl
  ·rw[if_neg hh,show((i:Int)==(pl:Int))=false by rw[jn];lia];rfl
 have hm:∀h,uE h (.int (q:Int)) (.int (if i=pl then 1 else 0))=some (.int ((q:Int)*(if i=pl then 1 else 0))):=λh=>Bx (.inr (by split<;>decide))
 have hs:∀h,eU h (.str (fE N)) (.str (lt (B.getD i 0+(q:Int)*(if i=pl then 1 else 0))))=some (.str (fE (N++[V7 B pl q i]))):=λh=>by
  have e:eU h (.str (fE N)) (.str (lt (B.getD i 0+(q:Int)*(if i=pl then 1 else 0))))=sizeOk ((fE N).length+(lt (B.getD i 0+(q:Int)*(if i=pl then 1 else 0))).length) (.str (fE N++lt (B.getD i 0+(q:Int)*(if i=pl then 1 else 0)))):=rfl
  rw[e,Z7,Es,F8,F8];exact if_pos (show N.length+1<=f9 by have:f9=4000000:=rfl;lia)
 exact aS (b2 rfl (b2 rfl (b2 (b2 (b2 rfl rfl (hb _)) (b2 rfl (bV (cA (b2 rfl rfl (oT _ _ _)) rfl) (he _)) (hm _)) rfl) rfl (c8 (by decide))) (Iw _ _)) (hs _)) rfl
theorem pP(F:List PV)(hq:q<=100):∀(BX pre:List Nat) (x5:Option PV),List.range B.length=pre++BX->B.length<=50->∃y9,du (aR 5) (tj c) (BX.map nH) (nS x0 x1 B pl x5 (some (nH q)) (some (.str (fE (pre.map (V7 B pl q))))) F)=some (.ok .nx,nS x0 x1 B pl y9 (some (nH q)) (some (.str (F9 B pl q))) F)
 | [],pre,x5,e,_=>⟨x5,by unfold F9;rw[e,fq];rfl⟩
 | i::BX,pre,x5,e,hl=>by
  have hi:i<B.length:=ee.mp (by rw[e];simp)
  have hp:pre.length<=B.length:=by
   have:=ej List.length e;rw[jo,bu]at this
   lia
  have hb:=By c x0 x1 B pl q F i hi (pre.map (V7 B pl q)) (by rw[ak];lia) hq
  obtain⟨y9,h⟩:=pP F hq BX (pre++[i]) (some (nH i)) (by rw[e];simp) hl
  rw[cG]at h;exact⟨y9,fC rfl hb h⟩
theorem Iy(F:List PV)(hF:F.length<=100)(hq:q<=100)(hl:B.length<=50)(x5 x9:Option PV):∃y9,Ev (tq c) (nS x0 x1 B pl x5 (some (nH q)) x9 F) .nx (nS x0 x1 B pl y9 (some (nH q)) (some (.str (F9 B pl q))) (F++[.str (F9 B pl q)])):=by
 obtain⟨y9,h⟩:=pP c x0 x1 B pl q F hq (List.range B.length) [] x5 rfl hl;refine⟨y9,sq (s1:=nS x0 x1 B pl x5 (some (nH q)) (some (.str (fE []))) F) (by rw[<-F7];rfl) (sq (fS (nk rfl (by lia)) h) (dS (BW rfl rfl (cA rfl rfl) (aC rfl (by lia)))))⟩
end
theorem tZ(c:CT)(x0 x1:Option PV)(B:List Int)(pl:Nat)(hl:B.length<=50):∀(qs:List Nat) (F:List PV) (x5 x8 x9:Option PV),(∀q∈qs,q<=100)->F.length+qs.length<=100->∃y9 x8' x9',du (aR 8) (tq c) (qs.map nH) (nS x0 x1 B pl x5 x8 x9 F)=some (.ok .nx,nS x0 x1 B pl y9 x8' x9' (F++qs.map λq=>.str (F9 B pl q)))
 | [],F,x5,x8,x9,_,_=>⟨x5,x8,x9,by simp;rfl⟩
 | q::qs,F,x5,x8,x9,hq,hz=>by
  rw[aW]at hz;obtain⟨y5,h⟩:=Iy c x0 x1 B pl q F (by lia) (hq q aN) hl x5 x9
  obtain⟨z5,z8,z9,h2⟩:=tZ c x0 x1 B pl hl qs (F++[.str (F9 B pl q)]) y5 (some (nH q)) (some (.str (F9 B pl q))) (λr hr=>hq r (aK _ hr)) (by simp;lia)
  refine⟨z5,z8,z9,?_⟩;rw[aM,aM,show F++PV.str (F9 B pl q)::qs.map (λq=>PV.str (F9 B pl q))=F++[PV.str (F9 B pl q)]++qs.map (λq=>PV.str (F9 B pl q)) by simp]
  exact fC rfl h h2
theorem PK{B:List Int}{pl q q':Nat}(hp:pl<B.length)(h1:q<26)(h2:q'<26)(h:F9 B pl q=F9 B pl q'):q=q':=by
 have h:=vU h;have at_:∀q:Nat,((List.range B.length).map (V7 B pl q))[pl]?=some (cp (B.getD pl 0+(q:Int))):=λq=>by
  rw[bR,qW hp];simp[V7]
 have e:=ej (λl=>l[pl]?) h
 simp only[at_]at e;have:=V6 (cH e)
 lia
noncomputable def Bz(C:Int):Nat:=(1+C%8).toNat
def PL(C:Int):List Int:=(List.range (Bz C)).map fun(i:Nat)=>(C/(64+9*(i:Int)*i)+5*(i:Int))%26
def PM(C:Int):Nat:=(C/8%(Bz C:Int)).toNat
theorem qJ(C:Int):(PL C).length=Bz C:=by simp[PL]
theorem yK(C:Int):1<=Bz C/\Bz C<=8/\(Bz C:Int)=1+C%8:=by unfold Bz;lia
theorem Ml(C:Int):PM C<(PL C).length/\(PM C:Int)=C/8%(Bz C:Int):=by
 have h:=yK C;have h0:=lQ (C/8) (show(Bz C:Int)≠0 by lia)
 have h1:=wA (C/8) (show(0:Int)<(Bz C:Int) by lia)
 rw[qJ];unfold PM
 lia
def jk(C:Int)(q:Nat):Str:=F9 (PL C) (PM C) q
theorem PN{C:Int}{q q':Nat}(h1:q<26)(h2:q'<26)(h:jk C q=jk C q'):q=q':=PK (Ml C).1 h1 h2 h
theorem V8(C:Int)(q:Nat):(jk C q==(Str.ofString ""))=false:=by
 rw[F7,jn];intro h;have:=ej List.length (vU h);rw[ak,jo,qJ]at this;have:=yK C;simp at *
 lia
theorem Iz(C:Int)(x1 x2 x4 x5 x6 x7 x8 x9:Option PV):Ek (dh false [none,none,some 0] (Fj (sL xP Q3)) (k7 (aR 1) (op2 gD (op2 eU (op2 jc (rd 2) (op2 eU (kI 64) (op2 uE (op2 uE (kI 9) (rd 1)) (rd 1)))) (op2 uE (kI 5) (rd 1))) (kI 26)))) (S0 [some (.int C),x1,x2,some (iN (Bz C)),x4,x5,x6,x7,x8,x9]) (.lst ((PL C).map .int)):=by
 have hl:=yK C;unfold PL;rw[b6];refine cM (nk (cA rfl rfl) (by lia)) (by rw[jo];lia) λi hi=>?_
 have hi:=ee.mp hi;have hi7:i<=7:=by lia
 have e0:nH i=iN i:=by unfold nH iN;rw[oe]
 rw[e0];have hB:E5=18446744073709551616\/1000<E5:=by right;decide
 have h9:∀h,uE h (.int 9) (.int (i:Int))=some (.int (9*(i:Int))):=λ_=>Bx (.inl (by decide))
 have hsq:0<=9*(i:Int)*i/\9*(i:Int)*i<=441:=by
  have:i=0\/i=1\/i=2\/i=3\/i=4\/i=5\/i=6\/i=7:=by lia
  rcases this with rfl | rfl | rfl | rfl | rfl | rfl | rfl | rfl<;>simp
 have hmm:∀h,uE h (.int (9*(i:Int))) (.int (i:Int))=some (.int (9*(i:Int)*i)):=λ_=>Bx (.inr (by
  have:i=0\/i=1\/i=2\/i=3\/i=4\/i=5\/i=6\/i=7:=by lia
  rcases this with rfl | rfl | rfl | rfl | rfl | rfl | rfl | rfl<;>decide))
 have h5:∀h,uE h (.int 5) (.int (i:Int))=some (.int (5*(i:Int))):=λ_=>Bx (.inl (by decide))
 exact e1 rfl (b2 (b2 (b2 rfl (b2 rfl (b2 (b2 rfl rfl (h9 _)) rfl (hmm _)) rfl) (yJ (by lia))) (b2 rfl rfl (h5 _)) rfl) rfl (c8 (by decide)))
def nmL(C:Int)(n:Nat):List PV:=(List.range n).map λq=>.str (jk C q)
theorem gB{α:Type}(f:α->Str):∀l:List α,ah (l.map λa=>PV.str (f a))=true
 | []=>rfl
 | _::l=>by rw[aM];simp[ah,noRef,gB f l]
theorem PQ(k:Nat)(C:Int)(n:Nat)(hn:n<=26):Gives (run txt (k+1) "_law_names" [.int C,iN n] []) (.lst (nmL C n)):=by
 have hl:=yK C;have hp:=Ml C;rw[D3];obtain⟨x5,x8,x9,h⟩:=tZ (run txt k) (some (.int C)) (some (iN n)) (PL C) (PM C) (by rw[qJ];lia) (List.range n) [] none none none (λq hq=>by have:=ee.mp hq;lia) (by simp;lia)
 rw[fj]at h;have a1:Ev (dc (op2 eU (kI 1) (op2 gD (rd 0) (kI 8))) (aR 3)) (S0 [some (.int C),some (iN n),some W6,none,none,none,none,none,none,none]) .nx (S0 [some (.int C),some (iN n),some W6,some (iN (Bz C)),none,none,none,none,none,none]):=by
  have e:iN (Bz C)=.int (1+C%8):=by unfold iN;rw[hl.2.2]
  rw[e];exact aS (b2 rfl (b2 rfl rfl (c8 (by decide))) rfl) rfl
 have a2:Ev (dc (op2 gD (op2 jc (rd 0) (kI 8)) (rd 3)) (aR 4)) (S0 [some (.int C),some (iN n),some W6,some (iN (Bz C)),none,none,none,none,none,none]) .nx (S0 [some (.int C),some (iN n),some W6,some (iN (Bz C)),some (iN (PM C)),none,none,none,none,none]):=by
  have e:iN (PM C)=.int (C/8%(Bz C:Int)):=by unfold iN;rw[hp.2]
  rw[e];exact aS (b2 (b2 rfl rfl (yJ (by decide))) rfl (c8 (by lia))) rfl
 have hh:nS (some (.int C)) (some (iN n)) (PL C) (PM C) none none none []=⟨[some (.int C),some (iN n),some W6,some (iN (Bz C)),some (iN (PM C)),none,some (.lst ((PL C).map .int)),some (.ref 0),none,none],[⟨.lst,[]⟩]⟩:=by unfold nS;rw[qJ]
 rw[hh]at h;refine⟨.ref 0,[⟨.lst,nmL C n⟩],?_,mi (gB _ _)⟩;refine jT (sq rfl (sq a1 (sq a2 (sq (aS (Iz C _ _ _ _ _ _ _ _) rfl) (sq rfl (sq (fS (nk (cA rfl rfl) (by lia)) h) (rS rfl)))))))
noncomputable def iU(c:Int):Sh:=match(c%7).toNat with
 | 0=>.bz [.num,.num]
 | 1=>.own
 | 2=>.bJ (1+c/7%8)
 | 3=>.num
 | 4=>.bz [.num,.own]
 | 5=>.bz [.bJ (1+c/7%8),.own]
 | _=>.bz [.bz [.num,.num],.bJ (1+c/7%8)]
theorem PR(k:Nat)(c:Int):Gives (run txt (k+1) "_law_shape" [.int c] []) (enc (iU c)):=by
 rw[D4];obtain⟨n,hn⟩:∃n,n=1+c/7%8:=⟨_,rfl⟩
 have a1:Ev (dc (mq .ay (aq (kS "strip") (aq (op2 eU (kI 1) (op2 gD (op2 jc (rd 0) (kI 7)) (kI 8))) (aY [])))) (aR 1)) (S0 [some (.int c),none,none,none]) .nx (S0 [some (.int c),some (enc (.bJ n)),none,none]):=by
  rw[hn];exact aS (tU (cA rfl (cA (b2 rfl (b2 (b2 rfl rfl (yJ (by decide))) rfl (c8 (by decide))) rfl) rfl)) (by simp)) rfl
 have hi:∀h,bW h (.lst (b8 [.bz [.num,.num],.own,.bJ n,.num,.bz [.num,.own],.bz [.bJ n,.own]]++b8 [.bz [.bz [.num,.num],.bJ n]])) (.int (c%7))=some (enc (iU c)):=λh=>by
  have:c%7=0\/c%7=1\/c%7=2\/c%7=3\/c%7=4\/c%7=5\/c%7=6:=by lia
  unfold iU;rcases this with h | h | h | h | h | h | h<;>rw[h,hn]<;>rfl
 exact gV (sq a1 (sq rfl (sq rfl (rS (b2 (b2 rfl rfl (aL (by simp[b8]))) (b2 rfl rfl (c8 (by decide))) (hi _)))))) (dv _)
def jU(r:Rw):PV:=.ay [.ay (r.1.map .int),enc r.2.2.2]
theorem yL:∀l:List Int,ah (l.map PV.int)=true
 | []=>rfl
 | _::l=>by rw[aM];simp[ah,noRef,yL l]
theorem Z8(r:Rw):noRef (jU r)=true:=by simp[jU,noRef,ah,yL,dv]
theorem R0:∀l:List Rw,ah (l.map jU)=true
 | []=>rfl
 | r::l=>by rw[aM];simp[ah,Z8,R0 l]
theorem BA(i:Nat)(a:Int)(s:Sh)(r:List Sh):tabs i a (s::r)=(tab s).map (m4 i a)++tabs (i+1) (a+sz s) r:=rfl
theorem t7(c:CT)(S:Option PV):∀(BX:List Sh) (i:Nat) (acc:List Rw) (a:Int) (o2 o3:Option PV),(∀s∈BX,Gives (c "_law_parts" [enc s] []) (.lst ((tab s).map jU)))->acc.length+iR BX<=1000 ->
  ∃V9 Wa,du Qt (tu c) (fQ i (b8 BX)) (S0 [S,some (.lst (acc.map jU)),o2,o3])=some (.ok .nx,S0 [S,some (.lst ((acc++tabs i a BX).map jU)),V9,Wa])
 | [],i,acc,a,o2,o3,_,_=>⟨o2,o3,by simp[b8,fQ,tabs];rfl⟩
 | s::BX,i,acc,a,o2,o3,h,hz=>by
  have h1:=h s aN;simp only[iR]at hz;obtain⟨V9,Wa,e⟩:=t7 c S BX (i+1) (acc++(tab s).map (m4 i a)) (a+sz s) (some (.int (i:Int))) (some (enc s)) (λs hs=>h s (aK _ hs)) (by rw[bu,ak];lia)
  refine⟨V9,Wa,?_⟩;rw[BA,<-cg];have hp:∀r∈tab s,r.1.length<=1000:=λr hr=>by have:=FK s r hr;have:=RS s;lia
  have body:Ev (tu c) (S0 [S,some (.lst (acc.map jU)),some (.int (i:Int)),some (enc s)]) .nx (S0 [S,some (.lst ((acc++(tab s).map (m4 i a)).map jU)),some (.int (i:Int)),some (enc s)]):=by
   rw[cG,b6];refine aS (b2 rfl (cM (sV (cY rfl rfl rfl h1) rfl) (by lia) λr hr=>?_) (aL (by simp only[ak];lia))) rfl
   have hl:=hp r hr;exact e1 rfl (tU (cA (b2 rfl rfl (aT (by simp only[aW,wO,ak];lia))) (cA rfl rfl)) (by simp))
  exact fC rfl body e
theorem Mm(h:List az)(s:Sh):k0 h (.str (W4 s)) (.str "rec")=some (.bl (!iQ s)):=by cases s<;>rfl
theorem pQ(s:Sh)(x1 x2 x3:Option PV):Ev (dc (mq .lst (aq (mq .ay (aq (mq .ay (aY [])) (aq (rd 0) (aY [])))) (aY []))) (aR 1)) (S0 [some (enc s),x1,x2,x3]) .nx (S0 [some (enc s),some (.lst [jU ([],0,sz s,s)]),x2,x3]):=rfl
theorem mj(k:Nat){s:Sh}(h:iQ s=true):Gives (run txt (k+1) "_law_parts" [enc s] []) (.lst ((tab s).map jU)):=by
 rw[tw];have he:=Mm [] s;rw[h]at he;rw[LR h];exact gV (sq (pQ s none none none) (sq (iF (bT (b2 (b2 rfl rfl (pK _ s)) rfl he)) rfl) (rS rfl))) (by simp[noRef,ah,Z8])
theorem IA(k:Nat){ps:List Sh} (h:∀s∈ps,Gives (run txt k "_law_parts" [enc s] []) (.lst ((tab s).map jU))) (hl:iR ps<=900):Gives (run txt (k+1) "_law_parts" [enc (.bz ps)] []) (.lst ((tab (.bz ps)).map jU)):=by
 rw[tw];have he:=Mm [] (.bz ps);obtain⟨o2,o3,e⟩:=t7 (run txt k) (some (enc (.bz ps))) ps 0 [([],0,sz (.bz ps),.bz ps)] 0 none none h (by simp;lia)
 have ht:tab (.bz ps)=[([],0,sz (.bz ps),.bz ps)]++tabs 0 0 ps:=by simp[tab,sz,lv]
 rw[ht];exact gV (sq (pQ (.bz ps) none none none) (sq (iT (bT (b2 (b2 rfl rfl (pK _ (.bz ps))) rfl he)) (fS (sG (eV (b2 rfl rfl (by simp only[enc];rfl)) rfl)) e)) (rS rfl))) (R0 _)
mutual
theorem yM:∀(s:Sh) (k:Nat),dp s<=k->(tab s).length<=900->Gives (run txt (k+1) "_law_parts" [enc s] []) (.lst ((tab s).map jU))
 | .num,k,_,_=>mj k rfl
 | .own,k,_,_=>mj k rfl
 | .bJ n,k,_,_=>mj k rfl
 | .bz ps,0,hd,_=>by simp[dp]at hd
 | .bz ps,k+1,hd,hz=>by
  have hl:(tab (.bz ps)).length=iR ps+1:=by simp only[tab,aW,ie]
  have wZ:qh ps<=k:=by simp only[dp]at hd;lia
  exact IA (k+1) (λs hs=>BB ps k wZ (by lia) s hs) (by lia)
theorem BB:∀(ps:List Sh) (k:Nat),qh ps<=k->iR ps<=900->∀s∈ps,Gives (run txt (k+1) "_law_parts" [enc s] []) (.lst ((tab s).map jU))
 | [],_,_,_,s,hs=>by cases hs
 | p::r,k,hd,hz,s,hs=>by
  simp only[qh]at hd;simp only[iR]at hz;rcases aU.mp hs with e | e
  ·rw[e];exact yM p k (by lia) (by lia)
  ·exact BB r k (by lia) (by lia) s e
end
mutual
theorem Ga:∀(s:Sh),∀r∈tab s,(tab r.2.2.2).length<=(tab s).length
 | .num,r,h=>by simp[tab]at h;subst h;simp[tab]
 | .own,r,h=>by simp[tab]at h;subst h;simp[tab]
 | .bJ n,r,h=>by simp[tab]at h;subst h;simp[tab]
 | .bz ps,r,h=>by
  have hl:(tab (.bz ps)).length=iR ps+1:=by simp only[tab,aW,ie]
  simp only[tab,aU]at h;rcases h with rfl | h
  ·exact ao _
  ·have:=vV ps 0 0 r h
   lia
theorem vV:∀(l:List Sh) (k:Nat) (a:Int),∀r∈tabs k a l,(tab r.2.2.2).length<=iR l
 | [],_,_,r,h=>by simp[tabs]at h
 | s::l,k,a,r,h=>by
  simp only[tabs,bZ,aF]at h;simp only[iR];rcases h with⟨r0,h0,rfl⟩ | h
  ·have:=Ga s r0 h0;simp only[m4]
   lia
  ·have:=vV l _ _ r h
   lia
end
mutual
def pos:Sh->Bool
 | .bJ n=>decide (0<n)
 | .bz ps=>Mn ps
 | _=>true
def Mn:List Sh->Bool
 | []=>true
 | s::r=>pos s&&Mn r
end
mutual
theorem t8:∀(s:Sh),pos s=true->∀r∈tab s,pos r.2.2.2=true
 | .num,h,r,hr=>by simp[tab]at hr;subst hr;exact h
 | .own,h,r,hr=>by simp[tab]at hr;subst hr;exact h
 | .bJ n,h,r,hr=>by simp[tab]at hr;subst hr;exact h
 | .bz ps,h,r,hr=>by
  simp only[tab,aU]at hr;rcases hr with rfl | hr
  ·exact h
  ·exact vW ps (by simpa only[pos]using h) 0 0 r hr
theorem vW:∀(l:List Sh),Mn l=true->∀(k:Nat) (a:Int),∀r∈tabs k a l,pos r.2.2.2=true
 | [],_,_,_,r,hr=>by simp[tabs]at hr
 | s::l,h,k,a,r,hr=>by
  simp only[Mn,aO]at h;simp only[tabs,bZ,aF]at hr;rcases hr with⟨r0,h0,rfl⟩ | hr
  ·exact t8 s h.1 r0 h0
  ·exact vW l h.2 _ _ r hr
end
def Gb(s:Sh):Prop:=yC s/\pos s=true
theorem yN{s:Sh}(h:yC s){r:Rw}(hr:r∈tab s):yC r.2.2.2:=by
 have h1:=Ga s r hr;have h2:=(yB s r hr).1;have h3:=h.1;have h4:=h.2;exact⟨by lia,by lia⟩
def cL(s:Sh):Prop:=Gb s/\(lv s).length<=3
theorem kU(c:Int):cL (iU c):=by
 have h8:0<1+c/7%8/\1+c/7%8<=8:=by lia
 have:c%7=0\/c%7=1\/c%7=2\/c%7=3\/c%7=4\/c%7=5\/c%7=6:=by lia
 unfold iU;rcases this with h | h | h | h | h | h | h<;>rw[h]<;>simp[cL,Gb,yC,tab,tabs,dp,qh,pos,Mn,lv,gU,h8]
theorem Mo:cL .num:=by simp[cL,Gb,yC,tab,dp,pos,lv]
theorem Mp{s:Sh}(h:cL s){r:Rw}(hr:r∈tab s):cL r.2.2.2:=by
 obtain⟨⟨h1,h2⟩,h3⟩:=h;exact⟨⟨yN h1 hr,t8 s h2 r hr⟩,bE (yB s r hr).2 h3⟩
structure lH (ks:List Rk):Prop where
 nd:(ks.map (·.1)).Nodup
 good:∀q∈ks,Gb (b9 q.2)/\(lv (b9 q.2)).length<=3
 few:ks.length<=10
 ne:∀q∈ks,(q.1==(Str.ofString ""))=false
theorem lH.ok{ks:List Rk}(K:lH ks):V1 ks:=λq hq=>(K.good q hq).1.1
def kw:Kn->Str
 | .ow s=>W4 s
 | .ho b _=>hw b
theorem oU(h:List az)(k:Kn):bW h (de k) (.int 0)=some (.str (kw k)):=by
 cases k with
 | ow s=>exact pK h s
 | ho b s=>rfl
theorem BC(h:List az)(d:Kn):oA false h (.str (kw d)) (.ay [.str "lent",.str "sole"])=some (.bl (gw d)):=by
 cases d with
 | ow s=>cases s<;>kernel_rfl
 | ho b s=>cases b<;>kernel_rfl
theorem Eu(h:List az)(a b:Str):Ri h (.str a) (.str b)=some (.bl (!(a==b))):=rfl
def may(d:Kn):Bool:=!(kw d==(Str.ofString "lent"))
def lI(ks:List Rk):List Sp:=ks.flatMap λq=>(tab (b9 q.2)).map λr=>⟨q.1,q.2,r,.bQ⟩
def lq(s:Sp):PV:=.ay [bK s,enc s.r.2.2.2,.bl (may s.d)]
theorem iV{ks:List Rk}(h:V1 ks):∀s∈lI ks,c7 ks s/\s.a=.bQ:=by
 intro s hs;obtain⟨q,hq,hs⟩:=fg.mp hs;obtain⟨r,hr,rfl⟩:=aF.mp hs;exact⟨⟨hq,h q hq,hr,.bQ⟩,rfl⟩
theorem yO{ks:List Rk}(h:V1 ks):(lI ks).length<=100*ks.length:=by
 induction ks with
 | nil=>simp[lI]
 | cons q ks ih =>
  have h1:=(h q aN).1;have h2:=ih λr hr=>h r (aK _ hr)
  simp only[lI,iD,bu,ak,aW]at h2 ⊢
  lia
theorem nu{ks:List Rk}{q:Rk}(hq:q∈ks):(⟨q.1,q.2,([],0,sz (b9 q.2),b9 q.2),.bQ⟩:Sp)∈lI ks:=fg.mpr ⟨q,hq,aF.mpr ⟨_,ig _,rfl⟩⟩
theorem Mq(c:CT)(S:Option PV)(x:Str)(d:Kn)(o5:Option PV)(T:List Rw):∀(acc:List PV) (o6 o7:Option PV),acc.length+T.length<=90000 ->
  ∃IB PU,du (jB 2 (dt (aR 6) (dt (aR 7) pZ))) (D5 c) (T.map jU) ⟨[S,some (.ref 0),some (.str x),some (de d),some (.bl (gw d)),o5,o6,o7],[⟨.lst,acc⟩]⟩=some (.ok .nx,⟨[S,some (.ref 0),some (.str x),some (de d),some (.bl (gw d)),o5,IB,PU],[⟨.lst,acc++T.map λr=>lq ⟨x,d,r,.bQ⟩⟩]⟩):=by
 induction T with
 | nil=>exact λacc o6 o7 _=>⟨o6,o7,by simp;rfl⟩
 | cons r T ih =>
  intro acc o6 o7 hz;simp only[aW]at hz;obtain⟨IB,PU,e⟩:=ih (acc++[lq ⟨x,d,r,.bQ⟩]) (some (.ay (r.1.map .int))) (some (enc r.2.2.2)) (by simp;lia)
  refine⟨IB,PU,?_⟩;rw[cg]at e;rw[aM,aM];exact fC rfl (dS (BW rfl rfl (cA (tU (cA rfl (cA rfl (cA (b2 (b2 rfl rfl (oU _ d)) rfl (Eu _ _ _)) rfl))) (by simp)) rfl) (aC rfl (by lia)))) e
theorem IC(k:Nat)(hk:3<=k)(S:Option PV)(ks:List Rk):∀(acc:List PV) (o2 o3 o4 o5 o6 o7:Option PV),V1 ks->acc.length+100*ks.length<=80000 ->
  ∃V9 Wa Wb Wc IB PU,du Qt (D6 (run txt (k+1))) (ks.map bI) ⟨[S,some (.ref 0),o2,o3,o4,o5,o6,o7],[⟨.lst,acc⟩]⟩=some (.ok .nx,⟨[S,some (.ref 0),V9,Wa,Wb,Wc,IB,PU],[⟨.lst,acc++(lI ks).map lq⟩]⟩):=by
 induction ks with
 | nil=>exact λacc o2 o3 o4 o5 o6 o7 _ _=>⟨o2,o3,o4,o5,o6,o7,by simp[lI];rfl⟩
 | cons q ks ih =>
  intro acc o2 o3 o4 o5 o6 o7 ho hz;simp only[aW]at hz;obtain⟨h1,h2⟩:=ho q aN;obtain⟨p6,p7,Fy⟩:=Mq (run txt (k+1)) S q.1 q.2 (some (enc (b9 q.2))) (tab (b9 q.2)) acc o6 o7 (by lia)
  obtain⟨V9,Wa,Wb,Wc,IB,PU,e⟩:=ih (acc++(tab (b9 q.2)).map λr=>lq ⟨q.1,q.2,r,.bQ⟩) (some (.str q.1)) (some (de q.2)) (some (.bl (gw q.2))) (some (enc (b9 q.2))) p6 p7 (λr hr=>ho r (aK _ hr)) (by rw[bu,ak];lia)
  refine⟨V9,Wa,Wb,Wc,IB,PU,?_⟩;have NW:(lI (q::ks)).map lq=((tab (b9 q.2)).map λr=>lq ⟨q.1,q.2,r,.bQ⟩)++(lI ks).map lq:=by
   simp[lI,iD,cG,b6,Function.comp_def]
  rw[NW,<-cg];have ht:=yM (b9 q.2) k (by lia) (by lia)
  have a5:Ev (fG (gM (rd 4)) (dc (op2 bW (rd 3) (kI 1)) (aR 5)) (aY .nx)) ⟨[S,some (.ref 0),some (.str q.1),some (de q.2),some (.bl (gw q.2)),some (de q.2),o6,o7],[⟨.lst,acc⟩]⟩ .nx ⟨[S,some (.ref 0),some (.str q.1),some (de q.2),some (.bl (gw q.2)),some (enc (b9 q.2)),o6,o7],[⟨.lst,acc⟩]⟩:=by
   obtain⟨x,d⟩:=q;cases d with
   | ow s=>rfl
   | ho b s=>rfl
  exact fC rfl (sq (aS (b2 (b2 rfl rfl (oU _ q.2)) rfl (BC _ q.2)) rfl) (sq (aS rfl rfl) (sq a5 (fS (sV (cY rfl rfl (by simp[ah,dv]) ht) rfl) Fy)))) e
theorem Wd{a:PV}(ha:noRef a=true)(x:Str)(th:Bool)(p:List Int):noRef (Z3 x th p a)=true:=by simp[Z3,noRef,ah,yL,ha]
theorem yD.nr{ks:List Rk}{a:PV}(h:yD ks a):noRef a=true:=by cases h<;>rfl
theorem fY{ks:List Rk}{s:Sp}(h:c7 ks s):noRef (bK s)=true:=Wd h.at_.nr _ _ _
theorem Gd{ks:List Rk}:∀l:List Sp,(∀s∈l,c7 ks s)->ah (l.map lq)=true
 | [],_=>rfl
 | s::l,h=>by rw[aM];simp[ah,noRef,lq,fY (h s aN),dv,Gd l λt ht=>h t (aK _ ht)]
theorem PX(k:Nat)(hk:3<=k)(ks:List Rk)(h:V1 ks)(hl:ks.length<=100):Gives (run txt (k+2) "_law_spots" [.lst (ks.map bI)] []) (.lst ((lI ks).map lq)):=by
 rw[D7];obtain⟨o2,o3,o4,o5,o6,o7,e⟩:=IC k hk (some (.lst (ks.map bI))) ks [] none none none none none none h (by simp;lia)
 rw[fj]at e;exact⟨.ref 0,_,jT (sq rfl (sq (fS rfl e) (rS rfl))),mi (Gd _ λs hs=>(iV h s hs).1)⟩
def jV(s:Sp):PV:=.ay [bK s,.bl (may s.d)]
noncomputable def il(x:Str)(dg:Int)(s:Sp):List Sp:=match s.r.2.2.2 with
 | .num=>[s]
 | .own=>[s]
 | .bJ n=>[{s with a:=if dg/8%2=0 then .int (dg%n)else .str x}]
 | .bz _=>[]
def Z9:Sh->Bool
 | .num=>true
 | .own=>true
 | _=>false
def BD:Sh->Bool
 | .bJ _=>true
 | _=>false
theorem aaa(h:List az)(s:Sh):oA false h (.str (W4 s)) (.ay [.str "num",.str "own"])=some (.bl (Z9 s)):=by cases s<;>kernel_rfl
theorem R6(h:List az)(s:Sh):k0 h (.str (W4 s)) (.str "strip")=some (.bl (BD s)):=by cases s<;>kernel_rfl
def We(S:Option PV)(x:Str)(dg:Int)(acc:List PV)(s:Sp):cC:=⟨[S,some (.str x),some (.int dg),some (.ref 0),some (bK s),some (enc s.r.2.2.2),some (.bl (may s.d))],[⟨.lst,acc⟩]⟩
theorem Ge(S:Option PV)(x:Str)(dg:Int)(s:Sp)(acc:List PV)(hl:acc.length<90000):Ev (g9 (Dx "list" (l0 (iK Al)) (rd 3) (aq (mq .ay (aq (rd 4) Qs)) (aY [])))) (We S x dg acc s) .nx (We S x dg (acc++[jV s]) s):=dS (BW rfl rfl (cA rfl rfl) (aC rfl (by lia)))
theorem Mr(c:CT)(S:Option PV)(x:Str)(dg:Int){s:Sp}(hp:pos s.r.2.2.2=true)(acc:List PV)(hl:acc.length<90000):Ev (m9 c) (We S x dg acc s) .nx (We S x dg (acc++(il x dg s).map jV) s):=by
 have t1:=λacc:List PV=>(bT (b2 (b2 rfl rfl (pK _ s.r.2.2.2)) rfl (aaa _ s.r.2.2.2)):Ek (toB (op2 (oA false) Qg (mq .ay (aq (kS "num") (aq (kS "own") (aY [])))))) (We S x dg acc s) (Z9 s.r.2.2.2))
 have t2:=λacc:List PV=>(bT (b2 (b2 rfl rfl (pK _ s.r.2.2.2)) rfl (R6 _ s.r.2.2.2)):Ek (toB (op2 k0 Qg (kS "strip"))) (We S x dg acc s) (BD s.r.2.2.2))
 cases he:s.r.2.2.2 with
 | num =>
  rw[he]at t1 t2;rw[show il x dg s=[s] by unfold il;rw[he]]
  exact sq (iT (t1 acc) (Ge S x dg s acc hl)) (iF (t2 _) rfl)
 | own =>
  rw[he]at t1 t2;rw[show il x dg s=[s] by unfold il;rw[he]]
  exact sq (iT (t1 acc) (Ge S x dg s acc hl)) (iF (t2 _) rfl)
 | bz ps =>
  rw[he]at t1 t2;rw[show il x dg s=[] by unfold il;rw[he],og,fq]
  exact sq (iF (t1 acc) rfl) (iF (t2 acc) rfl)
 | bJ n =>
  rw[he]at t1 t2 hp;have hp:0<n:=by simpa[pos]using hp
  rw[show il x dg s=[{s with a:=if dg/8%2=0 then .int (dg%n)else .str x}] by unfold il;rw[he]]
  refine sq (iF (t1 acc) rfl) (iT (t2 acc) ?_);have h5:∀h,bW h (enc s.r.2.2.2) (.int 1)=some (.int n):=λh=>by rw[he];rfl
  have hx:Ek (op2 bW (mq .lst (aq (op2 gD (rd 2) (op2 bW (rd 5) (kI 1))) Q0)) (op2 gD (op2 jc (rd 2) (kI 8)) (kI 2))) (We S x dg acc s) (if dg/8%2=0 then .int (dg%n)else .str x):=by
   refine b2 (lS (cA (b2 rfl (b2 rfl rfl (h5 _)) (c8 hp)) rfl) (by simp)) (b2 (b2 rfl rfl (yJ (by decide))) rfl (c8 (by decide))) ?_
   have:dg/8%2=0\/dg/8%2=1:=by lia
   rcases this with h | h
   ·rw[h];rfl
   ·rw[h];rfl
  obtain⟨a,ha⟩:∃a,a=(if dg/8%2=0 then PV.int (dg%n)else .str x):=⟨_,rfl⟩
  rw[<-ha]at hx ⊢;exact dS (BW rfl rfl (cA (tU (cA (b2 (x:=.ay [.str s.x,.bl (gw s.d),.ay (s.r.1.map .int)]) (cE rfl rfl rfl rfl) (tU (cA hx rfl) (by simp)) (aT (by simp))) rfl) (by simp)) rfl) (aC rfl (by lia)))
theorem BE(c:CT)(S:Option PV)(x:Str)(dg:Int):∀(T:List Sp) (acc:List PV) (o4 o5 o6:Option PV),(∀s∈T,pos s.r.2.2.2=true)->acc.length+T.length<=80000 ->
  ∃Wb Wc IB,du Qj (m9 c) (T.map lq) ⟨[S,some (.str x),some (.int dg),some (.ref 0),o4,o5,o6],[⟨.lst,acc⟩]⟩=some (.ok .nx,⟨[S,some (.str x),some (.int dg),some (.ref 0),Wb,Wc,IB],[⟨.lst,acc++(T.flatMap (il x dg)).map jV⟩]⟩)
 | [],acc,o4,o5,o6,_,_=>⟨o4,o5,o6,by simp;rfl⟩
 | s::T,acc,o4,o5,o6,h,hz=>by
  simp only[aW]at hz;have hb:=Mr c S x dg (h s aN) acc (by lia)
  have uj:(il x dg s).length<=1:=by
   unfold il;split<;>simp
  obtain⟨Wb,Wc,IB,e⟩:=BE c S x dg T (acc++(il x dg s).map jV) (some (bK s)) (some (enc s.r.2.2.2)) (some (.bl (may s.d))) (λt ht=>h t (aK _ ht)) (by rw[bu,ak];lia)
  refine⟨Wb,Wc,IB,?_⟩;rw[iD,cG,<-cg];exact fC rfl hb e
abbrev R7(ks:List Rk)(x:Str)(dg:Int):List Sp:=(lI ks).flatMap (il x dg)
theorem PY{ks:List Rk}{x:Str}(hx:(x,Kn.ow .num)∈ks){dg:Int}{s:Sp}(hs:c7 ks s):∀t∈il x dg s,c7 ks t/\t.d=s.d:=λt ht=>by
 unfold il at ht;split at ht
 ·rw[bC]at ht;subst ht;exact⟨hs,rfl⟩
 ·rw[bC]at ht;subst ht;exact⟨hs,rfl⟩
 ·rw[bC]at ht;subst ht;refine⟨⟨hs.mem,hs.ok,hs.row,?_⟩,rfl⟩;show yD ks (if dg/8%2=0 then _ else _)
  split
  ·exact .int _
  ·exact .str _ hx
 ·cases ht
theorem Ew{ks:List Rk}(K:lH ks){x:Str}(hx:(x,Kn.ow .num)∈ks)(dg:Int):(∀t∈R7 ks x dg,c7 ks t)/\(R7 ks x dg).length<=1000/\∃t∈R7 ks x dg,may t.d=true:=by
 refine⟨λt ht=>?_,?_,?_⟩
 ·obtain⟨s,hs,ht⟩:=fg.mp ht;exact(PY hx (iV K.ok s hs).1 t ht).1
 ·have h1:=yO K.ok;have h2:=K.few;have:∀T:List Sp,(T.flatMap (il x dg)).length<=T.length:=λT=>by
   induction T with
   | nil=>simp
   | cons s T ih =>
    have uj:(il x dg s).length<=1:=by
     unfold il;split<;>simp
    rw[iD,bu,aW]
    lia
  have:=this (lI ks);show(List.flatMap (il x dg) (lI ks)).length<=1000
  lia
 ·refine⟨⟨x,.ow .num,([],0,sz .num,.num),.bQ⟩,fg.mpr ⟨_,nu hx,?_⟩,?_⟩
  ·simp[il,b9]
  ·show(!((Str.ofString "num")==(Str.ofString "lent")))=true;decide +kernel
theorem Ms{ks:List Rk}:∀l:List Sp,(∀s∈l,c7 ks s)->ah (l.map jV)=true
 | [],_=>rfl
 | s::l,h=>by rw[aM];simp[ah,noRef,jV,fY (h s aN),Ms l λt ht=>h t (aK _ ht)]
theorem ID(k:Nat){ks:List Rk}(K:lH ks){x:Str}(hx:(x,Kn.ow .num)∈ks)(dg:Int):Gives (run txt (k+1) "_law_numbers" [.lst ((lI ks).map lq),.str x,.int dg] []) (.lst ((R7 ks x dg).map jV)):=by
 rw[yv];have NW:=yO K.ok;have hf:=K.few;obtain⟨o4,o5,o6,e⟩:=BE (run txt k) (some (.lst ((lI ks).map lq))) x dg (lI ks) [] none none none (λs hs=>by
  obtain⟨g1,g2⟩:=iV K.ok s hs;exact t8 _ (K.good _ g1.mem).1.2 _ g1.row) (by simp;lia)
 rw[fj]at e;exact⟨.ref 0,_,jT (sq rfl (sq (fS rfl e) (rS rfl))),mi (Ms _ (Ew K hx dg).1)⟩
theorem dm{α:Type}(N:List α)(e:α->PV)(m:Int)(h:0<N.length):∃s∈N,∀H:List az,bW H (.lst (N.map e)) (.int (m%((N.map e).length:Int)))=some (e s):=by
 rw[ak];have hj0:=lQ m (show(N.length:Int)≠0 by lia)
 have hj1:=wA m (show(0:Int)<(N.length:Int) by lia)
 obtain⟨j,hj⟩:=Int.eq_ofNat_of_zero_le hj0;have hjl:j<N.length:=by lia
 refine⟨N[j],List.getElem_mem hjl,λH=>?_⟩
 rw[hj];exact atI_nat (by rw[bR,cO hjl];rfl)
theorem aab(h:List az):Oq h (.int 10) (.int 30)=some (.int (10^30)):=by kernel_rfl
theorem dY.nr{ks:List Rk}{o:Op}(h:dY ks o):noRef (fJ o)=true:=by
 cases o with
 | n i=>rfl
 | s s=>exact fY h
theorem vX(k:Nat){ks:List Rk}{N:List Sp}(h:∀s∈N,c7 ks s)(h0:0<N.length)(C m:Int):∃o,Gives (run txt (k+1) "_law_operand" [.int C,.int m,.lst (N.map jV)] []) (fJ o)/\dY ks o:=by
 rw[yw];obtain⟨s,hs,xY⟩:=dm N jV (m/20) h0;have hz:0<((N.map jV).length:Int):=by rw[ak];lia
 have t1:Ek (toB (op2 k0 (op2 gD (op2 jc (rd 1) (kI 5)) (kI 4)) (kI 0))) (S0 [some (.int C),some (.int m),some (.lst (N.map jV))]) (m/5%4==0):=bT (b2 (b2 (b2 rfl rfl (yJ (by decide))) rfl (c8 (by decide))) rfl (oT _ _ _))
 by_cases hm:m/5%4=0
 ·rw[hm,nU]at t1;exact⟨.n (C%10^30),gV (uM (iT t1 (rS (b2 rfl (b2 rfl rfl (aab _)) (c8 (by decide)))))) rfl,trivial⟩
 ·rw[show(m/5%4==0)=false by rw[jn];exact hm]at t1
  exact⟨.s s,gV (sq (iF t1 rfl) (rS (b2 (b2 rfl (b2 (b2 rfl rfl (yJ (by decide))) (bV (cA rfl rfl) rfl) (c8 hz)) (xY _)) rfl rfl))) (fY (h s hs)),h s hs⟩
theorem Mt(h:List az)(s:Sh):Ri h (.str (W4 s)) (.str "rec")=some (.bl (iQ s)):=by cases s<;>kernel_rfl
theorem nv{c:CT}(S:Option PV):∀(ps:List Sh) (ag:List PV) (x2:Option PV),(∀s∈ps,Gives (c "_law_leaves" [enc s] []) (.lst (b8 (lv s))))->ag.length+(gU ps).length<=4000000 ->
  ∃x2',du (aR 2) (pG c) (b8 ps) (S0 [S,some (.lst ag),x2])=some (.ok .nx,S0 [S,some (.lst (ag++b8 (gU ps))),x2'])
 | [],ag,x2,_,_=>⟨x2,by simp[b8,gU];rfl⟩
 | s::ps,ag,x2,h,hz=>by
  simp only[gU,bu]at hz;have hb:Ev (pG c) (S0 [S,some (.lst ag),some (enc s)]) .nx (S0 [S,some (.lst (ag++b8 (lv s))),some (enc s)]):=aS (b2 rfl (cY rfl rfl rfl (h s aN)) (aL (by rw[fW];lia))) rfl
  obtain⟨x2',e⟩:=nv S ps (ag++b8 (lv s)) (some (enc s)) (λt ht=>h t (aK _ ht)) (by rw[bu,fW];lia)
  refine⟨x2',?_⟩;have ex:ag++b8 (gU (s::ps))=ag++b8 (lv s)++b8 (gU ps):=by
   simp only[gU,px,cg]
  rw[ex];show du _ _ (enc s::b8 ps) _=_;exact fC rfl hb e
theorem jG(k:Nat){s:Sh}(h:iQ s=true):Gives (run txt (k+1) "_law_leaves" [enc s] []) (.lst [enc s]):=by
 rw[pH];exact gV (uM (iT (bT (b2 (b2 rfl rfl (pK _ s)) rfl ((Mt _ s).trans (by rw[h])))) (rS rfl))) (by simp[noRef,ah,dv])
mutual
theorem oV:∀(s:Sh) (k:Nat),dp s<=k->(lv s).length<=90000->Gives (run txt (k+1) "_law_leaves" [enc s] []) (.lst (b8 (lv s)))
 | .num,k,_,_=>jG k rfl
 | .own,k,_,_=>jG k rfl
 | .bJ n,k,_,_=>jG k rfl
 | .bz ps,0,hd,_=>by simp[dp]at hd
 | .bz ps,k+1,hd,hz=>by
  simp only[dp]at hd;simp only[lv]at hz;rw[pH];obtain⟨x2',e⟩:=nv (some (enc (.bz ps))) ps [] none (kF ps k (by lia) hz) (by simp;lia)
  rw[fj]at e;have z:lv (.bz ps)=gU ps:=by simp only[lv]
  rw[z];exact gV (sq (iF (bT (b2 (b2 rfl rfl (pK _ (.bz ps))) rfl (Mt _ (.bz ps)))) rfl) (sq rfl (sq (fS (sV (b2 rfl rfl (by simp only[enc];rfl)) rfl) e) (rS rfl)))) (qE _)
theorem kF:∀(ps:List Sh) (k:Nat),qh ps<=k->(gU ps).length<=90000->∀s∈ps,Gives (run txt (k+1) "_law_leaves" [enc s] []) (.lst (b8 (lv s)))
 | [],_,_,_,s,hs=>by cases hs
 | p::r,k,hd,hz,s,hs=>by
  simp only[qh]at hd;simp only[gU,bu]at hz;rcases aU.mp hs with e | e
  ·rw[e];exact oV p k (by lia) (by lia)
  ·exact kF r k (by lia) (by lia) s e
end
mutual
theorem Gf:∀(s:Sh),∀r∈tab s,0<=r.2.1/\0<=r.2.2.1/\r.2.1+r.2.2.1<=((lv s).length:Int)
 | .num,r,h=>by simp only[tab,bC]at h;subst h;simp[lv]
 | .own,r,h=>by simp only[tab,bC]at h;subst h;simp[lv]
 | .bJ n,r,h=>by simp only[tab,bC]at h;subst h;simp[lv]
 | .bz ps,r,h=>by
  simp only[tab,aU]at h;rcases h with h | h
  ·subst h;simp[lv]
  ·have:=BF ps 0 0 r h (by lia)
   simp only[lv]
   lia
theorem BF:∀(l:List Sh) (k:Nat) (a:Int),∀r∈tabs k a l,0<=a->0<=r.2.1/\0<=r.2.2.1/\r.2.1+r.2.2.1<=a+((gU l).length:Int)
 | [],_,_,_,h,_=>nomatch h
 | s::l,k,a,r,h,ha=>by
  rw[BA,bZ]at h;simp only[gU,bu];rcases h with h | h
  ·obtain⟨q,hq,rfl⟩:=aF.mp h;have:=Gf s q hq;simp only[m4]
   lia
  ·have:=BF l (k+1) (a+sz s) r h (by simp only[sz];lia)
   simp only[sz]at this
   lia
end
structure uq (X:List Str) (Bd:Nat) (a:dw):Prop where
 f0:0<=a.f
 m0:0<=a.m
 few:a.f+a.m<=(Bd:Int)
 nm:a.n∈X\/a.n=""
abbrev BZ(ks:List Rk):List Str:=ks.map (·.1)
structure ny (ks:List Rk) (M:Nat) (p:PV) (as:List dw):Prop where
 made:∀F K,tK F ks->noRef F=true->12<=K->Ma (run txt K) F p as
 six:as.length<=6
 nx:∀j,j+1<M->RZ M j p
 ok:∀a∈as,uq (BZ ks) 3 a
section
variable {ks:List Rk}
theorem Gg{F p:PV}{as:List dw}{w fn:Str}{rest:List PV}{c:CT}(hp:p=.ay (.str w::rest))(h1:jw.lookup w=some fn)(h2:VU.lookup fn=some 2)(h6:as.length<=6)(h:Gives (c fn [F,p] []) (fI as))(hn:noRef p=true):Ma c F p as:=⟨⟨w,fn,rest,hp,h1,h2,h⟩,by lia,hn⟩
theorem jQ{M:Nat}{w:Str}{rest:List PV}(h1:(w==(Str.ofString "go"))=false)(h2:(w==(Str.ofString "if"))=false):∀j,j+1<M->RZ M j (.ay (.str w::rest)):=λj hj=>⟨w,(λ_=>atI_nat (show(PV.str w::rest)[0]?=some (.str w)from rfl)),(λz=>by rw[h1]at z;cases z),(λz=>by rw[h2]at z;cases z),λ_ _=>hj⟩
theorem vY(K:lH ks)(w:Str){x:Str}{d:Kn}(hx:(x,d)∈ks){r:Rw}(hr:r∈tab (b9 d))(t:Str):uq (BZ ks) 3 (tA w x d r t):=by
 obtain⟨g1,g2,g3⟩:=Gf _ r hr;have g4:=(K.good _ hx).2;simp only at g4;exact⟨g1,g2,by show r.2.1+r.2.2.1<=_;lia,.inl (aF.mpr ⟨_,hx,rfl⟩)⟩
theorem jH(K:lH ks)(w:Str){s:Sp}(hs:c7 ks s)(t:Str):uq (BZ ks) 3 (ql w s t):=vY K w hs.mem hs.row t
theorem Mu{a:PV}(h:yD ks a):∀q∈Nb a,uq (BZ ks) 3 q:=λq hq=>by
 cases h with
 | bQ=>cases hq
 | int i=>cases hq
 | str y hy =>
  simp only[Nb,bC]at hq;subst hq;exact⟨oj 0,(by show(0:Int)<=1;decide),(by show(0:Int)+1<=((3:Nat):Int);decide),.inl (aF.mpr ⟨_,hy,rfl⟩)⟩
theorem t9(K:lH ks){o:Op}(ho:dY ks o):∀q∈pM o,uq (BZ ks) 3 q:=λq hq=>by
 cases o with
 | n i=>cases hq
 | s s =>
  rcases bZ.mp hq with h | h
  ·exact Mu ho.at_ q h
  ·rw[bC]at h;subst h;exact jH K _ ho _
theorem Mv(K:lH ks){s:Sp}(hs:c7 ks s):∀q∈Ee s,uq (BZ ks) 3 q:=λq hq=>by
 unfold Ee at hq;split at hq
 ·rw[bC]at hq;subst hq;exact jH K _ hs _
 ·rcases bZ.mp hq with h | h
  ·exact Mu hs.at_ q h
  ·rw[bC]at h;subst h;exact jH K _ hs _
theorem Wf(K:lH ks){r:Rk}(hr:r∈ks)(t:Str):uq (BZ ks) 3 (tkA r.1 r.2 t):=by
 obtain⟨x,d⟩:=r;cases d with
 | ow s=>exact vY K _ hr (ig s) _
 | ho b s=>exact vY K _ hr (ig s) _
theorem Wg(K:lH ks){r:Rk}(hr:r∈ks):uq (BZ ks) 3 (gvA r.1 r.2):=by
 obtain⟨x,d⟩:=r;cases d with
 | ow s=>exact vY K _ hr (ig s) _
 | ho b s=>exact vY K _ hr (ig s) _
theorem Mw:uq (BZ ks) 3 L7:=⟨by decide,by decide,by decide,.inr rfl⟩
theorem IE{as:List dw}(h:∀a∈as,uq (BZ ks) 3 a):∀a∈gy as,uq (BZ ks) 3 a:=λa ha=>by
 cases as with
 | nil =>
  simp only[gy,bC]at ha;subst ha;exact Mw
 | cons b l=>exact h a ha
theorem Gh(K:lH ks):∀(l:List Rk) (i:Nat),(∀r∈l,r∈ks)->∀q∈nh i l,uq (BZ ks) 3 q
 | [],_,_,_,h=>nomatch h
 | r::l,i,hl,q,h=>by
  simp only[nh,aU]at h;rcases h with h | h
  ·subst h;exact Wf K (hl r aN) _
  ·exact Gh K l (i+1) (λs hs=>hl s (aK _ hs)) q h
theorem PZ(K:lH ks){tk:Option Rk}(ht:∀r,tk=some r->r∈ks):∀q∈uW tk,uq (BZ ks) 3 q:=λq hq=>by
 cases tk with
 | none=>cases hq
 | some r =>
  have hr:=ht r rfl;obtain⟨x,d⟩:=r;cases d with
  | ow s =>
   simp only[uW,bC]at hq;subst hq;exact vY K _ hr (ig s) _
  | ho b s =>
   simp only[uW,bC]at hq;subst hq;exact⟨oj 0,oj 0,(by show(0:Int)+0<=((3:Nat):Int);decide),.inr rfl⟩
theorem ud{X:List Str}{Bd:Nat}{a b:List dw}(h1:∀q∈a,uq X Bd q)(h2:∀q∈b,uq X Bd q):∀q∈a++b,uq X Bd q:=λq hq=>(bZ.mp hq).elim (h1 q) (h2 q)
theorem K7{K:Nat}(h:12<=K):∃k,K=k+7/\3<=k:=⟨K-7,by lia,by lia⟩
variable (K:lH ks) (M:Nat)
include K
theorem P0{s:Sp}(hs:c7 ks s){o:Op}(ho:dY ks o){w:Str}(hw:w="put"\/w="fill"):ny ks M (.ay [.str w,bK s,fJ o]) (pM o++Ee s):=by
 have l1:=iS o;have l2:=yF s;have l6:(pM o++Ee s).length<=6:=by rw[bu];lia
 refine⟨λF k hF hN hk=>?_,l6,?_,ud (t9 K ho) (Mv K hs)⟩
 ·obtain⟨k,rfl,h3⟩:=K7 hk;have h:=Ef hF k h3 w hs ho;rcases hw with rfl | rfl
  ·exact Gg rfl (by kernel_rfl) (by kernel_rfl) l6 h (by simp[noRef,ah,fY hs,dY.nr ho])
  ·exact Gg rfl (by kernel_rfl) (by kernel_rfl) l6 h (by simp[noRef,ah,fY hs,dY.nr ho])
 ·rcases hw with rfl | rfl
  ·exact jQ (by decide +kernel) (by decide +kernel)
  ·exact jQ (by decide +kernel) (by decide +kernel)
theorem P1{s:Sp}(hs:c7 ks s)(q:PV)(hq:noRef q=true){a b:Op}(ha:dY ks a)(hb:dY ks b):ny ks M (.ay [.str "set",bK s,q,fJ a,fJ b]) (pM a++pM b++Ee s):=by
 have l1:=iS a;have l2:=iS b;have l3:=yF s;have l6:(pM a++pM b++Ee s).length<=6:=by simp only[bu];lia
 refine⟨λF k hF hN hk=>?_,l6,jQ (by decide +kernel) (by decide +kernel),ud (ud (t9 K ha) (t9 K hb)) (Mv K hs)⟩
 obtain⟨k,rfl,h3⟩:=K7 hk;exact Gg rfl (by kernel_rfl) (by kernel_rfl) l6 (Eg hF k h3 "set" hs q ha hb) (by simp[noRef,ah,fY hs,dY.nr ha,dY.nr hb,hq])
theorem Wh{a:Op}(ha:dY ks a)(i:Int){m:Nat}(hm:m<M):ny ks M (.ay [.str "if",fJ a,.int i,iN m]) (pM a++[]):=by
 have l1:=iS a;have l6:(pM a++[]).length<=6:=by simp only[fq];lia
 refine⟨λF k hF hN hk=>?_,l6,λj hj=>⟨"if",λ_=>rfl,λz=>absurd z (by decide +kernel),λ_=>⟨m,λ_=>rfl,hm⟩,λ_ _=>hj⟩,ud (t9 K ha) (λ_ h=>nomatch h)⟩
 obtain⟨k,rfl,h3⟩:=K7 hk;exact Gg rfl (by kernel_rfl) (by kernel_rfl) l6 (Ip hF k h3 "if" (iN m) ha (b:=.n i) trivial) (by simp[noRef,ah,dY.nr ha,iN])
theorem P4{a:Op}(ha:dY ks a):ny ks M (.ay [.str "say",fJ a]) (pM a):=by
 have l1:=iS a;have l6:(pM a).length<=6:=by lia
 refine⟨λF k hF hN hk=>?_,l6,jQ (by decide +kernel) (by decide +kernel),t9 K ha⟩
 obtain⟨k,rfl,h3⟩:=K7 hk;exact Gg rfl (by kernel_rfl) (by kernel_rfl) l6 (Eh hF k h3 "say" ha) (by simp[noRef,ah,dY.nr ha])
theorem Wi{m:Nat}(hm:m<M):ny ks M (.ay [.str "go",iN m]) []:=by
 refine⟨λF k hF hN hk=>?_,by simp,λj hj=>⟨"go",λ_=>rfl,λ_=>⟨m,λ_=>rfl,hm⟩,λz=>absurd z (by decide +kernel),λ_ z=>absurd z (by decide +kernel)⟩,λ_ h=>nomatch h⟩
 obtain⟨k,rfl,h3⟩:=K7 hk;exact Gg rfl (by kernel_rfl) (by kernel_rfl) (by simp) (Iq k _) (by simp[noRef,ah,iN])
theorem IF:ny ks M (.ay [.str "give",.str ""]) []:=by
 refine⟨λF k hF hN hk=>?_,by simp,jQ (by decide +kernel) (by decide +kernel),λ_ h=>nomatch h⟩
 obtain⟨k,rfl,h3⟩:=K7 hk;exact Gg rfl (by kernel_rfl) (by kernel_rfl) (by simp) (yG k "give") (by simp[noRef,ah])
theorem Mx{r:Rk}(hr:r∈ks):ny ks M (.ay [.str "give",.str r.1]) [gvA r.1 r.2]:=by
 refine⟨λF k hF hN hk=>?_,by simp,jQ (by decide +kernel) (by decide +kernel),λq hq=>?_⟩
 ·obtain⟨k,rfl,h3⟩:=K7 hk;exact Gg rfl (by kernel_rfl) (by kernel_rfl) (by simp) (Bq hF k h3 "give" hr (K.ok _ hr) (K.ne _ hr)) (by simp[noRef,ah])
 ·rw[bC]at hq;subst hq;exact Wg K hr
theorem My{s t:Sp}(hs:c7 ks s)(ht:c7 ks t):ny ks M (.ay [.str "copy",bK s,bK t]) [ql "read" t "",ql "fill" s ""]:=by
 refine⟨λF k hF hN hk=>?_,by simp,jQ (by decide +kernel) (by decide +kernel),λq hq=>?_⟩
 ·obtain⟨k,rfl,h3⟩:=K7 hk;exact Gg rfl (by kernel_rfl) (by kernel_rfl) (by simp) (Bl hF k h3 "copy" hs ht) (by simp[noRef,ah,fY hs,fY ht])
 ·simp only[aU,eK,eQ]at hq;rcases hq with rfl | rfl
  ·exact jH K _ ht _
  ·exact jH K _ hs _
theorem Mz{s t:Sp}(hs:c7 ks s)(ht:c7 ks t):ny ks M (.ay [.str "move",bK s,bK t]) [ql "empty" t "",ql "fill" s ""]:=by
 refine⟨λF k hF hN hk=>?_,by simp,jQ (by decide +kernel) (by decide +kernel),λq hq=>?_⟩
 ·obtain⟨k,rfl,h3⟩:=K7 hk;exact Gg rfl (by kernel_rfl) (by kernel_rfl) (by simp) (Bm hF k h3 "move" hs ht) (by simp[noRef,ah,fY hs,fY ht])
 ·simp only[aU,eK,eQ]at hq;rcases hq with rfl | rfl
  ·exact jH K _ ht _
  ·exact jH K _ hs _
theorem MA{s:Sp}(hs:c7 ks s):ny ks M (.ay [.str "drop",bK s]) [ql "empty" s ""]:=by
 refine⟨λF k hF hN hk=>?_,by simp,jQ (by decide +kernel) (by decide +kernel),λq hq=>?_⟩
 ·obtain⟨k,rfl,h3⟩:=K7 hk;exact Gg rfl (by kernel_rfl) (by kernel_rfl) (by simp) (Bn hF k h3 "drop" hs) (by simp[noRef,ah,fY hs])
 ·rw[bC]at hq;subst hq;exact jH K _ hs _
theorem MB{w:Str}(hw:w="lend"\/w="sole")(x:Str){s:Sp}(hs:c7 ks s):ny ks M (.ay [.str w,.str x,bK s]) [ql w s x]:=by
 refine⟨λF k hF hN hk=>?_,by simp,?_,λq hq=>?_⟩
 ·obtain⟨k,rfl,h3⟩:=K7 hk;have h:=Bo hF k h3 w x hs;rcases hw with rfl | rfl
  ·exact Gg rfl (by kernel_rfl) (by kernel_rfl) (by simp) h (by simp[noRef,ah,fY hs])
  ·exact Gg rfl (by kernel_rfl) (by kernel_rfl) (by simp) h (by simp[noRef,ah,fY hs])
 ·rcases hw with rfl | rfl
  ·exact jQ (by decide +kernel) (by decide +kernel)
  ·exact jQ (by decide +kernel) (by decide +kernel)
 ·rw[bC]at hq;subst hq;exact jH K _ hs _
theorem MC(fn:PV)(EJ:noRef fn=true){ar:List Rk}(ha:∀r∈ar,r∈ks)(hal:ar.length<=4){tk:Option Rk}(ht:∀r,tk=some r->r∈ks):ny ks M (.ay [.str "call",.str (El tk),fn,.ay (ar.map λr=>.str r.1)]) (nh 0 ar++vO::uW tk):=by
 have tl:=tN ar 0;have tkl:(uW tk).length<=1:=by
  cases tk with
  | none=>simp[uW]
  | some r=>obtain⟨x,d⟩:=r;cases d<;>simp[uW]
 have l6:(nh 0 ar++vO::uW tk).length<=6:=by rw[bu,aW,tl];lia
 refine⟨λF k hF hN hk=>?_,l6,jQ (by decide +kernel) (by decide +kernel),ud (Gh K ar 0 ha) λq hq=>?_⟩
 ·obtain⟨k,rfl,h3⟩:=K7 hk;have h:=Br hF k h3 hN "call" fn ha K.ok (by lia) (λr hr=>⟨ht r hr,K.ne r (ht r hr)⟩)
  exact Gg rfl (by kernel_rfl) (by kernel_rfl) l6 h (by simp[noRef,ah,EJ,gB])
 ·rcases aU.mp hq with rfl | h
  ·exact⟨by decide,by decide,by decide,.inr rfl⟩
  ·exact PZ K ht q h
end
theorem kG{a b:Str}{xs ys:List Tr}(h:eqT (.ay (.str a::xs)) (.ay (.str b::ys))=true):(a==b)=true/\mK xs ys=true:=fK.mp h
mutual
theorem ue:∀s t:Sh,eqT (vQ s) (vQ t)=true->s=t
 | .num,.num,_=>rfl
 | .own,.own,_=>rfl
 | .bJ n,.bJ m,h=>by
  have h2:((n==m)&&true)=true:=(kG h).2;rw[wR]at h2;rw[bj h2]
 | .bz a,.bz b,h=>by
  have h2:(mK (ng a) (ng b)&&true)=true:=(kG h).2;rw[wR]at h2;rw[Gi a b h2]
 | .num,.own,h=>absurd (kG h).1 (by decide +kernel)
 | .num,.bJ _,h=>absurd (kG h).1 (by decide +kernel)
 | .num,.bz _,h=>absurd (kG h).1 (by decide +kernel)
 | .own,.num,h=>absurd (kG h).1 (by decide +kernel)
 | .own,.bJ _,h=>absurd (kG h).1 (by decide +kernel)
 | .own,.bz _,h=>absurd (kG h).1 (by decide +kernel)
 | .bJ _,.num,h=>absurd (kG h).1 (by decide +kernel)
 | .bJ _,.own,h=>absurd (kG h).1 (by decide +kernel)
 | .bJ _,.bz _,h=>absurd (kG h).1 (by decide +kernel)
 | .bz _,.num,h=>absurd (kG h).1 (by decide +kernel)
 | .bz _,.own,h=>absurd (kG h).1 (by decide +kernel)
 | .bz _,.bJ _,h=>absurd (kG h).1 (by decide +kernel)
theorem Gi:∀a b:List Sh,mK (ng a) (ng b)=true->a=b
 | [],[],_=>rfl
 | s::a,t::b,h=>by
  have h:=fK.mp (show(eqT (vQ s) (vQ t)&&mK (ng a) (ng b))=true from h)
  rw[ue s t h.1,Gi a b h.2]
 | [],_::_,h=>nomatch h
 | _::_,[],h=>nomatch h
end
def MD:Kn->Tr
 | .ow s=>vQ s
 | .ho b s=>.ay [.str (hw b),vQ s]
theorem Wj:∀a b:Kn,eqT (MD a) (MD b)=true->a=b
 | .ow s,.ow t,h=>by rw[ue s t h]
 | .ho a s,.ho b t,h=>by
  have h:=kG h;have h2:(eqT (vQ s) (vQ t)&&true)=true:=h.2;rw[wR]at h2;rw[ue s t h2];have h1:(hw a==hw b)=true:=h.1;cases a<;>cases b<;>first | rfl | exact absurd h1 (by decide +kernel)
 | .ow s,.ho b t,h=>by
  exfalso
  cases s<;>cases b<;>exact absurd (kG h).1 (by decide +kernel)
 | .ho b t,.ow s,h=>by
  exfalso
  cases s<;>cases b<;>exact absurd (kG h).1 (by decide +kernel)
structure Cs where
 d1:Kn
 d4:Kn
 d5:Kn
 r1:Option Kn
 pl:Int
noncomputable def pk(C:Cs):Nat->List Kn
 | 0=>[]
 | 1=>if C.pl%2=1 then [C.d1,C.d4]else [C.d4,C.d1]
 | _=>[C.d4,C.d5].take (C.pl/2).toNat++C.d1::[C.d4,C.d5].drop (C.pl/2).toNat
def rk(C:Cs):Nat->Option Kn
 | 0=>none
 | 1=>C.r1
 | _=>some C.d4
inductive Ro where
 | put (fl:Bool) (s:Sp) (o:Op)
 | set (s:Sp) (g:Str) (a b:Op)
 | Ex (t s:Sp)
 | Ey (t s:Sp)
 | drop (s:Sp)
 | uX (x:Str) (b:Bool) (s:Sp)
 | call (tk:Option Rk) (j:Nat) (ar:List Rk)
 | ME (a:Op) (i:Int) (m:Nat)
 | go (m:Nat)
 | R8 (a:Op)
 | kH (z:Option Rk)
noncomputable def lw(b:Bool):Str:=if b then "sole" else "lend"
abbrev iz(r:Rk):PV:=.str r.1
abbrev Jd(r:Option Rk):PV:=.str (El r)
def dz(fn:Nat->PV):Ro->PV
 | .put fl s o=>.ay [.str (if fl then "fill" else "put"),bK s,fJ o]
 | .set s g a b=>.ay [.str "set",bK s,.str g,fJ a,fJ b]
 | .Ex t s=>.ay [.str "copy",bK t,bK s]
 | .Ey t s=>.ay [.str "move",bK t,bK s]
 | .drop s=>.ay [.str "drop",bK s]
 | .uX x b s=>.ay [.str (lw b),.str x,bK s]
 | .call tk j ar=>.ay [.str "call",Jd tk,fn j,.ay (ar.map iz)]
 | .ME a i m=>.ay [.str "if",fJ a,.int i,iN m]
 | .go m=>.ay [.str "go",iN m]
 | .R8 a=>.ay [.str "say",fJ a]
 | .kH z=>.ay [.str "give",Jd z]
def nsp(s:Sp):Prop:=s.a=.bQ\/BD s.r.2.2.2=true
def IG(C:Cs)(ks:List Rk)(M:Nat):Ro->Prop
 | .put fl s o=>c7 ks s/\dY ks o/\may s.d=true/\(fl=true->s.a=.bQ)/\nsp s
 | .set s g a b=>c7 ks s/\dY ks a/\dY ks b/\may s.d=true/\nsp s
 | .Ex t s=>c7 ks t/\c7 ks s/\t.a=.bQ/\s.a=.bQ/\t.r.2.2.2=s.r.2.2.2/\may t.d=true
 | .Ey t s=>c7 ks t/\c7 ks s/\t.a=.bQ/\s.a=.bQ/\t.r.2.2.2=s.r.2.2.2/\may t.d=true/\gw s.d=false
 | .drop s=>c7 ks s/\s.a=.bQ/\gw s.d=false
 | .uX x b s=>c7 ks s/\s.a=.bQ/\(x,Kn.ho b s.r.2.2.2)∈ks/\(b=true->may s.d=true)
 | .call tk j ar=>j<3/\tk.map (·.2)=rk C j/\ar.map (·.2)=pk C j/\(∀r∈ar,r∈ks)/\ar.length<=4/\∀r,tk=some r->r∈ks
 | .ME a _ m=>dY ks a/\m<M
 | .go m=>m<M
 | .R8 a=>dY ks a
 | .kH z=>∀r,z=some r->r∈ks
def roA:Ro->List dw
 | .put _ s o=>pM o++Ee s
 | .set s _ a b=>pM a++pM b++Ee s
 | .Ex t s=>[ql "read" s "",ql "fill" t ""]
 | .Ey t s=>[ql "empty" s "",ql "fill" t ""]
 | .drop s=>[ql "empty" s ""]
 | .uX x b s=>[ql (lw b) s x]
 | .call tk _ ar=>nh 0 ar++vO::uW tk
 | .ME a _ _=>pM a++[]
 | .go _=>[]
 | .R8 a=>pM a
 | .kH none=>[]
 | .kH (some r)=>[gvA r.1 r.2]
theorem Wk{ks:List Rk}(K:lH ks)(M:Nat){fn:Nat->PV}(hf:∀j,noRef (fn j)=true){C:Cs}:∀r:Ro,IG C ks M r->ny ks M (dz fn r) (roA r)
 | .put fl s o,h=>P0 K M h.1 h.2.1 (by cases fl<;>first | exact .inl rfl | exact .inr rfl)
 | .set s g a b,h=>P1 K M h.1 (.str g) rfl h.2.1 h.2.2.1
 | .Ex t s,h=>My K M h.1 h.2.1
 | .Ey t s,h=>Mz K M h.1 h.2.1
 | .drop s,h=>MA K M h.1
 | .uX x b s,h=>MB K M (by cases b<;>first | exact .inl rfl | exact .inr rfl) x h.1
 | .call tk j ar,h=>MC K M (fn j) (hf j) h.2.2.2.1 h.2.2.2.2.1 h.2.2.2.2.2
 | .ME a i m,h=>Wh K M h.1 i h.2
 | .go m,h=>Wi K M h
 | .R8 a,h=>P4 K M h
 | .kH none,_=>IF K M
 | .kH (some r),h=>Mx K M (h r rfl)
theorem MF{ks:List Rk}{M:Nat}{fn:Nat->PV}(hf:∀j,noRef (fn j)=true){C:Cs}:∀r:Ro,IG C ks M r->noRef (dz fn r)=true
 | .put fl s o,h=>by simp[dz,noRef,ah,fY h.1,dY.nr h.2.1]
 | .set s g a b,h=>by simp[dz,noRef,ah,fY h.1,dY.nr h.2.1,dY.nr h.2.2.1]
 | .Ex t s,h=>by simp[dz,noRef,ah,fY h.1,fY h.2.1]
 | .Ey t s,h=>by simp[dz,noRef,ah,fY h.1,fY h.2.1]
 | .drop s,h=>by simp[dz,noRef,ah,fY h.1]
 | .uX x b s,h=>by simp[dz,noRef,ah,fY h.1]
 | .call tk j ar,h=>by simp[dz,noRef,ah,hf j,gB]
 | .ME a i m,h=>by simp[dz,noRef,ah,dY.nr h.1,iN]
 | .go m,h=>rfl
 | .R8 a,h=>by simp[dz,noRef,ah,dY.nr h]
 | .kH z,_=>rfl
def uY(fn:Nat->PV)(C:Cs)(ks:List Rk)(M:Nat)(p:PV):Prop:=∃r,p=dz fn r/\IG C ks M r
def Rt(P:PV->Prop)(x:Option (Rs dB×cC)):Prop:=∃p s,x=some (.ok (.rt p),s)/\noRef p=true/\P p
theorem Rt.run{f:Gx dB}{n:Nat}{as:List PV}{P:PV->Prop}(h:Rt P (f ⟨gJ n as,[]⟩)):∃p,Gives (dU f n as []) p/\P p:=by
 obtain⟨p,⟨ρ,h'⟩,a,b,c⟩:=h;exact⟨p,gV a b,c⟩
theorem xS{f g:Gx dB}{s s1:cC}{P:PV->Prop}(h:Ev f s .nx s1)(k:Rt P (g s1)):Rt P (eE f g s):=by
 obtain⟨p,s2,a,b⟩:=k;exact⟨p,s2,sq h a,b⟩
theorem xI{gc:Gx Bool}{f h:Gx dB}{s s1:cC}{b:Bool}{P:PV->Prop}(hc:Ev gc s b s1)(ht:b=true->Rt P (f s1))(hf:b=false->Rt P (h s1)):Rt P (eE (fG gc f (aY .nx)) h s):=by
 cases b with
 | true =>
  obtain⟨p,s2,a,c⟩:=ht rfl;exact⟨p,s2,uM (iT hc a),c⟩
 | false =>
  obtain⟨p,s2,a,c⟩:=hf rfl;exact⟨p,s2,sq (iF hc rfl) a,c⟩
theorem xR{fa:Gx PV}{s s1:cC}{p:PV}{P:PV->Prop}(h:Ev fa s p s1)(hn:noRef p=true)(k:P p):Rt P (retS fa s):=⟨p,s1,rS h,hn,k⟩
theorem oB{f g:Gx Bool}{s:cC}{a b:Bool}(h1:Ev f s a s)(h2:Ev g s b s):Ev (fG f (aY true) g) s (a || b) s:=by
 cases a with
 | true=>exact iT h1 rfl
 | false=>exact iF h1 h2
theorem nD{f g:Gx Bool}{s:cC}{a b:Bool}(h1:Ev f s a s)(h2:Ev g s b s):Ev (fG f g (aY false)) s (a&&b) s:=by
 cases a with
 | true=>exact iT h1 h2
 | false=>exact iF h1 rfl
theorem R9(h:List az){s t:Sh}(hs:yC s)(ht:yC t):k0 h (enc s) (enc t)=some (.bl (eqT (vQ s) (vQ t))):=by
 have e1:=toT_enc h s gn (by have:=hs.2;show _<1000;lia)
 have e2:=toT_enc h t gn (by have:=ht.2;show _<1000;lia)
 show((toT h gn (enc s)).bind λx=>(toT h gn (enc t)).map λy=>eqT x y).map PV.bl=_
 rw[e1,e2];rfl
theorem yP{α:Type}{l:List α}(h:l.isEmpty=false):0<l.length:=by
 cases l with
 | nil=>cases h
 | cons a l=>simp
theorem jI{α:Type}{l:List α}{x:α}(h:x∈l):0<l.length:=by
 cases l with
 | nil=>cases h
 | cons a l=>simp
section
variable {ks:List Rk} (K:lH ks) (M:Nat)
abbrev SL(ks:List Rk):PV:=.lst ((lI ks).map lq)
theorem nz(K:lH ks):∀s∈lI ks,c7 ks s:=λs hs=>(iV K.ok s hs).1
theorem uf(K:lH ks):(lI ks).length<=1000:=by
 have h1:=yO K.ok;have h2:=K.few
 lia
theorem Gj{l:List Sp}{f:Sp->Bool}(h:∀s∈l,c7 ks s):∀s∈l.filter f,c7 ks s:=λs hs=>h s (cD.mp hs).1
theorem Wl{α:Type}{link:List (Option Nat)}{fi:Gx yX}{bd:Bd}{s s1:cC}{l:List α}{e G:α->PV}{f:α->Bool}(hi:Ev fi s (.sq (l.map e)) s1)(hl:l.length<=4000000)(hb:∀a∈l,bd (bO link s1.ρ) (e a) s1.h=some (if f a=true then some (G a)else none,s1.h)):Ev (dh false link fi bd) s (.lst ((l.filter f).map G)) s1:=by
 have z:∀l:List α,(∀a∈l,bd (bO link s1.ρ) (e a) s1.h=some (if f a=true then some (G a)else none,s1.h))->(l.map e).filterMap (λp=>match bd (bO link s1.ρ) p s1.h with | some (o,_)=>o | none=>none)=(l.filter f).map G:=by
  intro l;induction l with
  | nil=>exact λ_=>rfl
  | cons a l ih =>
   intro h;have h1:=h a aN;have h2:=ih λb hb=>h b (aK _ hb)
   rw[aM,wu,h1,h2];cases hf:f a<;>simp[List.filter_cons,hf]
 rw[<-z l hb];refine cQ hi (by rw[ak];exact hl) λp hp=>?_
 obtain⟨a,ha,rfl⟩:=aF.mp hp;rw[hb a ha]
theorem P5(s:Sh):oA false [] oP (.lst (b8 (lv s)))=some (.bl ((lv s).any pN)):=by
 have hd:=tM (yk s);have e:=toT_encs [] (lv s) gn (by rw[hd];decide)
 have e0:Ox [] oP (b8 (lv s))=some ((lv s).any pN):=by
  unfold Ox;rw[e,show toT [] gn oP=some (.ay [.str "own"])from rfl,<-Ei]
  rfl
 have e1:oA false [] oP (.lst (b8 (lv s)))=(Ox [] oP (b8 (lv s))).map λb=>.bl (if false=true then !b else b):=rfl
 rw[e1,e0];rfl
def Gk(s t:Sp):Bool:=eqT (vQ t.r.2.2.2) (vQ s.r.2.2.2)&&may t.d
theorem IH(K:lH ks){s:Sp}(hs:yC s.r.2.2.2)(x0 x1 x2 x4 x6 x7 x8:Option PV):Ek (dh false [none,none,none,none,some 5] Qu (k8 Qf Qk (rd 1))) (S0 [x0,x1,x2,some (SL ks),x4,some (enc s.r.2.2.2),x6,x7,x8]) (.lst (((lI ks).filter (Gk s)).map bK)):=by
 have hl:=uf K;refine Wl (sV rfl rfl) (by lia) λt ht=>?_
 have ok:=nz K t ht;have g:Ek Qk (S0 [none,some (bK t),some (enc t.r.2.2.2),some (.bl (may t.d)),some (enc s.r.2.2.2)]) (Gk s t):=nD (bT (b2 rfl rfl (R9 _ (yN ok.ok ok.row) hs))) (tR rfl rfl);cases hg:Gk s t with
 | true=>rw[hg]at g;exact VO rfl g rfl
 | false=>rw[hg]at g;exact Pt rfl g
end
theorem Gn{ks:List Rk}{N:List Sp}(h:∀s∈N,c7 ks s):k0 [] (.lst (N.map bK)) (.lst [])=some (.bl N.isEmpty):=by
 have e:∀l:List Sp,(∀s∈l,c7 ks s)->∃ts,di (toT [] 999) (l.map bK)=some ts/\ts.length=l.length:=by
  intro l;induction l with
  | nil=>exact λ_=>⟨[],rfl,rfl⟩
  | cons s l ih =>
   intro h;obtain⟨ts,h1,h2⟩:=ih λt ht=>h t (aK _ ht)
   obtain⟨t0,ht0⟩:∃t0,toT [] 999 (bK s)=some t0:=by
    have hp:∀p:List Int,di (toT [] 997) (p.map PV.int)=some (p.map Tr.int):=λp=>by
     induction p with
     | nil=>rfl
     | cons i p ih=>show((di (toT [] 997) (p.map PV.int)).map _)=_;rw[ih];rfl
    have hq:toT [] 998 (.ay (s.r.1.map PV.int))=some (.ay (s.r.1.map Tr.int)):=by
     show((di (toT [] 997) (s.r.1.map PV.int)).bind (Kp .ay))=_;rw[hp];rfl
    obtain⟨ta,hta⟩:∃ta,toT [] 998 s.a=some ta:=by
     have hA:=(h s aN).at_
     revert hA
     generalize s.a=a
     intro hA;cases hA<;>exact⟨_,rfl⟩
    refine⟨.ay [.str s.x,.bl (gw s.d),.ay (s.r.1.map Tr.int),ta],?_⟩;show((di (toT [] 998) [.str s.x,.bl (gw s.d),.ay (s.r.1.map PV.int),s.a]).bind (Kp .ay))=_;simp only[di,hq,hta];rfl
   refine⟨t0::ts,?_,by simp[h2]⟩
   rw[aM];simp only[di,ht0,h1];rfl
 obtain⟨ts,h1,h2⟩:=e N h;have e1:toT [] gn (.lst (N.map bK))=some (.lst ts):=by
  show((di (toT [] 999) (N.map bK)).bind (Kp .lst))=_;rw[h1];rfl
 show((toT [] gn (.lst (N.map bK))).bind λx=>(toT [] gn (.lst [])).map λy=>eqT x y).map PV.bl=_
 rw[e1];cases N with
 | nil=>cases ts with
  | nil=>rfl
  | cons _ _=>simp at h2
 | cons _ _=>cases ts with
  | nil=>simp at h2
  | cons _ _=>rfl
section
variable {ks:List Rk} (K:lH ks) (M:Nat) (fn:Nat->PV) (C:Cs)
include K in
theorem II(k:Nat)(hk:3<=k)(w:Str)(a b:Int)(h0:0<(lI ks).length):∃p,Gives (run txt (k+2) "_law_carried" [.str w,.int a,.int b,SL ks] []) p/\uY fn C ks M p:=by
 rw[yx];refine Rt.run ?_;obtain⟨s,hs,xY⟩:=dm (lI ks) lq a h0;have ok:=nz K s hs;have hz:0<(((lI ks).map lq).length:Int):=by rw[ak];lia
 have h3:=(yN ok.ok ok.row);have hlv:=oV s.r.2.2.2 k (by have:=h3.2;lia) (by have:=h3.1;have:=vE s.r.2.2.2;lia)
 obtain⟨G,hG⟩:∃G,G=(lI ks).filter (Gk s):=⟨_,rfl⟩
 have gc:=IH K h3 (some (.str w)) (some (.int a)) (some (.int b)) (some (bK s)) (some (.bl (may s.d))) none none;rw[<-hG]at gc;have hGs:∀t∈G,c7 ks t:=by rw[hG];exact Gj (nz K)
 have sa:s.a=.bQ:=(iV K.ok s hs).2;have na:∀t∈G,t.a=.bQ:=by rw[hG];exact λt ht=>(iV K.ok t (cD.mp ht).1).2
 have M8:∀t∈G,t.r.2.2.2=s.r.2.2.2:=by rw[hG];exact λt ht=>ue _ _ (fK.mp (cD.mp ht).2).1
 have hgm:∀t∈G,may t.d=true:=by rw[hG];exact λt ht=>(fK.mp (cD.mp ht).2).2
 obtain⟨o,ho⟩:∃o,o=(lv s.r.2.2.2).any pN:=⟨_,rfl⟩
 have io:=P5 s.r.2.2.2;rw[<-ho]at io;have a1:Ev (dc (op2 bW (rd 3) (op2 gD (rd 1) (gI gH Q3))) Qj) (S0 [some (.str w),some (.int a),some (.int b),some (SL ks),none,none,none,none,none]) .nx (S0 [some (.str w),some (.int a),some (.int b),some (SL ks),some (bK s),some (enc s.r.2.2.2),some (.bl (may s.d)),none,none]):=aS (b2 rfl (b2 rfl (bV (cA rfl rfl) rfl) (c8 hz)) (xY _)) rfl;refine xS a1 (xS (aS gc rfl) (xS (aS (b2 rfl (cY rfl rfl rfl hlv) io) rfl) ?_));refine xI (oB (bT (b2 rfl rfl (Gn hGs))) (nD (tR rfl rfl) (tR rfl rfl))) (λ_=>?_) λhc=>?_
 ·exact xR rfl rfl ⟨.R8 (.n a),rfl,trivial⟩
 ·have hGe:G.isEmpty=false:=(Bool.or_eq_false_iff.mp hc).1;obtain⟨t,ht,hgt⟩:=dm G bK b (yP hGe);have Wm:0<((G.map bK).length:Int):=by have:=yP hGe;rw[ak];lia
  have gx:Ek (op2 bW (rd 7) (op2 gD (rd 2) Qv)) (S0 [some (.str w),some (.int a),some (.int b),some (SL ks),some (bK s),some (enc s.r.2.2.2),some (.bl (may s.d)),some (.lst (G.map bK)),some (.bl o)]) (bK t):=b2 rfl (b2 rfl (bV (cA rfl rfl) rfl) (c8 Wm)) (hgt _);have nt:=fY (hGs t ht);have ns:=fY ok;refine xI (oB (tR rfl rfl) (nD (bT (b2 rfl rfl (dX _ _ _))) (nB (tR rfl rfl)))) (λhm=>?_) λ_=>?_
  ·refine xR (tU (cA rfl (cA gx (cA rfl rfl))) (by simp)) (by simp[noRef,ah,nt,ns]) ⟨.Ey t s,rfl,hGs t ht,ok,na t ht,sa,M8 t ht,hgm t ht,?_⟩
   have JZ:=(Bool.or_eq_false_iff.mp hc).2;cases o with
   | true=>rw[wR]at JZ;exact JZ
   | false =>
    rw[Bool.false_or]at hm;have:=(fK.mp hm).2;cases h:gw s.d
    ·rfl
    ·rw[h]at this;cases this
  ·exact xR (tU (cA rfl (cA gx (cA rfl rfl))) (by simp)) (by simp[noRef,ah,nt,ns]) ⟨.Ex t s,rfl,hGs t ht,ok,na t ht,sa,M8 t ht,hgm t ht⟩
end
section
variable {ks:List Rk} (K:lH ks) (M:Nat) (fn:Nat->PV) (C:Cs)
abbrev KL(ks:List Rk):PV:=.lst (ks.map bI)
def P6(s:Sh)(w:Str)(t:Sp):Bool:=eqT (vQ t.r.2.2.2) (vQ s)&&(may t.d || w==(Str.ofString "lend"))
theorem MH(K:lH ks)(b:Bool)(s:Sh)(hs:yC s)(w:Str)(x0 x1 x2 x4 x5 x8:Option PV):Ek (dh false [none,none,none,none,some 6,some 7] Qu (k8 Qf Q8 (rd 1))) (S0 [x0,x1,x2,some (SL ks),x4,x5,some (de (.ho b s)),some (.str w),x8]) (.lst (((lI ks).filter (P6 s w)).map bK)):=by
 have hl:=uf K;refine Wl (sV rfl rfl) (by lia) λt ht=>?_
 have ok:=nz K t ht;have g:Ek Q8 (S0 [none,some (bK t),some (enc t.r.2.2.2),some (.bl (may t.d)),some (de (.ho b s)),some (.str w)]) (P6 s w t):=nD (bT (b2 rfl (b2 rfl rfl rfl) (R9 _ (yN ok.ok ok.row) hs))) (oB (tR rfl rfl) (bT (b2 rfl rfl (dX _ _ _))));cases hg:P6 s w t with
 | true=>rw[hg]at g;exact VO rfl g rfl
 | false=>rw[hg]at g;exact Pt rfl g
theorem IJ(K:lH ks)(x0 x1 x3 x4 x5 x6 x7 x8:Option PV):Ek (dh false [none,none] (ik (rd 2)) (k8 (aR 1) Qq (rd 1))) (S0 [x0,x1,some (KL ks),x3,x4,x5,x6,x7,x8]) (.lst ((ks.filter λq=>gw q.2).map bI)):=by
 have hl:=K.few;refine Wl (sV rfl rfl) (by lia) λq hq=>?_
 have g:Ek Qq (S0 [none,some (bI q)]) (gw q.2):=bT (b2 (b2 (b2 rfl rfl rfl) rfl (oU _ q.2)) rfl (BC _ q.2));cases hg:gw q.2 with
 | true=>rw[hg]at g;exact VO rfl g rfl
 | false=>rw[hg]at g;exact Pt rfl g
include K in
theorem IK(k:Nat)(a b:Int)(hh:∃q∈ks,gw q.2=true):∃p,Gives (run txt (k+1) "_law_lending" [.int a,.int b,KL ks,SL ks] []) p/\uY fn C ks M p:=by
 rw[yy];refine Rt.run ?_;obtain⟨q0,hq0,hi0⟩:=hh;have h0:0<(ks.filter λq=>gw q.2).length:=jI (cD.mpr ⟨hq0,hi0⟩)
 obtain⟨q,hq,xY⟩:=dm (ks.filter λq=>gw q.2) bI a h0
 obtain⟨hqk,hqi⟩:=cD.mp hq;have hz:0<(((ks.filter λq=>gw q.2).map bI).length:Int):=by rw[ak];lia
 obtain⟨G,hG⟩:∃G,G=(ks.filter λq=>gw q.2).map bI:=⟨_,rfl⟩
 have sc:=IJ K (some (.int a)) (some (.int b)) (some (SL ks)) none none none none none;rw[<-hG]at sc xY hz;obtain⟨x,d⟩:=q;cases d with
 | ow s=>cases hqi
 | ho bb s =>
  obtain⟨w,hw,hwb,e1⟩:∃w:Str,w=lw bb/\(may (.ho bb s) || w==(Str.ofString "lend"))=true/\Ek (op2 bW (mq .lst (aq (kS "lend") (aq (kS "sole") (aY [])))) (gI Hk (aq (op2 k0 (op2 bW (rd 6) (kI 0)) (kS "sole")) (aY [])))) (S0 [some (.int a),some (.int b),some (KL ks),some (SL ks),some (.lst G),some (.str x),some (de (.ho bb s)),none,none]) (.str w):=by
   cases bb with
   | true=>exact⟨"sole",rfl,by show(!((Str.ofString "sole")==(Str.ofString "lent")) || _)=true;decide +kernel,b2 (y:=.int 1) rfl (bV (cA (b2 (b2 rfl rfl (oU _ _)) rfl (dX _ _ _)) rfl) (by kernel_rfl)) rfl⟩
   | false=>exact⟨"lend",rfl,by show(!((Str.ofString "lent")==(Str.ofString "lent")) || _)=true;decide +kernel,b2 (y:=.int 0) rfl (bV (cA (b2 (b2 rfl rfl (oU _ _)) rfl (dX _ _ _)) rfl) (by kernel_rfl)) rfl⟩
  have fc:=MH K bb s (K.ok _ hqk) w (some (.int a)) (some (.int b)) (some (KL ks)) (some (.lst G)) (some (.str x)) none;obtain⟨T,hT⟩:∃T,T=(lI ks).filter (P6 s w):=⟨_,rfl⟩
  have hT0:0<T.length:=by
   rw[hT];refine jI (cD.mpr ⟨nu hqk,?_⟩);show(eqT (vQ s) (vQ s)&&(may (.ho bb s) || _))=true;rw[kn,hwb];rfl
  have G4:∀t∈T,c7 ks t:=by rw[hT];exact Gj (nz K)
  have W7:∀t∈T,t.a=.bQ:=by rw[hT];exact λt ht=>(iV K.ok t (cD.mp ht).1).2
  have hTx:∀t∈T,s=t.r.2.2.2:=by rw[hT];exact λt ht=>(ue _ _ (fK.mp (cD.mp ht).2).1).symm
  have hTm:∀t∈T,bb=true->may t.d=true:=by
   rw[hT];intro t ht hb;have:=(fK.mp (cD.mp ht).2).2;rw[hw,hb]at this;rw[show(lw true==Str.ofString "lend")=false by decide +kernel,Bool.or_false]at this
   exact this
  rw[<-hT]at fc;obtain⟨t,ht,Sb⟩:=dm T bK b hT0;have Wm:0<((T.map bK).length:Int):=by rw[ak];lia
  refine xS (aS sc rfl) (xS (aS (b2 rfl (b2 rfl (bV (cA rfl rfl) rfl) (c8 hz)) (xY _)) rfl) (xS (aS e1 rfl) (xS (aS fc rfl) (xR (tU (cA rfl (cA rfl (cA (b2 rfl (b2 rfl (bV (cA rfl rfl) rfl) (c8 Wm)) (Sb _)) rfl))) (by simp)) (by simp[noRef,ah,fY (G4 t ht)]) ⟨.uX x bb t,by rw[hw];rfl,G4 t ht,W7 t ht,hTx t ht▸hqk,hTm t ht⟩))))
end
theorem P7{ks:List Rk}{N:List Sp}(h:∀s∈N,c7 ks s):Ri [] (.lst (N.map bK)) (.lst [])=some (.bl (!N.isEmpty)):=by
 have e:=Gn h;have e1:∀o:Option Bool,o.map PV.bl=some (.bl N.isEmpty)->(o.map λb=>PV.bl !b)=some (.bl (!N.isEmpty)):=λo ho=>by
  cases o with
  | none=>cases ho
  | some b =>
   have:b=N.isEmpty:=by injection ho with z;injection z
   rw[this];rfl
 exact e1 _ e
section
variable {ks:List Rk} (K:lH ks) (M:Nat) (fn:Nat->PV) (C:Cs)
include K in
theorem P8(k:Nat)(w:Str)(a:Int){o:Op}(ho:dY ks o)(hw:∃q∈ks,gw q.2=false):∃p,Gives (run txt (k+1) "_law_small_row" [.str w,.int a,fJ o,SL ks] []) p/\uY fn C ks M p:=by
 rw[tx];refine Rt.run ?_;have hl:=uf K;refine xI (bT (b2 rfl rfl (dX _ _ _))) (λ_=>?_) λ_=>?_
 ·have c1:Ek (dh false [none,none,none,none] Qu (k8 Qf (uD (gM Q4)) (rd 1))) (S0 [some (.str w),some (.int a),some (fJ o),some (SL ks),none,none]) (.lst (((lI ks).filter λt=>!gw t.d).map bK)):=by
   refine Wl (sV rfl rfl) (by lia) λt ht=>?_
   have g:Ek (uD (gM Q4)) (S0 [none,some (bK t),some (enc t.r.2.2.2),some (.bl (may t.d))]) (!gw t.d):=nB (tR rfl rfl);cases hg:(!gw t.d)with
   | true=>rw[hg]at g;exact VO rfl g rfl
   | false=>rw[hg]at g;exact Pt rfl g
  obtain⟨q,hq,hqi⟩:=hw;obtain⟨T,hT⟩:∃T,T=(lI ks).filter λt=>!gw t.d:=⟨_,rfl⟩
  have hT0:0<T.length:=by
   rw[hT];exact jI (cD.mpr ⟨nu hq,by show(!gw q.2)=true;rw[hqi];rfl⟩)
  have G4:∀t∈T,c7 ks t:=by rw[hT];exact Gj (nz K)
  have W7:∀t∈T,t.a=.bQ:=by rw[hT];exact λt ht=>(iV K.ok t (cD.mp ht).1).2
  have hTi:∀t∈T,gw t.d=false:=by
   rw[hT];intro t ht;have:=(cD.mp ht).2;cases h:gw t.d
   ·rfl
   ·rw[h]at this;cases this
  rw[<-hT]at c1;obtain⟨t,ht,Sb⟩:=dm T bK a hT0;have Wm:0<((T.map bK).length:Int):=by rw[ak];lia
  exact xS (aS c1 rfl) (xR (tU (cA rfl (cA (b2 rfl (b2 rfl (bV (cA rfl rfl) rfl) (c8 Wm)) (Sb _)) rfl)) (by simp)) (by simp[noRef,ah,fY (G4 t ht)]) ⟨.drop t,rfl,G4 t ht,W7 t ht,hTi t ht⟩)
 ·have c1:Ek (dh false [none,none,none,none] Qu (k8 Qf Qd (rd 1))) (S0 [some (.str w),some (.int a),some (fJ o),some (SL ks),none,none]) (.lst (((lI ks).filter λt=>BD t.r.2.2.2&&may t.d).map bK)):=by
   refine Wl (sV rfl rfl) (by lia) λt ht=>?_
   have g:Ek Qd (S0 [none,some (bK t),some (enc t.r.2.2.2),some (.bl (may t.d))]) (BD t.r.2.2.2&&may t.d):=nD (bT (b2 (b2 rfl rfl (pK _ _)) rfl (R6 _ _))) (tR rfl rfl);cases hg:(BD t.r.2.2.2&&may t.d)with
   | true=>rw[hg]at g;exact VO rfl g rfl
   | false=>rw[hg]at g;exact Pt rfl g
  obtain⟨T,hT⟩:∃T,T=(lI ks).filter λt=>BD t.r.2.2.2&&may t.d:=⟨_,rfl⟩
  have G4:∀t∈T,c7 ks t:=by rw[hT];exact Gj (nz K)
  have W7:∀t∈T,t.a=.bQ:=by rw[hT];exact λt ht=>(iV K.ok t (cD.mp ht).1).2
  have hTm:∀t∈T,may t.d=true:=by rw[hT];exact λt ht=>(fK.mp (cD.mp ht).2).2
  rw[<-hT]at c1;refine xS (aS c1 rfl) (xI (nD (bT (b2 rfl rfl (dX _ _ _))) (bT (b2 rfl rfl (P7 G4)))) (λhc=>?_) λ_=>?_)
  ·have hTe:T.isEmpty=false:=by
    have:=(fK.mp hc).2;cases h:T.isEmpty
    ·rfl
    ·rw[h]at this;cases this
   obtain⟨t,ht,Sb⟩:=dm T bK a (yP hTe);have Wm:0<((T.map bK).length:Int):=by have:=yP hTe;rw[ak];lia
   exact xR (tU (cA rfl (cA (b2 rfl (b2 rfl (bV (cA rfl rfl) rfl) (c8 Wm)) (Sb _)) (cA rfl rfl))) (by simp)) (by simp[noRef,ah,fY (G4 t ht),dY.nr ho]) ⟨.put true t o,rfl,G4 t ht,ho,hTm t ht,λ_=>W7 t ht,.inl (W7 t ht)⟩
  ·exact xR (tU (cA rfl (cA rfl rfl)) (by simp)) (by simp[noRef,ah,dY.nr ho]) ⟨.R8 o,rfl,ho⟩
end
theorem lC{ts:Gx (List PV)}{s s1:cC}{ps:List PV}(h:Ev ts s ps s1)(hl:ps.length<=4000000):Ev (xy ts) s (.ref s1.h.length) ⟨s1.ρ,s1.h++[⟨.lst,ps⟩]⟩:=eB h (eB (by show(small ps PV.bQ).map _=_;rw[show small ps PV.bQ=some .bQ from if_pos hl];rfl) rfl)
structure Wn (C:Cs) (ks:List Rk) (LK OT OW:List Rk) (BK:List (Option Rk)):Prop where
 lk:(∀r∈LK,r∈ks/\r.2=C.d4)/\0<LK.length
 ot:(∀r∈OT,r∈ks/\r.2=C.d5)/\0<OT.length
 ow:(∀r∈OW,r∈ks/\r.2=C.d1)/\0<OW.length
 bk:(∀o∈BK,(∀r,o=some r->r∈ks)/\o.map (·.2)=C.r1)/\0<BK.length
section
variable {ks:List Rk} (K:lH ks) (M:Nat) (fn:Nat->PV) (C:Cs)
def P9(a b:Int)(CA f0 f1 f2:PV)(L T O B:List PV)(pl:Int)(x:Option PV)(h:List az):cC:=⟨[some (.int a),some (.int b),some CA,some (.lst [f0,f1,f2]),some (.lst L),some (.lst T),some (.lst O),some (.lst B),some (.int pl),x],h⟩
include K in
theorem Wo(k:Nat)(a b:Int)(EJ:∀j,noRef (fn j)=true){LK OT OW:List Rk}{BK:List (Option Rk)}(Q:Wn C ks LK OT OW BK)(hp:0<=C.pl/\C.pl<6):∃p,Gives (run txt (k+1) "_law_call" [.int a,.int b,.ay [.lst [fn 0,fn 1,fn 2],.lst (LK.map iz),.lst (OT.map iz),.lst (OW.map iz),.lst (BK.map Jd),.int C.pl]] []) p/\uY fn C ks M p:=by
 rw[Ig];refine Rt.run ?_;obtain⟨l1,hl1,al1⟩:=dm LK iz b Q.lk.2;obtain⟨o1,T5,ao1⟩:=dm OW iz (b/8) Q.ow.2;obtain⟨t1,ht1,at1⟩:=dm OT iz (b/8) Q.ot.2;obtain⟨o2,ho2,ao2⟩:=dm OW iz (b/64) Q.ow.2;obtain⟨l2,Ut,al2⟩:=dm LK iz (a/4) Q.lk.2;obtain⟨k1,hk1,ak1⟩:=dm BK Jd (a/4) Q.bk.2;have zl:0<((LK.map iz).length:Int):=by have:=Q.lk.2;rw[ak];lia
 have zo:0<((OW.map iz).length:Int):=by have:=Q.ow.2;rw[ak];lia
 have zt:0<((OT.map iz).length:Int):=by have:=Q.ot.2;rw[ak];lia
 have zk:0<((BK.map Jd).length:Int):=by have:=Q.bk.2;rw[ak];lia
 have hL:∀r∈LK,r∈ks/\r.2=C.d4:=Q.lk.1
 have hO:∀r∈OW,r∈ks/\r.2=C.d1:=Q.ow.1
 have hT:∀r∈OT,r∈ks/\r.2=C.d5:=Q.ot.1
 have hB:∀o∈BK,(∀r,o=some r->r∈ks)/\o.map (·.2)=C.r1:=Q.bk.1
 obtain⟨f0,e0⟩:∃f0,f0=fn 0:=⟨_,rfl⟩
 obtain⟨f1,e1⟩:∃f1,f1=fn 1:=⟨_,rfl⟩
 obtain⟨f2,e2⟩:∃f2,f2=fn 2:=⟨_,rfl⟩
 have n0:noRef f0=true:=by rw[e0];exact EJ 0
 have n1:noRef f1=true:=by rw[e1];exact EJ 1
 have n2:noRef f2=true:=by rw[e2];exact EJ 2
 rw[<-e0,<-e1,<-e2];obtain⟨pl,epl⟩:∃pl,pl=C.pl:=⟨_,rfl⟩
 rw[<-epl]at hp ⊢;obtain⟨L,eL⟩:∃L,L=LK.map iz:=⟨_,rfl⟩
 obtain⟨O,eO⟩:∃O,O=OW.map iz:=⟨_,rfl⟩
 obtain⟨T,eT⟩:∃T,T=OT.map iz:=⟨_,rfl⟩
 obtain⟨B,eB⟩:∃B,B=BK.map Jd:=⟨_,rfl⟩
 rw[<-eL]at al1 al2 zl;rw[<-eO]at ao1 ao2 zo;rw[<-eT]at at1 zt;rw[<-eB]at ak1 zk;rw[<-eL,<-eO,<-eT,<-eB];obtain⟨CA,hCA⟩:∃CA,CA=PV.ay [.lst [f0,f1,f2],.lst L,.lst T,.lst O,.lst B,.int pl]:=⟨_,rfl⟩
 have ev1:Ev Q9 (S0 [some (.int a),some (.int b),some CA,none,none,none,none,none,none,none]) .nx (P9 a b CA f0 f1 f2 L T O B pl none []):=by rw[hCA];rfl
 rw[<-hCA];have d4:∀(v:Int) (x:Option PV) (h:List az),Ek (toB (op2 k0 (op2 gD (rd 0) (kI 4)) (aY (.int v)))) (P9 a b CA f0 f1 f2 L T O B pl x h) (a%4==v):=λv x h=>bT (b2 (b2 rfl rfl (c8 (by decide))) rfl (oT _ _ _))
 refine xS ev1 (xI (d4 0 none []) (λ_=>?_) λ_=>?_)
 ·exact xR rfl (by simp[noRef,ah,n0]) ⟨.call none 0 [],by rw[e0];rfl,by decide,rfl,rfl,(λ_ h=>nomatch h),by simp,λ_ h=>nomatch h⟩
 have pkL:∀(x:Option PV) (h:List az),Ek (op2 bW (rd 4) (op2 gD (rd 1) (gI gH (aq (rd 4) (aY []))))) (P9 a b CA f0 f1 f2 L T O B pl x h) (iz l1):=λx h=>b2 rfl (b2 rfl (bV (cA rfl rfl) rfl) (c8 zl)) (al1 _)
 have pkO:∀(x:Option PV) (h:List az),Ek (op2 bW (rd 6) (op2 gD (op2 jc (rd 1) (kI 8)) (gI gH Qs))) (P9 a b CA f0 f1 f2 L T O B pl x h) (iz o1):=λx h=>b2 rfl (b2 (b2 rfl rfl (yJ (by decide))) (bV (cA rfl rfl) rfl) (c8 zo)) (ao1 _)
 have pkT:∀(x:Option PV) (h:List az),Ek (op2 bW (rd 5) (op2 gD (op2 jc (rd 1) (kI 8)) (gI gH (aq (rd 5) (aY []))))) (P9 a b CA f0 f1 f2 L T O B pl x h) (iz t1):=λx h=>b2 rfl (b2 (b2 rfl rfl (yJ (by decide))) (bV (cA rfl rfl) rfl) (c8 zt)) (at1 _)
 refine xS (aS (lC (cA (pkL none []) (cA (pkO none []) rfl)) (by simp)) rfl) ?_
 refine xI (d4 1 _ _) (λ_=>?_) λ_=>?_
 ·have d2:Ek (toB (op2 k0 (op2 gD (rd 8) (kI 2)) (kI 1))) (P9 a b CA f0 f1 f2 L T O B pl (some (.ref 0)) [⟨.lst,[iz l1,iz o1]⟩]) (pl%2==1):=bT (b2 (b2 rfl rfl (c8 (by decide))) rfl (oT _ _ _))
  have fin:∀(r1 r2:Rk),r1∈ks->r2∈ks->[r1.2,r2.2]=pk C 1->Rt (uY fn C ks M) (retS (mq .ay (aq (kS "call") (aq (op2 bW (rd 7) (op2 gD (op2 jc (rd 0) (kI 4)) Qv)) (aq (op2 bW (rd 3) (kI 1)) (aq (gI Hj (aq (rd 9) (aY []))) (aY [])))))) (P9 a b CA f0 f1 f2 L T O B pl (some (.ref 0)) [⟨.lst,[iz r1,iz r2]⟩])):=by
   intro r1 r2 h1 h2 h3;refine xR (tU (cA rfl (cA (b2 rfl (b2 (b2 rfl rfl (yJ (by decide))) (bV (cA rfl rfl) rfl) (c8 zk)) (ak1 _)) (cA (b2 rfl rfl rfl) (cA (bV rfl rfl) rfl)))) (by simp)) (by simp[noRef,ah,n1]) ⟨.call k1 1 [r1,r2],by rw[e1];rfl,by decide,(hB k1 hk1).2,h3,(λr hr=>?_),by simp,(hB k1 hk1).1⟩
   simp only[aU,eK,eQ]at hr;rcases hr with rfl | rfl
   ·exact h1
   ·exact h2
  cases hb:(pl%2==1)with
  | true =>
   rw[hb]at d2;exact xS (iT d2 rfl) (fin o1 l1 (hO _ T5).1 (hL _ hl1).1 (by rw[(hO _ T5).2,(hL _ hl1).2];show _=(if C.pl%2=1 then _ else _);rw[<-epl,if_pos (bj hb)]))
  | false =>
   rw[hb]at d2;exact xS (iF d2 rfl) (fin l1 o1 (hL _ hl1).1 (hO _ T5).1 (by rw[(hO _ T5).2,(hL _ hl1).2];show _=(if C.pl%2=1 then _ else _);rw[<-epl,if_neg (λz=>by rw[z]at hb;cases hb)]))
 ·refine xS (aS (lC (cA (pkL _ _) (cA (pkT _ _) rfl)) (by simp)) rfl) ?_
  obtain⟨j,hj,hj2⟩:∃j:Nat,pl/2=(j:Int)/\j<=2:=⟨(pl/2).toNat,by lia,by lia⟩
  have ad7:Ev (g9 (Dx "list" (l0 (iK Kw)) (rd 9) (aq (op2 jc (rd 8) (kI 2)) (aq (op2 bW (rd 6) (op2 gD (op2 jc (rd 1) (kI 64)) (gI gH Qs))) (aY []))))) (P9 a b CA f0 f1 f2 L T O B pl (some (.ref 1)) [⟨.lst,[iz l1,iz o1]⟩,⟨.lst,[iz l1,iz t1]⟩]) .nx (P9 a b CA f0 f1 f2 L T O B pl (some (.ref 1)) [⟨.lst,[iz l1,iz o1]⟩,⟨.lst,([l1,t1].take j++o2::[l1,t1].drop j).map iz⟩]):=by
   refine dS (p:=.bQ) (BW (as:=[.int (j:Int),iz o2]) rfl rfl (cA (b2 rfl rfl (by rw[<-hj];exact yJ (by decide))) (cA (b2 rfl (b2 (b2 rfl rfl (yJ (by decide))) (bV (cA rfl rfl) rfl) (c8 zo)) (ao2 _)) rfl)) ?_)
   have:j=0\/j=1\/j=2:=by lia
   rcases this with rfl | rfl | rfl<;>rfl
  refine xS ad7 ?_;obtain⟨ar,har⟩:∃ar,ar=[l1,t1].take j++o2::[l1,t1].drop j:=⟨_,rfl⟩
  rw[<-har];have ham:(∀r∈ar,r∈ks)/\ar.length<=4/\ar.map (·.2)=pk C 2:=by
   have:j=0\/j=1\/j=2:=by lia
   rcases this with rfl | rfl | rfl
   all_goals
    rw[har];refine⟨λr hr=>?_,by simp,?_⟩
    rotate_left
    ·show _=[C.d4,C.d5].take (C.pl/2).toNat++C.d1::[C.d4,C.d5].drop (C.pl/2).toNat;rw[<-epl,hj];simp[(hO _ ho2).2,(hL _ hl1).2,(hT _ ht1).2]
    simp at hr;rcases hr with rfl | rfl | rfl
    all_goals first | exact(hL _ hl1).1 | exact(hT _ ht1).1 | exact(hO _ ho2).1
  exact xR (tU (cA rfl (cA (b2 rfl (b2 (b2 rfl rfl (yJ (by decide))) (bV (cA rfl rfl) rfl) (c8 zl)) (al2 _)) (cA (b2 rfl rfl rfl) (cA (bV rfl rfl) rfl)))) (by simp)) (by simp[noRef,ah,n2,gB]) ⟨.call (some l2) 2 ar,by rw[e2];rfl,by decide,by show some l2.2=some C.d4;rw[(hL _ Ut).2],ham.2.2,ham.1,ham.2.1,λr hr=>by cases hr;exact(hL _ Ut).1⟩
end
theorem Qx(m:Int):∃y:Str,∀h,bW h (.str "+-*") (.int (m%3))=some (.str y):=by
 have:m%3=0\/m%3=1\/m%3=2:=by lia
 rcases this with h | h | h<;>rw[h]
 ·exact⟨"+",λ_=>by kernel_rfl⟩
 ·exact⟨"-",λ_=>by kernel_rfl⟩
 ·exact⟨"*",λ_=>by kernel_rfl⟩
theorem ad9(h:List az)(w a b:Str):oA false h (.str w) (.ay [.str a,.str b])=some (.bl (a==w || (b==w || false))):=rfl
theorem MI{N:List Sp}(hl:N.length<=1000)(x0 x1 x2 x3 x4 x5 x7 x8 x9 IL IM IP x13:Option PV):Ek (dh false [none,none,none] (ik (rd 6)) (k8 Qc (gM (rd 2)) (rd 1))) (S0 [x0,x1,x2,x3,x4,x5,some (.lst (N.map jV)),x7,x8,x9,IL,IM,IP,x13]) (.lst ((N.filter λt=>may t.d).map bK)):=by
 refine Wl (sV rfl rfl) (by lia) λs hs=>?_
 have g:Ek (gM (rd 2)) (S0 [none,some (bK s),some (.bl (may s.d))]) (may s.d):=tR rfl rfl;cases hg:may s.d with
 | true=>rw[hg]at g;exact VO (by rw[<-hg];rfl) g rfl
 | false=>rw[hg]at g;exact Pt (by rw[<-hg];rfl) g
abbrev mdT(W:List Str)(ks:List Rk)(x:Str)(dg:Int)(CA fX:PV):PV:=.ay [.lst (W.map .str),KL ks,SL ks,.lst ((R7 ks x dg).map jV),CA,fX]
abbrev caT(fn:Nat->PV)(LK OT OW:List Rk)(BK:List (Option Rk))(pl:Int):PV:=.ay [.lst [fn 0,fn 1,fn 2],.lst (LK.map iz),.lst (OT.map iz),.lst (OW.map iz),.lst (BK.map Jd),.int pl]
theorem Wq{ks:List Rk}{x:Str}{dg:Int}(h:V1 ks):∀t∈R7 ks x dg,nsp t:=λt ht=>by
 obtain⟨s,hs,ht⟩:=fg.mp ht;have hn:=(iV h s hs).2;unfold il at ht;split at ht
 ·rw[bC]at ht;subst ht;exact .inl hn
 ·rw[bC]at ht;subst ht;exact .inl hn
 ·rename_i e;rw[bC]at ht;subst ht;exact .inr (by show BD s.r.2.2.2=true;rw[e];rfl)
 ·cases ht
theorem aaf(k:Nat)(hk:3<=k){ks:List Rk}(K:lH ks){M:Nat}(hM:0<M){W:List Str}(hW:0<W.length){x:Str}(hx:(x,Kn.ow .num)∈ks)(hh:∃q∈ks,gw q.2=true)(dg:Int){fn:Nat->PV}(EJ:∀j,noRef (fn j)=true){C:Cs}{LK OT OW:List Rk}{BK:List (Option Rk)}(Q:Wn C ks LK OT OW BK)(hp:0<=C.pl/\C.pl<6){fX:PV}(hln:noRef fX=true)(hla:uY fn C ks M fX)(Ce:Int) :
  ∃p,Gives (run txt (k+3) "_law_row" [.int Ce,.int (M:Int),mdT W ks x dg (caT fn LK OT OW BK C.pl) fX] []) p/\uY fn C ks M p:=by
 obtain⟨n1,n2,n3⟩:=Ew K hx dg;have n4:=Wq (x:=x) (dg:=dg) K.ok;obtain⟨tm,htm,hmy⟩:=n3;obtain⟨N,hN⟩:∃N,N=R7 ks x dg:=⟨_,rfl⟩
 rw[<-hN]at n1 n2 n4 htm;have hN0:=jI htm;have h0:0<(lI ks).length:=jI (nu hx);have hz:0<((W.map PV.str).length:Int):=by rw[ak];lia
 obtain⟨w,_,hwa⟩:=dm W PV.str (Iv Ce 0) hW;obtain⟨a,ha⟩:∃a,a=Iv Ce 1:=⟨_,rfl⟩
 obtain⟨b,hb⟩:∃b,b=Iv Ce 2:=⟨_,rfl⟩
 have ma:=nj (k+1) Ce (i:=1) (by decide)
 have mb:=nj (k+1) Ce (i:=2) (by decide)
 have m0:=nj (k+1) Ce (i:=0) (by decide)
 rw[<-ha]at ma;rw[<-hb]at mb;obtain⟨one,e1,o1⟩:=vX (k+1) n1 hN0 Ce b;obtain⟨two,e2,o2⟩:=vX (k+1) n1 hN0 (Ce/7) a;obtain⟨pc,c1,c2⟩:=II K M fn C k hk w a b h0;obtain⟨pl',l1,l2⟩:=IK K M fn C (k+1) a b hh;obtain⟨pq,q1,q2⟩:=Wo K M fn C (k+1) a b EJ Q hp;obtain⟨ps,s1,s2⟩:=P8 K M fn C (k+1) w a o1 ⟨_,hx,rfl⟩;obtain⟨T,hT⟩:∃T,T=N.filter λt=>may t.d:=⟨_,rfl⟩
 have hT0:0<T.length:=by rw[hT];exact jI (cD.mpr ⟨htm,hmy⟩)
 have G4:∀t∈T,c7 ks t/\may t.d=true/\nsp t:=by
  rw[hT];exact λt ht=>⟨n1 t (cD.mp ht).1,(cD.mp ht).2,n4 t (cD.mp ht).1⟩
 obtain⟨t,ht,hta⟩:=dm T bK a hT0;obtain⟨t1,t2,t3⟩:=G4 t ht;have hTz:0<((T.map bK).length:Int):=by rw[ak];lia
 obtain⟨pm,hpm⟩:=Qx b;obtain⟨j,hj,hjM⟩:∃j:Nat,a%(M:Int)=(j:Int)/\j<M:=⟨(a%(M:Int)).toNat,by
  have:=lQ a (show(M:Int)≠0 by lia)
  lia,by
  have:=wA a (show(0:Int)<(M:Int) by lia)
  have:=lQ a (show(M:Int)≠0 by lia)
  lia⟩
 have gm:∀h,gD h (.int a) (.int (M:Int))=some (iN j):=λh=>by
  unfold iN;rw[<-hj];exact c8 (by lia)
 unfold mdT;rw[<-hN];obtain⟨CA,hCA⟩:∃CA,CA=caT fn LK OT OW BK C.pl:=⟨_,rfl⟩
 rw[<-hCA];have q1:Gives (run txt (k+2) "_law_call" [.int a,.int b,CA] []) pq:=by rw[hCA];exact q1
 obtain⟨md,W8⟩:∃md,md=PV.ay [.lst (W.map .str),KL ks,SL ks,.lst (N.map jV),CA,fX]:=⟨_,rfl⟩
 rw[L4];refine Rt.run ?_;have a0:Ev Q9 (S0 [some (.int Ce),some (.int (M:Int)),some md,none,none,none,none,none,none,none,none,none,none,none]) .nx (S0 [some (.int Ce),some (.int (M:Int)),some md,some (.lst (W.map .str)),some (KL ks),some (SL ks),some (.lst (N.map jV)),some CA,some fX,none,none,none,none,none]):=by rw[W8];exact aS rfl rfl
 rw[<-W8];have oc:=MI n2 (some (.int Ce)) (some (.int (M:Int))) (some md) (some (.lst (W.map .str))) (some (KL ks)) (some (SL ks)) (some CA) (some fX) (some (.int a)) (some (.int b)) (some (.str w)) none none;rw[<-hT]at oc;have nc:∀s:cC,s.h=[]->∀as:List PV,(s.h.isEmpty || ah as)=true:=λs h as=>by rw[h];rfl
 obtain⟨S,hS⟩:∃S:cC,S=S0 [some (.int Ce),some (.int (M:Int)),some md,some (.lst (W.map .str)),some (KL ks),some (SL ks),some (.lst (N.map jV)),some CA,some fX,some (.int a),some (.int b),some (.str w),some (.lst (T.map bK)),some (fJ one)]:=⟨_,rfl⟩
 refine xS a0 (xS (aS (cY (cA rfl (cA rfl rfl)) rfl rfl ma) rfl) (xS (aS (cY (cA rfl (cA rfl rfl)) rfl rfl mb) rfl) (xS (aS (b2 (x:=.lst (W.map .str)) rfl (b2 (cY (cA rfl (cA rfl rfl)) rfl rfl m0) (bV (as:=[.lst (W.map .str)]) (cA rfl rfl) rfl) (c8 hz)) (hwa _)) rfl) (xS (aS oc rfl) (xS (s1:=S) (aS (cY (cA rfl (cA rfl (cA rfl rfl))) rfl rfl e1) (by rw[hS];rfl)) ?_)))))
 have wd:∀v:Str,Ev (toB (op2 k0 (rd 11) (aY (.str v)))) S (w==v) S:=λv=>by rw[hS];exact bT (b2 rfl rfl (dX _ _ _))
 have ot:Ev (op2 bW (rd 12) (op2 gD (rd 9) (gI gH (aq (rd 12) (aY []))))) S (bK t) S:=by rw[hS];exact b2 (x:=.lst (T.map bK)) rfl (b2 (x:=.int a) rfl (bV (as:=[.lst (T.map bK)]) (cA rfl rfl) rfl) (c8 hTz)) (hta _)
 have sa:Ev (rd 9) S (.int a) S:=by rw[hS];rfl
 have sb:Ev (rd 10) S (.int b) S:=by rw[hS];rfl
 have YU:Ev (rd 1) S (.int (M:Int)) S:=by rw[hS];rfl
 have so:Ev (rd 13) S (fJ one) S:=by rw[hS];rfl
 have sh:(S.h.isEmpty)=true:=by rw[hS];rfl
 have cl:∀as:List PV,(S.h.isEmpty || ah as)=true:=λas=>by rw[sh];rfl
 have rw1:Ev (rd 11) S (.str w) S:=by rw[hS];rfl
 have r4:Ev (rd 4) S (KL ks) S:=by rw[hS];rfl
 have r5:Ev (rd 5) S (SL ks) S:=by rw[hS];rfl
 have r6:Ev (rd 6) S (.lst (N.map jV)) S:=by rw[hS];rfl
 have r7:Ev (rd 7) S CA S:=by rw[hS];rfl
 have r8:Ev (rd 8) S fX S:=by rw[hS];rfl
 have r0:Ev (rd 0) S (.int Ce) S:=by rw[hS];rfl
 have nS:noRef (bK t)=true:=fY t1;have nO:noRef (fJ one)=true:=dY.nr o1;have nO2:noRef (fJ two)=true:=dY.nr o2;have nX:∀p,uY fn C ks M p->noRef p=true:=λp ⟨r,h1,h2⟩=>by rw[h1];exact MF EJ r h2
 refine xI (wd "put") (λ_=>?_) λ_=>?_
 ·exact xR (tU (ps:=[.str "put",bK t,fJ one]) (cA rfl (cA ot (cA so rfl))) (by simp)) (by simp[noRef,ah,nS,nO]) ⟨.put false t one,rfl,t1,o1,t2,(λz=>nomatch z),t3⟩
 refine xI (wd "set") (λ_=>?_) λ_=>?_
 ·exact xR (tU (ps:=[.str "set",bK t,.str pm,fJ one,fJ two]) (cA rfl (cA ot (cA (b2 (x:=.str "+-*") rfl (b2 sb rfl (c8 (by decide))) (hpm _)) (cA so (cA (cY (cA (b2 r0 rfl (yJ (by decide))) (cA sa (cA r6 rfl))) rfl (cl _) e2) rfl))))) (by simp)) (by simp[noRef,ah,nS,nO,nO2]) ⟨.set t pm one two,rfl,t1,o1,o2,t2,t3⟩
 refine xI (bT (b2 (x:=.str w) (y:=.ay [.str "copy",.str "move"]) rw1 rfl (ad9 _ _ _ _))) (λ_=>?_) λ_=>?_
 ·exact xR (cY (cA rw1 (cA sa (cA sb (cA r5 rfl)))) rfl (cl _) c1) (nX _ c2) c2
 refine xI (wd "lend") (λ_=>?_) λ_=>?_
 ·exact xR (cY (cA sa (cA sb (cA r4 (cA r5 rfl)))) rfl (cl _) l1) (nX _ l2) l2
 refine xI (wd "call") (λ_=>?_) λ_=>?_
 ·exact xR (cY (cA sa (cA sb (cA r7 rfl))) rfl (cl _) q1) (nX _ q2) q2
 refine xI (wd "give") (λ_=>?_) λ_=>?_
 ·exact xR r8 hln hla
 refine xI (wd "go") (λ_=>?_) λ_=>?_
 ·exact xR (tU (ps:=[.str "go",iN j]) (cA rfl (cA (b2 sa YU (gm _)) rfl)) (by simp)) rfl ⟨.go j,rfl,hjM⟩
 refine xI (wd "if") (λ_=>?_) λ_=>?_
 ·exact xR (tU (ps:=[.str "if",fJ one,.int (b%97),iN j]) (cA rfl (cA so (cA (b2 sb rfl (c8 (by decide))) (cA (b2 sa YU (gm _)) rfl)))) (by simp)) (by simp[noRef,ah,nO,iN]) ⟨.ME one (b%97) j,rfl,o1,hjM⟩
 ·exact xR (cY (cA rw1 (cA sa (cA so (cA r5 rfl)))) rfl (cl _) s1) (nX _ s2) s2
def mC(ns:List Int)(i:Nat):Int:=Iv (cell ns (1+i)) (i%4)
abbrev NM(C:Int):PV:=.lst (nmL C 13)
abbrev CE(ns:List Int):PV:=.lst ((List.range 7).map λi=>.int (mC ns i))
def IQ(ns:List Int):List Sh:=[.num,iU (mC ns 0),iU (mC ns 1),iU (mC ns 2)]
abbrev OE(ns:List Int):PV:=.lst ((IQ ns).map enc)
theorem MJ(C:Int){q:Nat}(h:q<13)(H:List az):bW H (NM C) (.int (q:Int))=some (.str (jk C q)):=atI_nat (by unfold nmL;rw[bR,qW h];rfl)
theorem Sd(ns:List Int){q:Nat}(h:q<7)(H:List az):bW H (CE ns) (.int (q:Int))=some (.int (mC ns q)):=atI_nat (by rw[bR,qW h];rfl)
theorem Wr(ns:List Int):∀s∈IQ ns,cL s:=λs hs=>by
 simp only[IQ,aU,eK,eQ]at hs;rcases hs with rfl | rfl | rfl | rfl
 ·exact Mo
 ·exact kU _
 ·exact kU _
 ·exact kU _
noncomputable def Ws(S:Option PV)(NN:PV)(i:Nat)(CC OO:PV)(acc:List PV)(o6 o7:Option PV):cC:=⟨[S,some NN,some (.int (i:Int)),some CC,some OO,some (.ref 0),o6,o7],[⟨.lst,acc⟩]⟩
theorem nA(k:Nat)(hk:3<=k)(C:Int)(ns:List Int)(S:Option PV){i:Nat}(hi:i<4)(acc:List PV)(ha:acc.length<=100)(o6 o7:Option PV):∃(d:Kn) (IB PU:Option PV),Ev (Ic (run txt (k+1))) (Ws S (NM C) i (CE ns) (OE ns) acc o6 o7) .nx (Ws S (NM C) i (CE ns) (OE ns) (acc++[bI (jk C (4+i),d)]) IB PU)/\gw d=true/\cL (b9 d):=by
 obtain⟨m,hm⟩:∃m,m=mC ns (3+i):=⟨_,rfl⟩
 have hc:=Sd ns (q:=3+i) (by lia)
 rw[<-hm]at hc;obtain⟨CC,hCC⟩:∃CC,CC=CE ns:=⟨_,rfl⟩
 rw[<-hCC]at hc;rw[<-hCC];have hn:=MJ C (q:=4+i) (by lia)
 obtain⟨NN,Nd⟩:∃NN,NN=NM C:=⟨_,rfl⟩
 rw[<-Nd]at hn;rw[<-Nd];have h3:∀h,eU h (.int 3) (.int (i:Int))=some (.int ((3+i:Nat):Int)):=λ_=>ej (λz=>some (PV.int z)) (by lia)
 have h4:∀h,eU h (.int 4) (.int (i:Int))=some (.int ((4+i:Nat):Int)):=λ_=>ej (λz=>some (PV.int z)) (by lia)
 obtain⟨s,hs,xY⟩:∃s∈IQ ns,∀h,bW h (OE ns) (.int (1+m%3))=some (enc s):=by
  have:m%3=0\/m%3=1\/m%3=2:=by lia
  rcases this with h | h | h
  ·rw[h];exact⟨iU (mC ns 0),by simp[IQ],λ_=>(atI_nat rfl:L2.mn ((IQ ns).map enc) ((1:Nat):Int)=_)⟩
  ·rw[h];exact⟨iU (mC ns 1),by simp[IQ],λ_=>(atI_nat rfl:L2.mn ((IQ ns).map enc) ((2:Nat):Int)=_)⟩
  ·rw[h];exact⟨iU (mC ns 2),by simp[IQ],λ_=>(atI_nat rfl:L2.mn ((IQ ns).map enc) ((3:Nat):Int)=_)⟩
 have fs:=Wr ns s hs;obtain⟨OO,hOO⟩:∃OO,OO=OE ns:=⟨_,rfl⟩
 rw[<-hOO]at xY;rw[<-hOO];have hp:=yM s k (by have:=fs.1.1.2;lia) (by have:=fs.1.1.1;lia)
 obtain⟨r,hr,hra⟩:=dm (tab s) jU (m/9) (ym s);have hz:0<(((tab s).map jU).length:Int):=by have:=ym s;rw[ak];lia
 obtain⟨T,hT⟩:∃T,T=(tab s).map jU:=⟨_,rfl⟩
 rw[<-hT]at hp hra hz;obtain⟨b,hb⟩:∃b:Bool,∀h,bW h (.lst [.str "lent",.str "sole",.str "sole"]) (.int (m/3%3))=some (.str (hw b)):=by
  have:m/3%3=0\/m/3%3=1\/m/3%3=2:=by lia
  rcases this with h | h | h
  ·rw[h];exact⟨false,λ_=>rfl⟩
  ·rw[h];exact⟨true,λ_=>rfl⟩
  ·rw[h];exact⟨true,λ_=>rfl⟩
 refine⟨.ho b r.2.2.2,some (.lst T),some (.str (hw b)),?_,rfl,Mp fs hr⟩;have c0:∀(x6 x7:Option PV),Ek (op2 bW (rd 3) (op2 eU (kI 3) (rd 2))) (Ws S NN i CC OO acc x6 x7) (.int m):=λx6 x7=>b2 rfl (b2 rfl rfl (h3 _)) (hc _)
 refine sq (aS (cY (cA (b2 rfl (b2 rfl (b2 (c0 _ _) rfl (c8 (by decide))) rfl) (xY _)) rfl) rfl (by simp[ah,dv]) hp) rfl) (sq (aS (b2 rfl (b2 (b2 (c0 _ _) rfl (yJ (by decide))) rfl (c8 (by decide))) (hb _)) rfl) ?_)
 have ln:∀h,gH h [.lst T]=some (.int (T.length:Int)):=λ_=>rfl
 exact dS (BW rfl rfl (cA (tU (cA (b2 rfl (b2 rfl rfl (h4 _)) (hn _)) (cA (tU (cA rfl (cA (b2 (b2 rfl (b2 (b2 (c0 _ _) rfl (yJ (by decide))) (bV (cA rfl rfl) (ln _)) (c8 hz)) (hra _)) rfl rfl) rfl)) (by simp)) rfl)) (by simp)) rfl) (aC rfl (by lia)))
abbrev ltL(C:Int)(ns:List Int)(d4 d5 d6 d7:Kn):List Rk:=[(jk C 0,.ow .num),(jk C 1,.ow (iU (mC ns 0))),(jk C 2,.ow (iU (mC ns 1))),(jk C 3,.ow (iU (mC ns 2))),(jk C 4,d4),(jk C 5,d5),(jk C 6,d6),(jk C 7,d7)]
theorem ug:∀l:List Rk,ah (l.map bI)=true
 | []=>rfl
 | r::l=>by rw[aM];simp[ah,noRef,bI,qH,ug l]
theorem Wt(k:Nat)(hk:3<=k)(C:Int)(ns:List Int):∃d4 d5 d6 d7:Kn,Gives (run txt (k+2) "_law_lets" [y0 ns,NM C] []) (.lst ((ltL C ns d4 d5 d6 d7).map bI))/\(gw d4=true/\cL (b9 d4))/\(gw d5=true/\cL (b9 d5))/\(gw d6=true/\cL (b9 d6))/\(gw d7=true/\cL (b9 d7)):=by
 obtain⟨S,hS⟩:∃S,S=y0 ns:=⟨_,rfl⟩
 have ki:∀i:Nat,Gives (run txt (k+1) "_law_cell_at" [S,.int (i:Int)] []) (.int (cell ns i)):=λi=>by rw[hS];exact Mj k ns i
 obtain⟨acc,uJ⟩:∃acc,acc=(([(jk C 0,.ow .num),(jk C 1,.ow (iU (mC ns 0))),(jk C 2,.ow (iU (mC ns 1))),(jk C 3,.ow (iU (mC ns 2)))]:List Rk).map bI):=⟨_,rfl⟩
 have hal:acc.length=4:=by rw[uJ];rfl
 obtain⟨d4,x6,x7,h4,i4⟩:=nA k hk C ns (some S) (i:=0) (by decide) acc (by lia) none none
 obtain⟨d5,y6,y7,h5,i5⟩:=nA k hk C ns (some S) (i:=1) (by decide) (acc++[bI (jk C 4,d4)]) (by simp;lia) x6 x7
 obtain⟨d6,z6,z7,h6,i6⟩:=nA k hk C ns (some S) (i:=2) (by decide) (acc++[bI (jk C 4,d4)]++[bI (jk C 5,d5)]) (by simp;lia) y6 y7
 obtain⟨d7,v6,v7,h7,i7⟩:=nA k hk C ns (some S) (i:=3) (by decide) (acc++[bI (jk C 4,d4)]++[bI (jk C 5,d5)]++[bI (jk C 6,d6)]) (by simp;lia) z6 z7
 refine⟨d4,d5,d6,d7,?_,i4,i5,i6,i7⟩;rw[Ie,<-hS];have c1:Ek (dh false [none,none,some 0] (Fj (sL xP (aq (kI 7) (aY [])))) (k7 (aR 1) (bnd (aq (bnd (aq (rd 2) (aq (op2 eU (kI 1) (rd 1)) (aY []))) (bF 0 2 (run txt (k+1) "_law_cell_at"))) (aq (op2 gD (rd 1) (kI 4)) (aY []))) (bF 0 2 (run txt (k+1) "_law_mixed"))))) (S0 [some S,some (NM C),none,none,none,none,none,none]) (CE ns):=by
  refine cM (nk (cA rfl rfl) (by lia)) (by simp) λi hi=>?_
  have e0:nH i=iN i:=by unfold nH iN;rw[oe]
  rw[e0];have h1:∀h,eU h (.int 1) (.int (i:Int))=some (.int ((1+i:Nat):Int)):=λ_=>ej (λz=>some (PV.int z)) (by lia)
  have h2:∀h,gD h (.int (i:Int)) (.int 4)=some (.int ((i%4:Nat):Int)):=λh=>by
   rw[c8 (by decide)]
   exact ej (λz=>some (PV.int z)) (by lia)
  exact e1 rfl (cY (cA (cY (cA rfl (cA (b2 rfl rfl (h1 _)) rfl)) rfl rfl (ki (1+i))) (cA (b2 rfl rfl (h2 _)) rfl)) rfl rfl (nj k (cell ns (1+i)) (by lia)))
 have c2:Ek (op2 eU (mq .lst (aq (mq .ay (aq (kS "num") (aY []))) (aY []))) (dh false [none,none,some 3] (Fj (sL xP (aq (kI 3) (aY [])))) (k7 (aR 1) (bnd (aq (op2 bW (rd 2) (rd 1)) (aY [])) (bF 0 1 (run txt (k+1) "_law_shape")))))) (S0 [some S,some (NM C),none,some (CE ns),none,none,none,none]) (OE ns):=by
  refine b2 (x:=.lst [enc .num]) (y:=.lst ((List.range 3).map λi=>enc (iU (mC ns i)))) rfl (cM (nk (j:=3) (cA rfl rfl) (by lia)) (by simp) λi hi=>?_) (aL (by simp))
  have hi:=ee.mp hi;have e0:nH i=iN i:=by unfold nH iN;rw[oe]
  rw[e0];have hc:=Sd ns (q:=i) (by lia)
  obtain⟨CC,hCC⟩:∃CC,CC=CE ns:=⟨_,rfl⟩
  rw[<-hCC]at hc;rw[<-hCC];exact e1 (sH:=[none,some (iN i),some CC]) (h1:=[]) rfl (cY (cA (b2 (x:=CC) (y:=.int (i:Int)) rfl rfl (hc _)) rfl) rfl rfl (PR k (mC ns i)))
 have c3:Ev (dc (dh true [none,none,some 1,some 4] (Fj (sL xP (aq (kI 4) (aY [])))) (k7 (aR 1) (mq .ay (aq (op2 bW (rd 2) (rd 1)) (aq (op2 bW (rd 3) (rd 1)) (aY [])))))) (aR 5)) (S0 [some S,some (NM C),none,some (CE ns),some (OE ns),none,none,none]) .nx ⟨[some S,some (NM C),none,some (CE ns),some (OE ns),some (.ref 0),none,none],[⟨.lst,acc⟩]⟩:=by
  have ea:acc=(List.range 4).map λi=>PV.ay [.str (jk C i),enc ((IQ ns).getD i .num)]:=by rw[uJ];rfl
  rw[ea];refine aS (cN (nk (j:=4) (cA rfl rfl) (by lia)) (by simp) (cF _ λi hi=>?_)) rfl
  have hi:=ee.mp hi;have e0:nH i=iN i:=by unfold nH iN;rw[oe]
  rw[e0];have hn:=MJ C (q:=i) (by lia)
  have ho:∀h,bW h (OE ns) (.int (i:Int))=some (enc ((IQ ns).getD i .num)):=λ_=>(atI_nat (by
   have:i=0\/i=1\/i=2\/i=3:=by lia
   rcases this with rfl | rfl | rfl | rfl<;>rfl):L2.mn ((IQ ns).map enc) (i:Int)=_)
  obtain⟨NN,Nd⟩:∃NN,NN=NM C:=⟨_,rfl⟩
  rw[<-Nd]at hn;rw[<-Nd];obtain⟨OO,hOO⟩:∃OO,OO=OE ns:=⟨_,rfl⟩
  rw[<-hOO]at ho;rw[<-hOO];exact e1 (sH:=[none,some (iN i),some NN,some OO]) (h1:=[]) rfl (tU (cA (b2 (x:=NN) (y:=.int (i:Int)) rfl rfl (hn _)) (cA (b2 (x:=OO) (y:=.int (i:Int)) rfl rfl (ho _)) rfl)) (by simp))
 have hl:acc++[bI (jk C 4,d4)]++[bI (jk C 5,d5)]++[bI (jk C 6,d6)]++[bI (jk C 7,d7)]=(ltL C ns d4 d5 d6 d7).map bI:=by rw[uJ];rfl
 rw[hl]at h7;refine⟨.ref 0,_,jT (sq (aS c1 rfl) (sq (aS c2 rfl) (sq c3 (sq (fS (nk (j:=4) (cA rfl rfl) (by lia)) (fC (s1:=Ws (some S) (NM C) 0 (CE ns) (OE ns) acc none none) rfl h4 (fC (s1:=Ws (some S) (NM C) 1 (CE ns) (OE ns) (acc++[bI (jk C 4,d4)]) x6 x7) rfl h5 (fC (s1:=Ws (some S) (NM C) 2 (CE ns) (OE ns) (acc++[bI (jk C 4,d4)]++[bI (jk C 5,d5)]) y6 y7) rfl h6 (fC (s1:=Ws (some S) (NM C) 3 (CE ns) (OE ns) (acc++[bI (jk C 4,d4)]++[bI (jk C 5,d5)]++[bI (jk C 6,d6)]) z6 z7) rfl h7 rfl))))) (rS rfl))))),mi (ug _)⟩
theorem aaj(h:List az):Oq h (.int 10) (.int 12)=some (.int (10^12)):=by kernel_rfl
theorem qK(m:Int):m%4=0\/m%4=1\/m%4=2\/m%4=3:=by lia
structure Md where
 C:Int
 s1:Sh
 s2:Sh
 s3:Sh
 b4:Bool
 t4:Sh
 b5:Bool
 t5:Sh
 d6:Kn
 d7:Kn
 pl:Int
 bk:Int
 L:List Ro
namespace Md
variable (m:Md)
abbrev d4:Kn:=.ho m.b4 m.t4
abbrev d5:Kn:=.ho m.b5 m.t5
def nm(i:Nat):Str:=jk m.C i
def P:List Rk:=if m.pl%2=1 then [(m.nm 9,.ow m.s1),(m.nm 8,m.d4)]else [(m.nm 8,m.d4),(m.nm 9,.ow m.s1)]
def LT:List Rk:=[(m.nm 0,.ow .num),(m.nm 1,.ow m.s1),(m.nm 2,.ow m.s2),(m.nm 3,.ow m.s3),(m.nm 4,m.d4),(m.nm 5,m.d5),(m.nm 6,m.d6),(m.nm 7,m.d7)]
def ks:List Rk:=m.P++m.LT
def so1:List Nat:=if m.bk%4=2 then [8]else []
noncomputable def so2:List Nat:=if m.bk/4%4=0 then []else if m.bk/4%4=1 then [0]else if m.bk/4%4=2 then [1]else [0,1]
def sT(l:List Nat):PV:=.ay (l.map λi=>.str (m.nm i))
def res:PV:=if m.bk%4=0 then .bQ else if m.bk%4=3 then enc m.s2 else .ay [.str (hw m.b5),enc m.t5,m.sT m.so1]
def z:Option Rk:=if m.bk%4=0 then none else if m.bk%4=3 then some (m.nm 2,.ow m.s2)else some (m.nm 5,m.d5)
def hd:List Rk:=[(m.nm 0,m.d4),(m.nm 1,m.d5)].take (m.pl/2).toNat++(m.nm 2,.ow m.s1)::[(m.nm 0,m.d4),(m.nm 1,m.d5)].drop (m.pl/2).toNat
def fn(j:Nat):PV:=.str (m.nm (10+j))
def cs:Cs:=⟨.ow m.s1,m.d4,m.d5,m.z.map (·.2),m.pl⟩
def rows:List PV:=m.L.map (dz m.fn)
def F1:PV:=BY (m.fn 1) m.res (.ay m.rows) m.P m.LT
def F0:PV:=.ay [m.fn 0,.ay [],.bQ,.ay [],.ay [.ay [.str "give",.str ""]]]
def F2:PV:=.ay [m.fn 2,.ay (m.hd.map bI),.ay [.str (hw m.b4),enc m.t4,m.sT m.so2],.ay [],.ay [.ay [.str "give",.str (m.nm 0)]]]
def prog:PV:=.ay [m.F0,m.F1,m.F2]
end Md
structure d8 (m:Md) (most:Nat):Prop where
 f1:cL m.s1
 f2:cL m.s2
 f3:cL m.s3
 f4:cL m.t4
 f5:cL m.t5
 f6:gw m.d6=true/\cL (b9 m.d6)
 f7:gw m.d7=true/\cL (b9 m.d7)
 pl:0<=m.pl/\m.pl<6
 rows:∃L,m.L=L++[.kH m.z]/\L.length<=most
 ok:∀r∈m.L,IG m.cs m.ks m.L.length r
theorem Ez(C:Int):∀l:List (Fin 26),l.Nodup->(l.map λi=>jk C i.1).Nodup
 | [],_=>nZ
 | i::l,h=>by
  rw[iG]at h;rw[aM,iG];refine⟨λhm=>?_,Ez C l h.2⟩
  obtain⟨j,hj,e⟩:=aF.mp hm;have:=PN j.2 i.2 e;exact h.1 (by rw[<-Fin.ext this];exact hj)
section
variable {m:Md}
theorem yQ:m.ks.length=10:=by
 unfold Md.ks Md.P;split<;>rfl
theorem Se{q:Rk}(h:q∈m.P):q=(m.nm 9,.ow m.s1)\/q=(m.nm 8,m.d4):=by
 unfold Md.P at h;split at h
 all_goals simp only[aU,eK,eQ]at h
 ·exact h
 ·exact h.symm
theorem Sf{q:Rk}(h:q∈m.LT):q=(m.nm 0,.ow .num)\/q=(m.nm 1,.ow m.s1)\/q=(m.nm 2,.ow m.s2)\/q=(m.nm 3,.ow m.s3)\/q=(m.nm 4,m.d4)\/q=(m.nm 5,m.d5)\/q=(m.nm 6,m.d6)\/q=(m.nm 7,m.d7):=by
 unfold Md.LT at h;simpa only[aU,eK,eQ]using h
theorem Sg:(m.ks.map (·.1)).Nodup:=by
 unfold Md.ks Md.P;split
 ·exact Ez m.C [9,8,0,1,2,3,4,5,6,7] (by decide)
 ·exact Ez m.C [8,9,0,1,2,3,4,5,6,7] (by decide)
theorem aal{q:Rk}(h:q∈m.ks):∃i,i<10/\q.1=m.nm i:=by
 rcases bZ.mp h with h | h
 ·rcases Se h with rfl | rfl
  ·exact⟨9,by decide,rfl⟩
  ·exact⟨8,by decide,rfl⟩
 ·rcases Sf h with rfl | rfl | rfl | rfl | rfl | rfl | rfl | rfl
  ·exact⟨0,by decide,rfl⟩
  ·exact⟨1,by decide,rfl⟩
  ·exact⟨2,by decide,rfl⟩
  ·exact⟨3,by decide,rfl⟩
  ·exact⟨4,by decide,rfl⟩
  ·exact⟨5,by decide,rfl⟩
  ·exact⟨6,by decide,rfl⟩
  ·exact⟨7,by decide,rfl⟩
theorem Si(f1:cL m.s1)(f2:cL m.s2)(f3:cL m.s3)(f4:cL m.t4)(f5:cL m.t5)(f6:cL (b9 m.d6))(f7:cL (b9 m.d7)):lH m.ks:=by
 refine⟨Sg,λq h=>?_,by rw[yQ];decide,λq h=>?_⟩
 ·rcases bZ.mp h with h | h
  ·rcases Se h with rfl | rfl
   ·exact f1
   ·exact f4
  ·rcases Sf h with rfl | rfl | rfl | rfl | rfl | rfl | rfl | rfl
   ·exact Mo
   ·exact f1
   ·exact f2
   ·exact f3
   ·exact f4
   ·exact f5
   ·exact f6
   ·exact f7
 ·obtain⟨i,_,e⟩:=aal h;rw[e];exact V8 m.C i
theorem d8.ks{most:Nat}(h:d8 m most):lH m.ks:=Si h.f1 h.f2 h.f3 h.f4 h.f5 h.f6.2 h.f7.2
theorem pT(j:Nat):noRef (m.fn j)=true:=rfl
theorem Sj:∀r,m.z=some r->r∈m.ks:=λr h=>by
 unfold Md.z at h;have m2:((m.nm 2,.ow m.s2):Rk)∈m.ks:=dD _ (by simp[Md.LT])
 have m5:((m.nm 5,m.d5):Rk)∈m.ks:=dD _ (by simp[Md.LT])
 split at h
 ·cases h
 ·split at h
  ·cases h;exact m2
  ·cases h;exact m5
end
def fk(ks:List Rk)(d:Kn):List Rk:=ks.filter λq=>eqT (MD q.2) (MD d)
theorem Gp{ks:List Rk}{r:Rk}(h:r∈ks):(∀q∈fk ks r.2,q∈ks/\q.2=r.2)/\0<(fk ks r.2).length:=⟨λq hq=>⟨(cD.mp hq).1,Wj _ _ (cD.mp hq).2⟩,jI (cD.mpr ⟨h,kn _⟩)⟩
theorem toT_K(h:List az){d:Kn}(hs:yC (b9 d)):toT h gn (de d)=some (MD d):=by
 cases d with
 | ow s=>exact toT_enc h s gn (by have:=hs.2;simp only[b9]at this;show _<1000;lia)
 | ho b s =>
  have e1:=toT_enc h s 999 (by have:=hs.2;simp only[b9]at this;show _<999;lia)
  show((di (toT h 999) [.str (hw b),enc s]).bind (Kp .ay))=_;simp only[di,e1];rfl
theorem aam(h:List az){d e:Kn}(hd:yC (b9 d))(he:yC (b9 e)):k0 h (de d) (de e)=some (.bl (eqT (MD d) (MD e))):=by
 show((toT h gn (de d)).bind λx=>(toT h gn (de e)).map λy=>eqT x y).map PV.bl=_
 rw[toT_K h hd,toT_K h he];rfl
theorem qL{ks:List Rk}(K:lH ks){s:cC}{LL:PV}(h8:Ev (rd 8) s (KL ks) s)(Fy:bO [none,none,none,some 4] s.ρ=[none,none,none,some LL]){j:Int}{q0:Rk}(hq:q0∈ks)(hj:∀h,bW h LL (.int j)=some (bI q0)):Ev (dh false [none,none,none,some 4] (ik (rd 8)) (k8 Qc (toB (op2 k0 (rd 2) (op2 bW (op2 bW (rd 3) (aY (.int j))) (kI 1)))) (rd 1))) s (.lst ((fk ks q0.2).map iz)) s:=by
 have hl:=K.few;refine Wl (sV h8 rfl) (by lia) λq uz=>?_
 rw[Fy];have g:Ek (toB (op2 k0 (rd 2) (op2 bW (op2 bW (rd 3) (aY (.int j))) (kI 1)))) ⟨[none,some (.str q.1),some (de q.2),some LL],s.h⟩ (eqT (MD q.2) (MD q0.2)):=bT (b2 rfl (b2 (b2 rfl rfl (hj _)) rfl rfl) (aam _ (K.ok q uz) (K.ok q0 hq)));cases hg:eqT (MD q.2) (MD q0.2)with
 | true=>rw[hg]at g;exact VO rfl g rfl
 | false=>rw[hg]at g;exact Pt rfl g
theorem IS(ns:List Int)(n:Nat):∃cs:List Int,k6 (ns.map PV.int) (some 8) (some (8+(n:Int)))=cs.map .int/\cs.length<=n:=by
 have e1:=HT.xg (ns.map PV.int).length 0 8;have e2:=HT.xg (ns.map PV.int).length (ns.map PV.int).length (8+n);unfold k6;rw[show(some 8:Option Int)=some ((8:Nat):Int)from rfl,show(some (8+(n:Int)):Option Int)=some ((8+n:Nat):Int) by rw[Int.natCast_add];rfl,e1,e2,<-List.map_drop,<-List.map_take]
 exact⟨_,rfl,by rw[jq];lia⟩
theorem Gq{fn:Nat->PV}{R:Ro->Prop}{bd:PV->List az->Option (Option PV×List az)}{h:List az}:∀cs:List Int,(∀c∈cs,∃r,bd (.int c) h=some (some (dz fn r),h)/\R r)->∃L:List Ro,fz bd (cs.map PV.int) h=some (L.map (dz fn),h)/\(∀r∈L,R r)/\L.length=cs.length
 | [],_=>⟨[],rfl,(λ_ z=>nomatch z),rfl⟩
 | c::cs,H=>by
  obtain⟨r,h1,h2⟩:=H c aN;obtain⟨L,h3,h4,h5⟩:=Gq cs λc hc=>H c (aK _ hc)
  refine⟨r::L,?_,λq hq=>?_,by simp[h5]⟩
  ·show(bd (.int c) h).bind _=_;rw[h1];show(fz bd (cs.map PV.int) h).map _=_;rw[h3];rfl
  ·rcases aU.mp hq with rfl | hq
   ·exact h2
   ·exact h4 q hq
theorem cN'{link:List (Option Nat)}{fi:Gx yX}{bd:Bd}{s s1:cC}{ps qs:List PV}(hi:Ev fi s (.sq ps) s1)(hl:ps.length<=4000000)(hb:fz (bd (bO link s1.ρ)) ps s1.h=some (qs,s1.h)):Ev (dh false link fi bd) s (.lst qs) s1:=eB hi (by
 show(if ps.length<=f9 then fz _ ps s1.h else none).bind _=_
 rw[if_pos (show ps.length<=f9 from hl),hb]
 rfl)
theorem Gs:∀l:List Str,ah (l.map PV.str)=true
 | []=>rfl
 | _::l=>by rw[aM];simp[ah,noRef,Gs l]
theorem yR:∀l:List PV,(∀p∈l,noRef p=true)->ah l=true
 | [],_=>rfl
 | p::l,h=>by simp[ah,h p aN,yR l λq hq=>h q (aK _ hq)]
def pS(l:List (Option PV))(h:List az):cC:=⟨(l.reverse++List.replicate 24 none).take 24,h⟩
theorem aQ{fa:Gx PV}{g:Gx dB}{P:PV->Prop}{l:List (Option PV)}{h h':List az}{p q:PV}{s1:cC}{i:Nat}(a:Ev fa (pS l h) p s1)(hq:p=q)(hs:s1=pS l h')(ht:aR i q (pS l h')=some (pS (some q::l) h')) (k:Rt P (g (pS (some q::l) h'))):Rt P (eE (dc fa (aR i)) g (pS l h)):=by
 subst hq hs;exact xS (aS a ht) k
theorem aP{fa:Gx PV}{g:Gx dB}{P:PV->Prop}{l:List (Option PV)}{h:List az}{p:PV}{i:Nat}(a:Ek fa (pS l h) p)(ht:aR i p (pS l h)=some (pS (some p::l) h)) (k:Rt P (g (pS (some p::l) h))):Rt P (eE (dc fa (aR i)) g (pS l h)):=xS (aS a ht) k
theorem xH{f g:Gx dB}{P:PV->Prop}{l:List (Option PV)}{h h':List az}(a:Ev f (pS l h) .nx (pS l h'))(k:Rt P (g (pS l h'))):Rt P (eE f g (pS l h)):=xS a k
theorem IT(k:Nat)(hk:3<=k)(ns:List Int)(most:Nat)(afN:most<=31){W:List Str}(hW:0<W.length):∃m,Gives (run txt (k+4) "_law_program" [y0 ns,.int (most:Int),.lst (W.map .str)] []) (Md.prog m)/\d8 m most:=by
 obtain⟨S,hS⟩:∃S,S=y0 ns:=⟨_,rfl⟩
 have ki:Gives (run txt (k+3) "_law_cell_at" [S,.int 0] []) (.int (cell ns 0)):=by rw[hS];exact Mj (k+2) ns 0
 obtain⟨C,hC⟩:∃C,C=cell ns 0%10^12:=⟨_,rfl⟩
 have hn:=PQ (k+2) C 13 (by decide)
 obtain⟨d4,d5,d6,d7,uj,i4,i5,i6,i7⟩:=Wt (k+1) (by lia) C ns
 obtain⟨back,aan⟩:∃back,back=Iv (cell ns 0) 3:=⟨_,rfl⟩
 have hb:=nj (k+2) (cell ns 0) (i:=3) (by decide)
 rw[<-aan]at hb;obtain⟨b4,t4,e4⟩:∃b4 t4,d4=.ho b4 t4:=by
  cases d4 with
  | ow s=>cases i4.1
  | ho b s=>exact⟨b,s,rfl⟩
 obtain⟨b5,t5,e5⟩:∃b5 t5,d5=.ho b5 t5:=by
  cases d5 with
  | ow s=>cases i5.1
  | ho b s=>exact⟨b,s,rfl⟩
 subst e4 e5;obtain⟨s1,q1⟩:∃s,s=iU (mC ns 0):=⟨_,rfl⟩
 obtain⟨s2,q2⟩:∃s,s=iU (mC ns 1):=⟨_,rfl⟩
 obtain⟨s3,q3⟩:∃s,s=iU (mC ns 2):=⟨_,rfl⟩
 have f1:=kU (mC ns 0);have f2:=kU (mC ns 1);have f3:=kU (mC ns 2);rw[<-q1]at f1;rw[<-q2]at f2;rw[<-q3]at f3;unfold ltL at uj;rw[<-q1,<-q2,<-q3]at uj;obtain⟨m0,Sk⟩:∃m:Md,m=⟨C,s1,s2,s3,b4,t4,b5,t5,d6,d7,back/1024%6,back,[]⟩:=⟨_,rfl⟩
 have hp6:0<=m0.pl/\m0.pl<6:=by rw[Sk];show 0<=back/1024%6/\back/1024%6<6;lia
 have K:lH m0.ks:=by rw[Sk];exact Si f1 f2 f3 i4.2 i5.2 i6.2 i7.2
 have fm:cL m0.s1/\cL m0.s2/\cL m0.s3/\cL m0.t4/\cL m0.t5/\(gw m0.d6=true/\cL (b9 m0.d6))/\(gw m0.d7=true/\cL (b9 m0.d7)):=by rw[Sk];exact⟨f1,f2,f3,i4.2,i5.2,i6,i7⟩
 have uj:Gives (run txt (k+1+2) "_law_lets" [y0 ns,NM C] []) (.lst (m0.LT.map bI)):=by rw[Sk];exact uj
 have hbk:m0.bk=back:=by rw[Sk]
 have nE:m0.pl=back/1024%6:=by rw[Sk]
 have hCm:m0.C=C:=by rw[Sk]
 clear Sk;have LTm:∀q∈m0.LT,q∈m0.ks:=λq hq=>dD _ hq
 have M0:((m0.nm 0,Kn.ow .num):Rk)∈m0.ks:=LTm _ (by simp[Md.LT])
 have M1:((m0.nm 1,Kn.ow m0.s1):Rk)∈m0.ks:=LTm _ (by simp[Md.LT])
 have M2:((m0.nm 2,Kn.ow m0.s2):Rk)∈m0.ks:=LTm _ (by simp[Md.LT])
 have M4:((m0.nm 4,m0.d4):Rk)∈m0.ks:=LTm _ (by simp[Md.LT])
 have M5:((m0.nm 5,m0.d5):Rk)∈m0.ks:=LTm _ (by simp[Md.LT])
 obtain⟨LL,Wu⟩:∃LL,LL=PV.lst (m0.LT.map bI):=⟨_,rfl⟩
 have l1:∀h,bW h LL (.int 1)=some (bI (m0.nm 1,.ow m0.s1)):=λ_=>by rw[Wu];rfl
 have l2:∀h,bW h LL (.int 2)=some (bI (m0.nm 2,.ow m0.s2)):=λ_=>by rw[Wu];rfl
 have l4:∀h,bW h LL (.int 4)=some (bI (m0.nm 4,m0.d4)):=λ_=>by rw[Wu];rfl
 have l5:∀h,bW h LL (.int 5)=some (bI (m0.nm 5,m0.d5)):=λ_=>by rw[Wu];rfl
 obtain⟨NN,Nd⟩:∃NN,NN=NM C:=⟨_,rfl⟩
 have nn:∀q:Nat,q<13->∀h,bW h NN (.int (q:Int))=some (.str (m0.nm q)):=λq hq h=>by
  rw[Nd];show _=some (PV.str (jk m0.C q));rw[hCm];exact MJ C hq h
 have n0:∀h,bW h NN (.int 0)=some (.str (m0.nm 0)):=nn 0 (by decide)
 have n1:∀h,bW h NN (.int 1)=some (.str (m0.nm 1)):=nn 1 (by decide)
 have n2:∀h,bW h NN (.int 2)=some (.str (m0.nm 2)):=nn 2 (by decide)
 have n5:∀h,bW h NN (.int 5)=some (.str (m0.nm 5)):=nn 5 (by decide)
 have n8:∀h,bW h NN (.int 8)=some (.str (m0.nm 8)):=nn 8 (by decide)
 have n9:∀h,bW h NN (.int 9)=some (.str (m0.nm 9)):=nn 9 (by decide)
 have n10:∀h,bW h NN (.int 10)=some (m0.fn 0):=nn 10 (by decide)
 have n11:∀h,bW h NN (.int 11)=some (m0.fn 1):=nn 11 (by decide)
 have n12:∀h,bW h NN (.int 12)=some (m0.fn 2):=nn 12 (by decide)
 have aee:∀h,Ks h (some 10) none NN=some (.lst [m0.fn 0,m0.fn 1,m0.fn 2]):=λh=>by
  rw[Nd];show some (PV.lst (k6 _ (some 10) none))=some (.lst [.str (jk m0.C 10),.str (jk m0.C 11),.str (jk m0.C 12)]);rw[hCm];rfl
 obtain⟨cs,NX,hcl⟩:=IS ns most;have aef:∀h,Ks h (some 8) (some (8+(most:Int))) S=some (.lst (cs.map .int)):=λh=>by
  rw[hS];show some (PV.lst (k6 (ns.map .int) (some 8) (some (8+(most:Int)))))=_;rw[NX]
 have rs:∀h,bW h (.lst [.bQ,.ay [.str (hw m0.b5),enc m0.t5,.ay []],.ay [.str (hw m0.b5),enc m0.t5,.ay [.str (m0.nm 8)]],enc m0.s2]) (.int (back%4))=some m0.res:=λ_=>by
  unfold Md.res Md.so1;rw[hbk];rcases qK back with h | h | h | h<;>rw[h]<;>rfl
 have rz:∀h,bW h (.lst [.str "",.str (m0.nm 5),.str (m0.nm 5),.str (m0.nm 2)]) (.int (back%4))=some (Jd m0.z):=λ_=>by
  unfold Md.z;rw[hbk];rcases qK back with h | h | h | h<;>rw[h]<;>rfl
 obtain⟨BK,hBK,hB1,qu⟩:∃BK:List (Option Rk),(∀h,bW h (.lst [.lst [.str ""],.lst ((fk m0.ks m0.d5).map iz),.lst ((fk m0.ks m0.d5).map iz),.lst ((fk m0.ks (.ow m0.s2)).map iz)]) (.int (back%4))=some (.lst (BK.map Jd)))/\(∀o∈BK,(∀r,o=some r->r∈m0.ks)/\o.map (·.2)=m0.z.map (·.2))/\0<BK.length:=by
  have sm:∀{r:Rk},r∈m0.ks->m0.z.map (·.2)=some r.2->(∀o∈(fk m0.ks r.2).map some,(∀q,o=some q->q∈m0.ks)/\o.map (·.2)=m0.z.map (·.2))/\0<((fk m0.ks r.2).map some).length:=λ{r} hr hz=>by
   obtain⟨g1,g2⟩:=Gp hr;refine⟨λo ho=>?_,by rw[ak];exact g2⟩
   obtain⟨q',uz,rfl⟩:=aF.mp ho;exact⟨λq hq=>by cases hq;exact(g1 _ uz).1,by rw[hz];show some q'.2=_;rw[(g1 _ uz).2]⟩
  have mm:∀l:List Rk,(l.map some).map Jd=l.map iz:=λl=>by rw[b6];rfl
  unfold Md.z at sm ⊢;rw[hbk]at sm ⊢;rcases qK back with h | h | h | h<;>rw[h]at sm ⊢
  ·refine⟨[none],λ_=>rfl,λo ho=>?_,by simp⟩
   rw[bC]at ho;subst ho;exact⟨(λ_ z=>nomatch z),rfl⟩
  ·exact⟨(fk m0.ks m0.d5).map some,λ_=>by rw[mm];rfl,sm M5 rfl⟩
  ·exact⟨(fk m0.ks m0.d5).map some,λ_=>by rw[mm];rfl,sm M5 rfl⟩
  ·exact⟨(fk m0.ks (.ow m0.s2)).map some,λ_=>by rw[mm];rfl,sm M2 rfl⟩
 have CO:Wn m0.cs m0.ks (fk m0.ks m0.d4) (fk m0.ks m0.d5) (fk m0.ks (.ow m0.s1)) BK:=⟨Gp M4,Gp M5,Gp M1,hB1,qu⟩;have v20:∀h,bW h (.lst [.ay [],.ay [.str (m0.nm 0)],.ay [.str (m0.nm 1)],.ay [.str (m0.nm 0),.str (m0.nm 1)]]) (.int (back/4%4))=some (m0.sT m0.so2):=λ_=>by
  unfold Md.so2;rw[hbk];rcases qK (back/4)with h | h | h | h<;>rw[h]<;>rfl
 have aeg:=PX (k+1) (by lia) m0.ks K.ok (by rw[yQ];decide)
 have aeh:=ID (k+2) K M0 (back/16%64);obtain⟨fX,Gu⟩:∃fX,fX=PV.ay [.str "give",Jd m0.z]:=⟨_,rfl⟩
 have hla:∀M,uY m0.fn m0.cs m0.ks M fX:=λM=>⟨.kH m0.z,Gu,Sj⟩
 have hln:noRef fX=true:=by rw[Gu];rfl
 have Wv:=λc:Int=>aaf k hk K (M:=cs.length+1) (by lia) hW M0 ⟨_,M4,rfl⟩ (back/16%64) pT CO hp6 hln (hla _) c
 obtain⟨md,W8⟩:∃md,md=mdT W m0.ks (m0.nm 0) (back/16%64) (caT m0.fn (fk m0.ks m0.d4) (fk m0.ks m0.d5) (fk m0.ks (.ow m0.s1)) BK m0.pl) fX:=⟨_,rfl⟩
 have Wv:∀c:Int,∃p,Gives (run txt (k+3) "_law_row" [.int c,.int ((cs.length+1:Nat):Int),md] []) p/\uY m0.fn m0.cs m0.ks (cs.length+1) p:=by rw[W8];exact Wv
 have nrm:noRef md=true:=by rw[W8];simp[noRef,ah,Gs,ug,Gd _ (nz K),Ms _ (Ew K M0 (back/16%64)).1,hln,pT,gB]
 have aap:∀hp:List az,∃L:List Ro,fz (k7 (aR 1) (bnd (aq (rd 1) (aq (op2 eU Q7 (kI 1)) Q3)) (bF 0 3 (run txt (k+3) "_law_row"))) [none,none,some (.lst (cs.map .int)),some md]) (cs.map PV.int) hp=some (L.map (dz m0.fn),hp)/\(∀r∈L,IG m0.cs m0.ks (cs.length+1) r)/\L.length=cs.length:=λhp=>by
  refine Gq cs λc hc=>?_
  obtain⟨p,h1,r,h2,h3⟩:=Wv c;refine⟨r,?_,h3⟩;have hl1:Ek (op2 eU Q7 (kI 1)) ⟨[none,some (.int c),some (.lst (cs.map .int)),some md],hp⟩ (.int ((cs.length+1:Nat):Int)):=by
   refine b2 (x:=.int (cs.length:Int)) (bV (cA rfl rfl) ?_) rfl rfl;show some (PV.int (((cs.map PV.int).length:Nat):Int))=_;rw[ak]
  rw[h2]at h1;exact e1 rfl (cY (cA rfl (cA hl1 (cA rfl rfl))) rfl (by simp[ah,noRef,nrm]) h1)
 obtain⟨L,hL1,hL2,hL3⟩:=aap [⟨.lst,m0.P.map bI⟩];have hLn:L.length<=most:=by lia
 obtain⟨m,hm⟩:∃m:Md,m={m0 with L:=L++[Ro.kH m0.z]}:=⟨_,rfl⟩
 refine⟨m,?_,?_⟩
 rotate_left
 ·rw[hm];obtain⟨g1,g2,g3,g4,g5,g6,g7⟩:=fm;refine⟨g1,g2,g3,g4,g5,g6,g7,hp6,⟨L,rfl,hLn⟩,λr hr=>?_⟩
  show IG m0.cs m0.ks (L++[Ro.kH m0.z]).length r;rw[bu,hL3];rcases bZ.mp hr with h | h
  ·exact hL2 r h
  ·rw[bC]at h;subst h;exact Sj
 have hR:m.rows=L.map (dz m0.fn)++[fX]:=by
  rw[hm,Gu];show(L++[Ro.kH m0.z]).map (dz m0.fn)=_;rw[cG];rfl
 have hF1:m.F1=BY (m0.fn 1) m0.res (.ay (L.map (dz m0.fn)++[fX])) m0.P m0.LT:=by
  rw[<-hR,hm];rfl
 have hF0:m.F0=m0.F0:=by rw[hm];rfl
 have hF2:m.F2=m0.F2:=by rw[hm];rfl
 unfold Md.prog;rw[hF0,hF1,hF2,yz,<-hS];obtain⟨WW,hWW⟩:∃WW,WW=PV.lst (W.map .str):=⟨_,rfl⟩
 rw[<-hWW];obtain⟨x1,WU⟩:∃x,x=PV.int (most:Int):=⟨_,rfl⟩
 rw[<-WU];obtain⟨KS,Ww⟩:∃KS,KS=KL m0.ks:=⟨_,rfl⟩
 obtain⟨PP,W9⟩:∃PP,PP=m0.P.map bI:=⟨_,rfl⟩
 obtain⟨RR,hRR⟩:∃RR,RR=L.map (dz m0.fn)++[fX]:=⟨_,rfl⟩
 rw[<-hRR];obtain⟨v4,hv4⟩:∃v,v=PV.lst ((fk m0.ks m0.d4).map iz):=⟨_,rfl⟩
 obtain⟨v5,hv5⟩:∃v,v=PV.lst ((fk m0.ks m0.d5).map iz):=⟨_,rfl⟩
 obtain⟨v1,hv1⟩:∃v,v=PV.lst ((fk m0.ks (.ow m0.s1)).map iz):=⟨_,rfl⟩
 obtain⟨vB,hvB⟩:∃v,v=PV.lst (BK.map Jd):=⟨_,rfl⟩
 obtain⟨vS,hvS⟩:∃v,v=SL m0.ks:=⟨_,rfl⟩
 obtain⟨vN,hvN⟩:∃v,v=PV.lst ((R7 m0.ks (m0.nm 0) (back/16%64)).map jV):=⟨_,rfl⟩
 obtain⟨vC,hvC⟩:∃v,v=PV.lst (cs.map .int):=⟨_,rfl⟩
 obtain⟨p9,h9⟩:∃v,v=m0.res:=⟨_,rfl⟩
 obtain⟨w20,h20⟩:∃v,v=m0.sT m0.so2:=⟨_,rfl⟩
 rw[<-h9]at rs;rw[<-h20]at v20;rw[<-W9]at hL1;have Xu:Gives (run txt (k+3) "_law_names" [.int (cell ns 0%10^12),.int 13] []) NN:=by rw[<-hC,Nd];exact hn
 rw[<-hS,<-Nd,<-Wu]at uj;have fd:∀h,gD h (.int (back/1024)) (.int 6)=some (.int m0.pl):=λh=>by rw[nE];exact c8 (by decide)
 have P2:PP.length=2:=by rw[W9,ak];unfold Md.P;split<;>rfl
 have hLT:m0.LT.length=8:=rfl;have nrR:ah RR=true:=by
  rw[hRR];refine yR _ λp hp=>?_
  rcases bZ.mp hp with h | h
  ·obtain⟨r,hr,rfl⟩:=aF.mp h;exact MF pT r (hL2 r hr)
  ·rw[bC]at h;rw[h];exact hln
 have nr9:noRef m0.res=true:=by
  unfold Md.res;split
  ·rfl
  ·split
   ·exact dv _
   ·simp[noRef,ah,dv,Md.sT,gB]
 have nrP:noRef (.ay [m0.F0,BY (m0.fn 1) m0.res (.ay RR) m0.P m0.LT,m0.F2])=true:=by simp[noRef,ah,Md.F0,Md.F2,BY,dv,ug,nrR,nr9,Md.sT,gB,pT]
 suffices h:Rt (λp=>p=.ay [m0.F0,BY (m0.fn 1) m0.res (.ay RR) m0.P m0.LT,m0.F2]) (tD (run txt (k+3)) ⟨gJ 24 [S,x1,WW],[]⟩)from by
  obtain⟨p,a,b⟩:=Rt.run h;rw[<-b];exact a
 refine xS (aS (cY (cA (b2 (cY (cA rfl (cA rfl rfl)) rfl rfl ki) (b2 rfl rfl (aaj _)) (c8 (by decide))) (cA rfl rfl)) rfl rfl Xu) rfl) ?_
 refine xS (aS (cY (cA rfl (cA rfl rfl)) rfl rfl uj) rfl) ?_;refine xS (aS (cY (cA (cY (cA rfl (cA rfl rfl)) rfl rfl ki) (cA rfl rfl)) rfl rfl hb) rfl) ?_;refine xS (aS (b2 (b2 rfl rfl (yJ (by decide))) rfl (fd _)) rfl) ?_
 refine xS (aS (lC (cA (tU (cA (b2 (x:=NN) rfl rfl (n8 _)) (cA (b2 (b2 (x:=LL) rfl rfl (l4 _)) rfl rfl) rfl)) (by simp)) (cA (tU (cA (b2 (x:=NN) rfl rfl (n9 _)) (cA (b2 (b2 (x:=LL) rfl rfl (l1 _)) rfl rfl) rfl)) (by simp)) rfl)) (by simp)) rfl) ?_
 refine xS (s1:=pS [some (.ref 0),some (.int m0.pl),some (.int back),some LL,some NN,some WW,some x1,some S] [⟨.lst,PP⟩]) ?_ ?_
 ·have d2:Ek (toB (op2 k0 (op2 gD (rd 6) (kI 2)) (kI 1))) (pS [some (.ref 0),some (.int m0.pl),some (.int back),some LL,some NN,some WW,some x1,some S] [⟨.lst,[bI (m0.nm 8,m0.d4),bI (m0.nm 9,.ow m0.s1)]⟩]) (m0.pl%2==1):=bT (b2 (b2 (x:=.int m0.pl) rfl rfl (c8 (by decide))) rfl (oT _ _ _))
  rw[W9];unfold Md.P;by_cases h:m0.pl%2=1
  ·rw[show(m0.pl%2==1)=true by rw[h];rfl]at d2
   rw[if_pos h];exact iT d2 rfl
  ·rw[show(m0.pl%2==1)=false by rw[jn];exact h]at d2
   rw[if_neg h];exact iF d2 rfl
 refine aP (p:=KS) ?_ rfl ?_
 ·rw[Ww,Wu,W9];show Ev _ _ (PV.lst (m0.ks.map bI)) _;unfold Md.ks;rw[cG];refine b2 (x:=.ref 0) (y:=.lst (m0.LT.map bI)) rfl rfl ?_;show sizeOk ((m0.P.map bI).length+(m0.LT.map bI).length) _=_;exact if_pos (show _<=4000000 by rw[<-W9,P2,ak,hLT];decide)
 refine aP (p:=p9) (b2 (x:=.lst [.bQ,.ay [.str (hw m0.b5),enc m0.t5,.ay []],.ay [.str (hw m0.b5),enc m0.t5,.ay [.str (m0.nm 8)]],enc m0.s2]) (lS (cA rfl (cA (b2 (y:=.ay [.ay []]) (b2 (x:=bI (m0.nm 5,m0.d5)) (z:=.ay [.str (hw m0.b5),enc m0.t5]) (b2 (x:=LL) rfl rfl (l5 _)) rfl rfl) rfl (aT (by simp))) (cA (b2 (y:=.ay [.ay [.str (m0.nm 8)]]) (b2 (x:=bI (m0.nm 5,m0.d5)) (z:=.ay [.str (hw m0.b5),enc m0.t5]) (b2 (x:=LL) rfl rfl (l5 _)) rfl rfl) (tU (cA (tU (cA (b2 (x:=NN) rfl rfl (n8 _)) rfl) (by simp)) rfl) (by simp)) (aT (by simp))) (cA (b2 (b2 (x:=LL) rfl rfl (l2 _)) rfl rfl) rfl)))) (by simp)) (b2 (x:=.int back) rfl rfl (c8 (by decide))) (rs _)) rfl ?_
 refine aP (p:=fX) ?_ rfl ?_
 ·rw[Gu];exact tU (cA rfl (cA (b2 (x:=.lst [.str "",.str (m0.nm 5),.str (m0.nm 5),.str (m0.nm 2)]) (lS (cA rfl (cA (b2 (x:=NN) rfl rfl (n5 _)) (cA (b2 (x:=NN) rfl rfl (n5 _)) (cA (b2 (x:=NN) rfl rfl (n2 _)) rfl)))) (by simp)) (b2 (x:=.int back) rfl rfl (c8 (by decide))) (rz _)) rfl)) (by simp)
 refine aP (p:=v4) ?_ rfl ?_
 ·rw[hv4,Ww];exact qL K (LL:=LL) rfl rfl M4 l4
 refine aP (p:=v5) ?_ rfl ?_
 ·rw[hv5,Ww];exact qL K (LL:=LL) rfl rfl M5 l5
 refine aP (p:=v1) ?_ rfl ?_
 ·rw[hv1,Ww];exact qL K (LL:=LL) rfl rfl M1 l1
 refine aP (p:=vB) ?_ rfl ?_
 ·rw[hvB,hv5,Ww];exact b2 (x:=.lst [.lst [.str ""],.lst ((fk m0.ks m0.d5).map iz),.lst ((fk m0.ks m0.d5).map iz),.lst ((fk m0.ks (.ow m0.s2)).map iz)]) (lS (cA rfl (cA rfl (cA rfl (cA (qL K (LL:=LL) rfl rfl M2 l2) rfl)))) (by simp)) (b2 (x:=.int back) rfl rfl (c8 (by decide))) (hBK _)
 refine aP (p:=vS) ?_ rfl ?_
 ·rw[hvS,Ww];exact cY (as:=[KL m0.ks]) (cA rfl rfl) rfl (by simp[ah,noRef,ug]) aeg
 refine aP (p:=vN) ?_ rfl ?_
 ·rw[hvN,hvS];exact cY (as:=[SL m0.ks,.str (m0.nm 0),.int (back/16%64)]) (cA rfl (cA (b2 (x:=NN) rfl rfl (n0 _)) (cA (b2 (b2 (x:=.int back) rfl rfl (yJ (by decide))) rfl (c8 (by decide))) rfl))) rfl (by simp[ah,noRef,Gd _ (nz K)]) aeh
 refine aP (p:=md) ?_ rfl ?_
 ·rw[W8];unfold mdT caT;rw[<-hWW,<-Ww,<-hvS,<-hvN,<-hv4,<-hv5,<-hv1,<-hvB];exact tU (cA rfl (cA rfl (cA rfl (cA rfl (cA (tU (cA (x:=.lst [m0.fn 0,m0.fn 1,m0.fn 2]) (cE (p:=NN) rfl rfl rfl (aee _)) (cA rfl (cA rfl (cA rfl (cA rfl (cA rfl rfl)))))) (by simp)) (cA rfl rfl)))))) (by simp)
 refine aP (p:=vC) ?_ rfl ?_
 ·rw[hvC,WU];exact cE (p:=S) (h:=some (8+(most:Int))) rfl rfl (eB (b2 (x:=.int 8) (y:=.int (most:Int)) rfl rfl rfl) rfl) (aef _)
 refine aP (p:=(.lst RR)) ?_ rfl ?_
 ·rw[hRR,hvC];exact b2 (x:=.lst (L.map (dz m0.fn))) (y:=.lst [fX]) (cN' (sV rfl rfl) (by rw[ak];lia) hL1) (lS (cA rfl rfl) (by simp)) (aL (by simp only[ak,aW,wO];lia))
 refine aP (p:=w20) (b2 (x:=.lst [.ay [],.ay [.str (m0.nm 0)],.ay [.str (m0.nm 1)],.ay [.str (m0.nm 0),.str (m0.nm 1)]]) (lS (cA rfl (cA (tU (cA (b2 (x:=NN) rfl rfl (n0 _)) rfl) (by simp)) (cA (tU (cA (b2 (x:=NN) rfl rfl (n1 _)) rfl) (by simp)) (cA (tU (cA (b2 (x:=NN) rfl rfl (n0 _)) (cA (b2 (x:=NN) rfl rfl (n1 _)) rfl)) (by simp)) rfl)))) (by simp)) (b2 (b2 (x:=.int back) rfl rfl (yJ (by decide))) rfl (c8 (by decide))) (v20 _)) rfl ?_
 refine aQ (q:=.ref 1) (h':=[⟨.lst,PP⟩,⟨.lst,[bI (m0.nm 0,m0.d4),bI (m0.nm 1,m0.d5)]⟩]) (lC (ps:=[bI (m0.nm 0,m0.d4),bI (m0.nm 1,m0.d5)]) (cA (tU (cA (b2 (x:=NN) rfl rfl (n0 _)) (cA (b2 (b2 (x:=LL) rfl rfl (l4 _)) rfl rfl) rfl)) (by simp)) (cA (tU (cA (b2 (x:=NN) rfl rfl (n1 _)) (cA (b2 (b2 (x:=LL) rfl rfl (l5 _)) rfl rfl) rfl)) (by simp)) rfl)) (by simp)) rfl rfl rfl ?_
 refine xH (h':=[⟨.lst,PP⟩,⟨.lst,m0.hd.map bI⟩]) ?_ ?_
 ·obtain⟨j,hj,hj2⟩:∃j:Nat,m0.pl/2=(j:Int)/\j<=2:=⟨(m0.pl/2).toNat,by lia,by lia⟩
  unfold Md.hd;rw[hj];refine dS (p:=.bQ) (BW (n:=1) (as:=[.int (j:Int),bI (m0.nm 2,.ow m0.s1)]) rfl rfl (cA (b2 (x:=.int m0.pl) rfl rfl (by rw[<-hj];exact yJ (by decide))) (cA (tU (cA (b2 (x:=NN) rfl rfl (n2 _)) (cA (b2 (b2 (x:=LL) rfl rfl (l1 _)) rfl rfl) rfl)) (by simp)) rfl)) ?_)
  have:j=0\/j=1\/j=2:=by lia
  rcases this with rfl | rfl | rfl<;>rfl
 refine aP (p:=m0.F2) (tU (cA (b2 (x:=NN) rfl rfl (n12 _)) (cA (x:=.ay (m0.hd.map bI)) (bV (as:=[.ref 1]) (cA rfl rfl) rfl) (cA (x:=.ay [.str (hw m0.b4),enc m0.t4,m0.sT m0.so2]) (b2 (x:=.ay [.str (hw m0.b4),enc m0.t4]) (y:=.ay [w20]) (b2 (x:=bI (m0.nm 4,m0.d4)) (b2 (x:=LL) rfl rfl (l4 _)) rfl rfl) (tU (cA rfl rfl) (by simp)) (by rw[h20];exact aT (by simp))) (cA rfl (cA (tU (cA (tU (cA rfl (cA (b2 (x:=NN) rfl rfl (n0 _)) rfl)) (by simp)) rfl) (by simp)) rfl))))) (by simp)) rfl ?_
 refine aP (p:=(BY (m0.fn 1) m0.res (.ay RR) m0.P m0.LT)) ?_ rfl ?_
 ·unfold BY;rw[<-W9,<-h9];exact tU (cA (b2 (x:=NN) rfl rfl (n11 _)) (cA (x:=.ay PP) (bV (as:=[.ref 0]) (cA rfl rfl) rfl) (cA rfl (cA (x:=.ay (m0.LT.map bI)) (bV (as:=[LL]) (cA rfl rfl) (by rw[Wu];rfl)) (cA (x:=.ay RR) (bV (as:=[.lst RR]) (cA rfl rfl) rfl) rfl))))) (by simp)
 exact xR (tU (ps:=[m0.F0,BY (m0.fn 1) m0.res (.ay RR) m0.P m0.LT,m0.F2]) (cA (tU (cA (b2 (x:=NN) rfl rfl (n10 _)) (cA rfl (cA rfl (cA rfl (cA rfl rfl))))) (by simp)) (cA rfl (cA rfl rfl))) (by simp)) nrP rfl
def Md.A(m:Md):List (List dw):=m.L.map roA
def Md.as(m:Md):List (Nat×dw):=ij 0 m.A
def BG(j:Nat):Ro->List Nat
 | .kH _=>[]
 | .go n=>[n]
 | .ME _ _ n=>Bw (j+1) n
 | _=>[j+1]
def Md.nx(m:Md)(j:Nat):List Nat:=match m.L[j]? with
 | some r=>BG j r
 | none=>[]
def Md.za(m:Md):List (List Nat):=qI m.A m.nx
section
variable {m:Md} {most:Nat} (h:d8 m most)
theorem EA(H:List az):bW H m.prog (.int 1)=some m.F1:=rfl
theorem Gv(h:d8 m most):ah m.rows=true:=yR _ λp hp=>by
 obtain⟨r,hr,rfl⟩:=aF.mp hp;exact MF pT r (h.ok r hr)
theorem Wx:noRef m.res=true:=by
 unfold Md.res;split
 ·rfl
 ·split
  ·exact dv _
  ·simp[noRef,ah,dv,Md.sT,gB]
theorem Gw(h:d8 m most):noRef m.F1=true:=by simp[Md.F1,BY,noRef,ah,pT,Wx,ug,Gv h]
theorem aaq:noRef m.F0=true:=rfl
theorem aar:noRef m.F2=true:=by simp[Md.F2,noRef,ah,pT,dv,ug,Md.sT,gB]
theorem Gy(h:d8 m most):noRef m.prog=true:=by simp[Md.prog,noRef,ah,aaq,Gw h,aar]
theorem aas(h:d8 m most):tK m.F1 m.ks:=JY _ _ _ m.P m.LT (by have:=@yQ m;unfold Md.ks at this;rw[bu]at this;lia) (Sg)
theorem Wy(h:d8 m most){r:Ro}(hr:r∈m.L):ny m.ks m.L.length (dz m.fn r) (roA r):=Wk h.ks _ pT r (h.ok r hr)
theorem Gz(h:d8 m most):m.L.length<=most+1/\0<m.L.length:=by
 obtain⟨L,e,hl⟩:=h.rows;rw[e];simp
 lia
theorem yS(h:d8 m most)(hm:most<=31)(k:Nat)(hk:12<=k):Gives (run txt (k+1) "acts" [m.prog,.int 1] []) (.lst (m.as.map eN)):=by
 have e:m.rows=(m.L.map λr=>(dz m.fn r,roA r)).map (·.1):=by rw[b6];rfl
 have e2:(m.L.map λr=>(dz m.fn r,roA r)).map (·.2)=m.A:=by rw[b6];rfl
 have hl:=(Gz h).1;have:=V3 k EA (by rw[<-e];rfl) (Gw h) (λq hq=>by
  obtain⟨r,hr,rfl⟩:=aF.mp hq;exact(Wy h hr).made m.F1 k (aas h) (Gw h) hk) (by rw[ak];lia)
 rw[e2,ni]at this;exact this
theorem aat(h:d8 m most):∀as∈m.A,as.length<=6:=λas ha=>by
 obtain⟨r,hr,rfl⟩:=aF.mp ha;exact(Wy h hr).six
theorem BH:∀(L:List (List dw)) (i:Nat),(∀as∈L,as.length<=6)->(ij i L).length<=6*L.length
 | [],_,_=>by simp[ij]
 | as::L,i,h=>by
  have h1:=h as aN;have h2:=BH L (i+1) λa ha=>h a (aK _ ha)
  have:(gy as).length<=6:=by
   cases as with
   | nil=>simp[gy]
   | cons a r=>exact h1
  rw[ij,bu,ak,aW]
  lia
theorem MK(h:d8 m most):m.as.length<=6*(most+1):=by
 have h1:=BH m.A 0 (aat h);have h2:=(Gz h).1;have h3:m.A.length=m.L.length:=by unfold Md.A;rw[ak]
 unfold Md.as
 lia
def wdR:Ro->Str
 | .put fl _ _=>if fl then "fill" else "put"
 | .set _ _ _ _=>"set"
 | .Ex _ _=>"copy"
 | .Ey _ _=>"move"
 | .drop _=>"drop"
 | .uX _ b _=>lw b
 | .call _ _ _=>"call"
 | .ME _ _ _=>"if"
 | .go _=>"go"
 | .R8 _=>"say"
 | .kH _=>"give"
theorem aav(fn:Nat->PV)(H:List az)(r:Ro):bW H (dz fn r) (.int 0)=some (.str (wdR r)):=by cases r<;>rfl
def Nf:Ro->Nat
 | .kH _=>0
 | .go _=>1
 | .ME _ _ _=>2
 | _=>3
theorem Qy(r:Ro):(wdR r==Str.ofString "give")=(Nf r==0):=by
 cases r with
 | put fl _ _=>cases fl<;>kernel_rfl
 | uX _ b _=>cases b<;>kernel_rfl
 | _=>kernel_rfl
theorem aaw(r:Ro):(wdR r==Str.ofString "go")=(Nf r==1):=by
 cases r with
 | put fl _ _=>cases fl<;>kernel_rfl
 | uX _ b _=>cases b<;>kernel_rfl
 | _=>kernel_rfl
theorem aax(r:Ro):(wdR r==Str.ofString "if")=(Nf r==2):=by
 cases r with
 | put fl _ _=>cases fl<;>kernel_rfl
 | uX _ b _=>cases b<;>kernel_rfl
 | _=>kernel_rfl
theorem Wz{j:Nat}{r:Ro}(hr:m.L[j]?=some r)(H:List az):bW H (.ay m.rows) (.int (j:Int))=some (dz m.fn r):=atI_nat (by unfold Md.rows;rw[bR,hr];rfl)
theorem BI(h:d8 m most){j:Nat}{r:Ro}(hr:m.L[j]?=some r)(hj:Nf r≠0):j+1<m.L.length:=by
 obtain⟨L,e,hl⟩:=h.rows;have fO:=(cf.mp hr).1;by_cases hj2:j=L.length
 ·subst hj2;rw[e]at hr;simp at hr;subst hr;exact absurd rfl hj
 ·rw[e,bu]at fO ⊢;simp at fO ⊢
  lia
theorem Sl(h:d8 m most){j:Nat}{r:Ro}(hr:m.L[j]?=some r):(BG j r).length<=2/\∀n∈BG j r,n<m.L.length:=by
 have ok:=h.ok r (dN hr);have one:Nf r≠0->([j+1]:List Nat).length<=2/\∀n∈[j+1],n<m.L.length:=λhj=>⟨by simp,λn hn=>by rw[bC]at hn;have:=BI h hr hj;lia⟩
 cases r with
 | kH z=>exact⟨by simp[BG],λ_ z=>nomatch z⟩
 | go n=>exact⟨by simp[BG],λq hq=>by simp only[BG,bC]at hq;rw[hq];exact ok⟩
 | ME a i n =>
  have:=BI h hr (by simp[Nf])
  have h2:n<m.L.length:=ok.2;refine⟨?_,λq hq=>?_⟩
  ·show(Bw (j+1) n).length<=2;unfold Bw;split
   ·simp
   ·split<;>simp
  ·have hq:q∈Bw (j+1) n:=hq;unfold Bw at hq;split at hq
   ·simp at hq;lia
   ·split at hq<;>simp at hq<;>lia
 | _=>exact one (by simp[Nf])
theorem WA(h:d8 m most)(hm:most<=31)(k:Nat){j:Nat}{r:Ro}(hr:m.L[j]?=some r):Gives (run txt (k+1) "row_nexts" [.ay m.rows,.int (j:Int)] []) (nT (BG j r)):=by
 have fO:=(cf.mp hr).1;have hl:=(Gz h).1;obtain⟨p,hp⟩:∃p,p=dz m.fn r:=⟨_,rfl⟩
 obtain⟨R,hR⟩:∃R,R=PV.ay m.rows:=⟨_,rfl⟩
 rw[uP,<-hR];have ha:∀H,bW H R (.int (j:Int))=some p:=λH=>by rw[hR,hp];exact Wz hr H
 have a1:Ev (dc Qh (aR 2)) (S0 [some R,some (.int (j:Int)),none]) .nx (S0 [some R,some (.int (j:Int)),some p]):=aS (b2 rfl rfl (ha _)) rfl;have w:∀v:Str,Ek (toB (op2 k0 (op2 bW (rd 2) (kI 0)) (aY (.str v)))) (S0 [some R,some (.int (j:Int)),some p]) (wdR r==v):=λv=>bT (b2 (b2 rfl rfl (by rw[hp];exact aav _ _ r)) rfl (dX _ _ _))
 have wg:=w "give";have wo:=w "go";have wi:=w "if"
 rw[Qy]at wg;rw[aaw]at wo;rw[aax]at wi;have k1:Ek (op2 eU (rd 1) (kI 1)) (S0 [some R,some (.int (j:Int)),some p]) (iN (j+1)):=b2 rfl rfl rfl;have nr:∀l,noRef (nT l)=true:=λl=>by simp[nT,noRef,kT]
 have one:(Nf r==0)=false->(Nf r==1)=false->(Nf r==2)=false->Gives (dU (pE (run txt k)) 3 [R,.int (j:Int)] []) (nT [j+1]):=λz0 z1 z2=>by
  rw[z0]at wg;rw[z1]at wo;rw[z2]at wi;exact gV (sq a1 (sq (iF wg rfl) (sq (iF wo rfl) (sq (iF wi rfl) (rS (tU (cA k1 rfl) (by simp))))))) (nr _)
 have ok:=h.ok r (dN hr);cases r with
 | kH z=>exact gV (sq a1 (uM (iT wg (rS rfl)))) rfl
 | go n=>exact gV (sq a1 (sq (iF wg rfl) (uM (iT wo (rS (tU (ps:=[iN n]) (cA (b2 rfl rfl (by rw[hp];rfl)) rfl) (by simp))))))) (nr _)
 | ME a i n =>
  have h2:n<m.L.length:=ok.2;have ss:Zv [] (.lst [iN (j+1),iN n])=some (.lst ((Bw (j+1) n).map iN)):=by
   have e:Zv [] (.lst [iN (j+1),iN n])=(if(([((j+1:Nat):Int),(n:Int)]:List Int).length<=2/\([((j+1:Nat):Int),(n:Int)]:List Int).all (λn=>decide (0<=n/\n<64))=true)then some (PV.lst ((ir (oH (λi=>([((j+1:Nat):Int),(n:Int)]:List Int).getD i 0) 2)).map .int))else none):=rfl
   rw[e,if_pos ⟨by simp,by simp;lia⟩,Mi,Z6,b6]
   rfl
  exact gV (sq a1 (sq (iF wg rfl) (sq (iF wo rfl) (uM (iT wi (rS (bV (cA (eB (lS (cA k1 (cA (b2 rfl rfl (by rw[hp];rfl)) rfl)) (by simp)) (show Option.map _ (Zv [] (.lst [iN (j+1),iN n]))=_ by rw[ss];rfl)) rfl) rfl))))))) (nr _)
 | _=>exact one rfl rfl rfl
theorem Qz(h:d8 m most)(hm:most<=31)(k:Nat):yI (run txt (k+1)) (.ay m.rows) m.A.length m.nx:=λj hj=>by
 have hl:m.A.length=m.L.length:=by unfold Md.A;rw[ak]
 rw[hl]at hj ⊢;obtain⟨r,hr⟩:∃r,m.L[j]?=some r:=⟨_,cO hj⟩
 have e:m.nx j=BG j r:=by unfold Md.nx;rw[hr]
 rw[e];exact⟨WA h hm k hr,(Sl h hr).1,(Sl h hr).2⟩
theorem jl(h:d8 m most)(hm:most<=20)(k:Nat)(hk:12<=k):Gives (run txt (k+2) "nexts" [m.prog,.int 1] []) (.lst (m.za.map nT))/\V4 m.za m.as.length:=by
 have ha:=yS h (by lia) k hk
 unfold Md.as at ha;rw[<-ni]at ha;have hl:=MK h;obtain⟨g1,g2,g3⟩:=PJ (k+1) rfl (by simp[noRef,Gv h]) ha (Qz h (by lia) k) (by unfold Md.as at hl;lia)
 refine⟨g1,g2,g3,?_,by lia⟩
 obtain⟨a,haa⟩:=tP m.A 0 0 (ao _) (by unfold Md.A;rw[ak];have:=(Gz h).2;lia)
 exact List.length_pos_of_mem haa
structure uZ (m:Md) (cs:List Nat):Prop where
 nd:cs.Nodup
 lt:∀n∈cs,n<m.as.length
 zero:0∈cs
 nx:∀n∈cs,∀l,m.za[n]?=some l->∀q∈l,q∈cs
theorem WB(h:d8 m most)(hm:most<=20):∃cs,(∀k,12<=k->Gives (run txt (k+3) "come_to" [m.prog,.int 1] []) (.lst (cs.map iN)))/\uZ m cs:=by
 have N:=(jl h hm 12 (ao _)).2;obtain⟨ag,ns,b1,a2,a3,a4,a5,a6,a7⟩:=Eo N;have YT:(ns.map λn:Nat=>(n:Int)).Nodup:=by
  refine List.Pairwise.map _ (λa b hab z=>hab ?_) a3
  exact Int.ofNat.inj z
 have hl:ns.length<128:=by
  have:=jj ns (List.range m.as.length) a3 λn hn=>ee.mpr (a4 n hn)
  rw[jo]at this;have:=N.few
  lia
 have tl:ag.length=ns.length:=by
  have:=ej List.length a2
  rwa [ak,ak]at this
 obtain⟨cs,NX,DE⟩:∃cs:List Nat,ir (ns.map λn:Nat=>(n:Int))=cs.map (λn:Nat=>(n:Int))/\∀n,n∈cs↔n∈ns:=by
  have hp:=fx (ns.map λn:Nat=>(n:Int))
  refine⟨(ir (ns.map λn:Nat=>(n:Int))).map Int.toNat,?_,λn=>?_⟩
  ·rw[b6];have:∀l:List Int,(∀i∈l,0<=i)->l=l.map ((λn:Nat=>(n:Int)) ∘ Int.toNat):=λl=>by
    induction l with
    | nil=>exact λ_=>rfl
    | cons i l ih =>
     intro hh;rw[aM,<-ih λj hj=>hh j (aK _ hj)]
     have:=hh i aN;show i::l=(i.toNat:Int)::l;rw[lM this]
   refine this _ λi hi=>?_
   obtain⟨n,_,rfl⟩:=aF.mp (hp.mem_iff.mp hi)
   lia
  ·constructor
   ·intro hn;obtain⟨i,hi,rfl⟩:=aF.mp hn;obtain⟨q,hq,rfl⟩:=aF.mp (hp.mem_iff.mp hi);exact hq
   ·intro hn;exact aF.mpr ⟨(n:Int),hp.mem_iff.mpr (aF.mpr ⟨n,hn,rfl⟩),rfl⟩
 refine⟨cs,?_,⟨?_,λn hn=>a4 n ((DE n).mp hn),(DE 0).mpr a7,λn hn l hl q hq=>?_⟩⟩
 ·intro k hk;have hn:=(jl h hm k hk).1;rw[A8];have hc:Ek (dh false [none,none] (ik (bnd (aq (bnd Qa (bF 0 2 (run txt (k+2) "nexts"))) (aY [])) (bF 0 1 (run txt (k+2) "arrivals")))) (k7 (aR 1) (op2 bW (rd 1) (kI 0)))) (S0 [some m.prog,some (.int 1)]) (.lst (ns.map iN)):=by
   have e:ns.map iN=ag.map λt=>((t.1.map oJ).getD 0 .bQ):=by
    have:=ej (List.map λks:List bB=>(ks.map oJ).getD 0 .bQ) a2
    rw[b6,b6]at this;exact this.symm
   rw[e];refine cM (sV (cY (cA (cY (cA rfl (cA rfl rfl)) rfl rfl hn) rfl) rfl rfl (b1 k)) rfl) (by lia) λt ht=>?_
   have:t.1∈ns.map kN:=by rw[<-a2];exact aF.mpr ⟨t,ht,rfl⟩
   obtain⟨n,_,e2⟩:=aF.mp this;obtain⟨f,c⟩:=t;subst e2;exact e1 rfl (b2 rfl rfl rfl)
  refine gV (rS (bV (cA hc rfl) ?_)) (by simp[noRef,kT])
  have hn:ly (ns.map iN)=some (ns.map λn:Nat=>(n:Int)):=by
   have:=oS (ns.map λn:Nat=>(n:Int))
   rwa [b6]at this
  show(ly (ns.map iN)).bind _=_;rw[hn,dO,if_pos (Or.inr ⟨by rw[ak];lia,YT⟩),NX,b6]
  rfl
 ·have:(cs.map λn:Nat=>(n:Int)).Nodup:=by rw[<-NX];exact(fx _).nodup_iff.mpr YT
  exact List.Pairwise.imp (λ{a b} hab z=>hab (by rw[z])) (List.pairwise_map.mp this)
 ·rw[DE]at hn ⊢;have:kN n∈ag.map (·.1):=by rw[a2];exact aF.mpr ⟨n,hn,rfl⟩
  obtain⟨t,ht,e⟩:=aF.mp this;obtain⟨i,hi⟩:=List.getElem?_of_mem ht;obtain⟨f,c⟩:=t;subst e;obtain⟨fs,f1,f2⟩:=a6 i _ c (cf.mp hi).1 hi;rw[FX hl]at f1;cases f1;have:=f2 (kN q) (aF.mpr ⟨q,hq,rfl⟩);rw[a2]at this;obtain⟨q',uz,e⟩:=aF.mp this;rw[<-Mc e];exact uz
end
section
variable {fa fb:Gx PV} {s s1 s2:cC} {x y:PV} {r:Option (Rs PV×cC)}
theorem anT(h:Ev fa s x s1)(ht:pY s1.h x=some true)(h2:fb s1=r):Hg fa fb s=r:=eB h (eB (a:=true) (by show(pY s1.h x).map _=_;rw[ht];rfl) h2)
theorem anF(h:Ev fa s x s1)(ht:pY s1.h x=some false):Ev (Hg fa fb) s x s1:=eB h (eB (by show(pY s1.h x).map _=_;rw[ht];rfl) rfl)
theorem Xa{a b:Bool}(h:Ev fa s (.bl a) s)(h2:Ev fb s (.bl b) s):Ev (Hg fa fb) s (.bl (a&&b)) s:=by
 cases a with
 | true=>exact anT h rfl h2
 | false=>exact anF h rfl
theorem chB{g g':G2}{fc:Gx PV}{x y z:PV}{a b:Bool}(ha:Ev fa s x s)(hb:Ev fb s y s)(h1:g s.h x y=some (.bl a))(hc:Ev fc s z s)(h2:g' s.h y z=some (.bl b)):Ev (chain g g' fa fb fc) s (.bl (a&&b)) s:=by
 have e1:Ev (hp λh=>(g h x y).bind vg) s a s:=by show((g s.h x y).bind vg).map _=_;rw[h1];rfl
 cases a with
 | true =>
  refine eB ha (eB hb (eB e1 (eB hc ?_)));show(g' s.h y z).map _=_;rw[h2];rfl
 | false=>exact eB ha (eB hb (eB e1 rfl))
theorem nG{b:Bool}(h:Ev fa s (.bl b) s1):Ev (Og fa) s (.bl (!b)) s1:=eB (bT h) rfl
theorem orX{gc gd:Gx Bool}{a b:Bool}(h:Ev gc s a s)(h2:Ev gd s b s):Ev (fG gc (aY true) gd) s (a || b) s:=by
 cases a with
 | true=>exact iT h rfl
 | false=>exact iF h h2
theorem tB{b:Bool}(h:Ev fa s (.bl b) s1):Ev (gM fa) s b s1:=tR h rfl
end
section
variable {m:Md} {most:Nat}
theorem BJ:∀(L:List (List dw)) (i:Nat) (q:Nat×dw),q∈ij i L->∃j as,q.1=i+j/\L[j]?=some as/\q.2∈gy as
 | [],_,_,h=>nomatch h
 | as::L,i,q,h=>by
  rw[ij,bZ]at h;rcases h with h | h
  ·obtain⟨a,ha,rfl⟩:=aF.mp h;exact⟨0,as,rfl,rfl,ha⟩
  ·obtain⟨j,bs,h1,h2,h3⟩:=BJ L (i+1) q h;exact⟨j+1,bs,by lia,by simpa using h2,h3⟩
theorem GA(h:d8 m most){q:Nat×dw}(hq:q∈m.as):uq (BZ m.ks) 3 q.2:=by
 obtain⟨j,as,h1,h2,h3⟩:=BJ m.A 0 q hq;unfold Md.A at h2;rw[bR]at h2;obtain⟨r,hr,rfl⟩:=bt h2;exact IE (Wy h (dN hr)).ok q.2 h3
theorem GB{n:Nat}{q:Nat×dw}(hq:m.as[n]?=some q)(H:List az):bW H (.lst (m.as.map eN)) (.int (n:Int))=some (eN q):=atI_nat (by rw[bR,hq];rfl)
theorem GD{n:Nat}{l:List Nat}(hl:m.za[n]?=some l)(H:List az):bW H (.lst (m.za.map nT)) (.int (n:Int))=some (nT l):=atI_nat (by rw[bR,hl];rfl)
theorem yT(h:d8 m most)(hm:most<=20):m.za.length=m.as.length:=(jl h hm 12 (ao _)).2.len
theorem uh(h:d8 m most)(hm:most<=20){n:Nat}{l:List Nat}(hl:m.za[n]?=some l):l.length<=2/\∀q∈l,q<m.as.length:=(jl h hm 12 (ao _)).2.ok l (dN hl)
noncomputable def IU(a:dw):List Int:=(List.range a.m.toNat).map λi=>a.f+(i:Nat)*1
theorem IV(k:Nat){X:List Str}{Bd:Nat}(hB:Bd<=500){q:Nat×dw}(ok:uq X Bd q.2):Gives (run txt (k+1) "touched" [eN q] []) (.lst ((IU q.2).map .int)):=by
 rw[A9];have h1:=ok.f0;have h2:=ok.m0;have h3:=ok.few;refine gV (rS (eB (cA (b2 rfl rfl rfl) (cA (b2 (b2 rfl rfl rfl) (b2 rfl rfl rfl) rfl) rfl)) (eB (s1:=S0 [some (eN q)]) ?_ rfl))) (yL _);show Option.map _ (if 0<=q.2.f/\q.2.f<=q.2.f+q.2.m/\q.2.f+q.2.m<=1000 then some (PyProof.Rows.rangeInts q.2.f 1 (q.2.f+q.2.m-q.2.f).toNat)else none)=_
 rw[if_pos ⟨h1,by lia,by lia⟩,show q.2.f+q.2.m-q.2.f=q.2.m by lia]
 rfl
theorem QA{a:dw}{i:Int}(h:0<=a.m):i∈IU a↔a.f<=i/\i<a.f+a.m:=by
 unfold IU;rw[aF];constructor
 ·rintro⟨n,hn,rfl⟩
  have:=ee.mp hn
  lia
 ·rintro⟨h1,h2⟩
  exact⟨(i-a.f).toNat,ee.mpr (by lia),by lia⟩
noncomputable def tch(a:dw)(x:Str)(l:Int):Bool:=(a.n==x)&&(decide (a.f<=l)&&decide (l<a.f+a.m))
theorem IW(k:Nat)(q:Nat×dw)(x:Str)(l:Int):Gives (run txt (k+1) "touches" [eN q,.str x,.int l] []) (.bl (tch q.2 x l)):=by
 rw[Ba];exact gV (rS (Xa (b2 (b2 rfl rfl rfl) rfl (dX _ _ _)) (chB (b2 rfl rfl rfl) rfl (le_int _ _ _) (b2 (b2 rfl rfl rfl) (b2 rfl rfl rfl) rfl) (lt_int _ _ _)))) rfl
def flE(a:dw)(x:Str)(l:Int):Bool:=(a.w==Str.ofString "fill")&&((!a.t)&&tch a x l)
theorem QB(k:Nat)(q:Nat×dw)(x:Str)(l:Int):Gives (run txt (k+2) "fills" [eN q,.str x,.int l] []) (.bl (flE q.2 x l)):=by
 rw[Ib];exact gV (rS (Xa (b2 (b2 rfl rfl rfl) rfl (dX _ _ _)) (Xa (nG (b2 rfl rfl rfl)) (cY (as:=[eN q,.str x,.int l]) (cA rfl (cA rfl (cA rfl rfl))) rfl rfl (IW k q x l))))) rfl
structure Fe where
 n:Nat
 x:Str
 l:Int
def kE(f:Fe):List bB:=[.inl (f.n:Int),.inr f.x,.inl f.l]
def kW(f:Fe):PV:=.ay [.int (f.n:Int),.str f.x,.int f.l]
theorem ML:∀l:List Fe,ah (l.map kW)=true
 | []=>rfl
 | f::l=>by simp[ah,noRef,kW,ML l]
def BL(a:dw)(x:Str)(l:Int):Bool:=(a.k==x) || flE a x l
def stE(a:dw)(ls:List Nat)(f:Fe):List Fe:=if BL a f.x f.l=true then []else ls.map λb=>⟨b,f.x,f.l⟩
theorem QC(k:Nat)(q:Nat×dw)(ls:List Nat)(hl:ls.length<=1000)(f:Fe):Gives (run txt (k+3) "stays_empty" [eN q,nT ls,kW f] []) (.lst ((stE q.2 ls f).map kW)):=by
 rw[qk];have t:Ek (fG (toB (op2 k0 (op2 bW (rd 0) (kI 6)) Qr)) (aY true) (gM (bnd (aq (rd 0) (aq Qr (aq (op2 bW (rd 2) (kI 2)) (aY [])))) (bF 0 3 (run txt (k+2) "fills"))))) (S0 [some (eN q),some (nT ls),some (kW f)]) (BL q.2 f.x f.l) :=
  orX (bT (b2 (b2 rfl rfl rfl) (b2 rfl rfl rfl) (dX _ _ _))) (tB (cY (as:=[eN q,.str f.x,.int f.l]) (cA rfl (cA (b2 rfl rfl rfl) (cA (b2 rfl rfl rfl) rfl))) rfl rfl (QB k q f.x f.l)))
 unfold stE;cases he:BL q.2 f.x f.l with
 | true=>rw[he]at t;exact gV (uM (iT t (rS rfl))) rfl
 | false =>
  rw[he]at t;rw[if_neg d9,b6];refine gV (sq (iF t rfl) (rS (cM (l:=ls) (e:=iN) (G:=λb=>kW ⟨b,f.x,f.l⟩) (sV (p:=nT ls) rfl rfl) (by lia) λb _=>e1 (sH:=[none,some (iN b),some (kW f)]) (h1:=[]) rfl (tU (ps:=[iN b,.str f.x,.int f.l]) (cA rfl (cA (b2 (x:=kW f) rfl rfl rfl) (cA (b2 (x:=kW f) rfl rfl rfl) rfl))) (by simp))))) ?_
  have:=ML (ls.map λb=>⟨b,f.x,f.l⟩)
  rw[b6]at this;exact this
def QD(a:dw)(b:Nat):List Fe:=(IU a).map λi=>⟨b,a.n,i⟩
def GF(a:dw)(ls:List Nat):List Fe:=if(a.w==Str.ofString "empty")=true then ls.flatMap (QD a)else []
theorem GG{a:dw}{X:List Str}(ok:uq X 3 a):(IU a).length<=3:=by
 have h1:=ok.f0;have h2:=ok.m0;have h3:=ok.few;rw[IU,ak,jo]
 lia
theorem GH(k:Nat){q:Nat×dw}{X:List Str}(ok:uq X 3 q.2)(A:PV):∀(l:List Nat) (acc:List Fe) (x3:Option PV),acc.length+3*l.length<=1000 ->
  ∃WC,du (aR 3) (Bh (run txt (k+1))) (l.map iN) ⟨[some (eN q),some A,some (.ref 0),x3],[⟨.lst,acc.map kW⟩]⟩=some (.ok .nx,⟨[some (eN q),some A,some (.ref 0),WC],[⟨.lst,(acc++l.flatMap (QD q.2)).map kW⟩]⟩)
 | [],acc,x3,_=>⟨x3,by simp;rfl⟩
 | b::l,acc,x3,hz=>by
  rw[aW]at hz;have hn:=GG ok;have hn2:(QD q.2 b).length=(IU q.2).length:=by unfold QD;rw[ak]
  obtain⟨WC,e⟩:=GH k ok A l (acc++QD q.2 b) (some (iN b)) (by rw[bu];lia)
  refine⟨WC,?_⟩;rw[iD,<-cg];refine fC rfl (dS (p:=.bQ) (BW (s2:=⟨[some (eN q),some A,some (.ref 0),some (iN b)],[⟨.lst,acc.map kW⟩]⟩) rfl rfl (cA (x:=.lst ((QD q.2 b).map kW)) ?_ rfl) ?_)) e
  ·rw[QD,b6];refine cM (l:=IU q.2) (e:=PV.int) (sV (p:=.lst ((IU q.2).map .int)) (cY (as:=[eN q]) (cA rfl rfl) rfl (by simp[ah,noRef,eN,lj]) (IV k (by decide) ok)) rfl) (by lia) λi _=>?_
   exact e1 (sH:=[none,some (.int i),some (eN q),some (iN b)]) (h1:=[⟨.lst,acc.map kW⟩]) rfl (tU (ps:=[iN b,.str q.2.n,.int i]) (cA rfl (cA (b2 (x:=eN q) rfl rfl rfl) (cA rfl rfl))) (by simp))
  ·rw[cG];exact xC (n:=0) rfl rfl (by rw[ak,ak];lia)
theorem IX(k:Nat){q:Nat×dw}{X:List Str}(ok:uq X 3 q.2)(ls:List Nat)(hl:ls.length<=2):Gives (run txt (k+2) "emptied" [eN q,nT ls] []) (.lst ((GF q.2 ls).map kW)):=by
 rw[Bi];have t:Ek Ql (S0 [some (eN q),some (nT ls),none,none]) (!(q.2.w==Str.ofString "empty")):=bT (b2 (b2 rfl rfl rfl) rfl (Eu _ _ _));unfold GF;cases hw:q.2.w==Str.ofString "empty" with
 | false=>rw[hw]at t;exact gV (uM (iT t (rS rfl))) rfl
 | true =>
  rw[hw]at t;obtain⟨x3,e⟩:=GH k ok (nT ls) ls [] none (by simp;lia)
  rw[fj]at e;exact⟨.ref 0,_,jT (sq (iF t rfl) (sq rfl (sq (fS (sV (p:=nT ls) rfl rfl) e) (rS rfl)))),mi (ML _)⟩
end
section
variable {m:Md} {most:Nat}
def BM(d:Kn):Nat:=if gw d=true then 1 else(lv (b9 d)).length
def MM(q:Rk):List Fe:=(List.range (BM q.2)).map fun(i:Nat)=>⟨0,q.1,(i:Int)⟩
theorem GI{ks:List Rk}(K:lH ks){q:Rk}(hq:q∈ks):BM q.2<=3:=by
 unfold BM;split
 ·decide
 ·exact(K.good q hq).2
theorem aay(l:Nat):nH l=iN l:=by unfold nH iN;rw[oe]
theorem BN(k:Nat)(hk:7<=k){ks:List Rk}(K:lH ks)(F:PV):∀(ps:List Rk) (acc:List Fe) (x2 x3 x4:Option PV),(∀q∈ps,q∈ks)->acc.length+3*ps.length<=1000 ->
  ∃y2 y3 y4,du Qt (mf (run txt k)) (ps.map bI) ⟨[some F,some (.ref 0),x2,x3,x4],[⟨.lst,acc.map kW⟩]⟩=some (.ok .nx,⟨[some F,some (.ref 0),y2,y3,y4],[⟨.lst,(acc++ps.flatMap MM).map kW⟩]⟩)
 | [],acc,x2,x3,x4,_,_=>⟨x2,x3,x4,by simp;rfl⟩
 | q::ps,acc,x2,x3,x4,hp,hz=>by
  rw[aW]at hz;have hq:=hp q aN;have hc:=GI K hq;obtain⟨j,rfl⟩:∃j,k=j+1:=⟨k-1,by lia⟩
  have hn2:(MM q).length=BM q.2:=by unfold MM;rw[ak,jo]
  obtain⟨y2,y3,y4,e⟩:=BN (j+1) hk K F ps (acc++MM q) (some (.str q.1)) (some (de q.2)) (some (iN (BM q.2))) (λr hr=>hp r (aK _ hr)) (by rw[bu];lia)
  refine⟨y2,y3,y4,?_⟩;rw[iD,<-cg];refine fC (s1:=⟨[some F,some (.ref 0),some (.str q.1),some (de q.2),x4],[⟨.lst,acc.map kW⟩]⟩) rfl ?_ e;have th:Ek (gM (bnd Q3 (bF 0 1 (run txt (j+1) "is_holder")))) ⟨[some F,some (.ref 0),some (.str q.1),some (de q.2),x4],[⟨.lst,acc.map kW⟩]⟩ (gw q.2):=tB (cY (as:=[de q.2]) (cA rfl rfl) rfl (by simp[ah,qH]) (fB j q.2))
  have tc:Ek (fG (gM (bnd Q3 (bF 0 1 (run txt (j+1) "is_holder")))) (kI 1) (gI gH (aq (bnd Q3 (bF 0 1 (run txt (j+1) "leaves"))) (aY [])))) ⟨[some F,some (.ref 0),some (.str q.1),some (de q.2),x4],[⟨.lst,acc.map kW⟩]⟩ (iN (BM q.2)):=by
   unfold BM;cases hh:gw q.2 with
   | true=>rw[hh]at th;exact iT th rfl
   | false =>
    rw[hh]at th;obtain⟨x,d⟩:=q;cases d with
    | ho b s=>cases hh
    | ow s =>
     have hd:=(K.good _ hq).1.1;have h4:=er.all LA s j (by have:=hd.2;simp only[b9]at this;lia) (by have:=vE s;have:=hd.1;simp only[b9]at this;lia)
     refine iF th (bV (cA (cY (as:=[enc s]) (cA rfl rfl) rfl (by simp[ah,dv]) h4) rfl) ?_)
     show some (PV.int ((b8 (lv s)).length:Int))=_;rw[fW];rfl
  refine sq (aS tc rfl) (dS (p:=.bQ) (BW (s2:=⟨[some F,some (.ref 0),some (.str q.1),some (de q.2),some (iN (BM q.2))],[⟨.lst,acc.map kW⟩]⟩) rfl rfl (cA (x:=.lst ((MM q).map kW)) ?_ rfl) ?_))
  ·rw[MM,b6];refine cM (l:=List.range (BM q.2)) (e:=nH) (nk (j:=BM q.2) (cA rfl rfl) (by lia)) (by rw[jo];lia) λi _=>?_
   rw[aay];exact e1 (sH:=[none,some (iN i),some (.str q.1)]) (h1:=[⟨.lst,acc.map kW⟩]) rfl (tU (ps:=[.int 0,.str q.1,iN i]) (cA rfl (cA rfl (cA rfl rfl))) (by simp))
  ·rw[cG];exact xC (n:=0) rfl rfl (by rw[ak,ak];lia)
theorem BO:∀q∈m.LT,q∈m.ks:=λq hq=>dD _ hq
theorem MN:m.LT.length=8:=rfl
def Ng(m:Md):List Fe:=m.LT.flatMap MM
theorem u0(k:Nat)(hk:7<=k)(h:d8 m most):run txt (k+1) "empty_at_first" [m.F1] []=some (.ok (.ref 0),[⟨.lst,(Ng m).map kW⟩]):=by
 obtain⟨x2,x3,x4,e⟩:=BN k hk h.ks m.F1 m.LT [] none none none BO (by rw[MN];decide)
 rw[fj]at e;rw[mh];exact jT (sq rfl (sq (fS (sV (p:=.ay (m.LT.map bI)) (b2 rfl rfl rfl) rfl) e) (rS rfl)))
end
section
variable {m:Md} {most:Nat} {cs:List Nat}
abbrev RW(m:Md):PV:=.lst (m.as.map eN)
abbrev AF(m:Md):PV:=.lst (m.za.map nT)
def deE:List bB->Option Fe
 | [.inl n,.inr x,.inl l]=>if 0<=n then some ⟨n.toNat,x,l⟩else none
 | _=>none
theorem Sn(f:Fe):deE (kE f)=some f:=by
 show(if 0<=(f.n:Int)then some (Fe.mk (f.n:Int).toNat f.x f.l)else none)=_
 rw[if_pos (by lia),gg]
theorem MO{k:List bB}{f:Fe}(h:deE k=some f):k=kE f:=by
 rcases k with _ | ⟨n | _,_ | ⟨_ | x,_ | ⟨l | _,_ | _⟩⟩⟩<;>first | (cases h;done) | skip
 obtain⟨h0,h⟩:=bX h;cases h;unfold kE;rw[show((Int.toNat _:Nat):Int)=_ from lM h0]
def BP(m:Md)(f:Fe):Option (List Fe):=(m.as[f.n]?).bind λq=>(m.za[f.n]?).map λls=>stE q.2 ls f
def EB(m:Md)(k:List bB):Option (List (List bB)):=(deE k).bind λf=>(BP m f).map λfs=>fs.map kE
def nmX(m:Md):List Str:=""::BZ m.ks
structure EC (m:Md) (cs:List Nat) (f:Fe):Prop where
 n:f.n∈cs
 x:f.x∈nmX m
 l:0<=f.l/\f.l<3
def UE(m:Md)(cs:List Nat):List (List bB):=cs.flatMap λn=>(nmX m).flatMap λx=>(List.range 3).map fun(l:Nat)=>kE ⟨n,x,(l:Int)⟩
theorem yU{α β:Type}{c:Nat}{f:α->List β}:∀l:List α,(∀a∈l,(f a).length=c)->(l.flatMap f).length=l.length*c
 | [],_=>by simp
 | a::l,h=>by
  rw[iD,bu,h a aN,yU l λb hb=>h b (aK _ hb),aW,Nat.add_mul]
  lia
theorem MP:(UE m cs).length=cs.length*(11*3):=by
 refine yU _ λn _=>?_
 have h:((nmX m).flatMap λx=>(List.range 3).map fun(l:Nat)=>kE ⟨n,x,(l:Int)⟩).length=(nmX m).length*3:=yU _ λx _=>by simp
 rw[h];unfold nmX BZ;rw[aW,ak,yQ]
theorem ED{f:Fe}(h:EC m cs f):kE f∈UE m cs:=by
 obtain⟨h1,h2,h3⟩:=h;refine fg.mpr ⟨f.n,h1,fg.mpr ⟨f.x,h2,aF.mpr ⟨f.l.toNat,ee.mpr (by lia),?_⟩⟩⟩
 rw[lM h3.1]
theorem So{k:List bB}(h:k∈UE m cs):∃f,k=kE f/\EC m cs f:=by
 obtain⟨n,hn,h⟩:=fg.mp h;obtain⟨x,hx,h⟩:=fg.mp h;obtain⟨l,hl,rfl⟩:=aF.mp h;rw[ee]at hl;exact⟨_,rfl,hn,hx,by show(0:Int)<=(l:Int);lia,by show(l:Int)<3;lia⟩
theorem qM(Cm:uZ m cs){n:Nat}(hn:n∈cs):∃q,m.as[n]?=some q:=⟨_,cO (Cm.lt n hn)⟩
theorem qN(h:d8 m most)(hm:most<=20)(Cm:uZ m cs){n:Nat}(hn:n∈cs):∃l,m.za[n]?=some l:=⟨_,cO (by rw[yT h hm];exact Cm.lt n hn)⟩
theorem WD(h:d8 m most)(hm:most<=20)(Cm:uZ m cs){f:Fe}(hf:EC m cs f):∃q l,m.as[f.n]?=some q/\m.za[f.n]?=some l/\BP m f=some (stE q.2 l f)/\(∀g∈stE q.2 l f,EC m cs g)/\(stE q.2 l f).length<=2:=by
 obtain⟨q,hq⟩:=qM Cm hf.n;obtain⟨l,hl⟩:=qN h hm Cm hf.n;refine⟨q,l,hq,hl,by unfold BP;rw[hq,hl];rfl,λg hg=>?_,?_⟩
 ·unfold stE at hg;split at hg
  ·cases hg
  ·obtain⟨b,hb,rfl⟩:=aF.mp hg;exact⟨Cm.nx f.n hf.n l hl b hb,hf.x,hf.l⟩
 ·unfold stE;split
  ·simp
  ·rw[ak];exact(uh h hm hl).1
def WE(m:Md)(n:Nat):List Fe:=match m.as[n]?,m.za[n]? with | some q,some l=>GF q.2 l | _,_=>[]
def jR(m:Md)(cs:List Nat):List Fe:=cs.flatMap (WE m)
def MQ(m:Md)(cs:List Nat):List Fe:=Ng m++jR m cs
theorem aaA(h:d8 m most)(Cm:uZ m cs){n:Nat}(hn:n∈cs){q:Nat×dw}{l:List Nat}(hq:m.as[n]?=some q)(hl:m.za[n]?=some l){f:Fe}(hf:f∈GF q.2 l):EC m cs f:=by
 unfold GF at hf;split at hf
 ·obtain⟨b,hb,hf⟩:=fg.mp hf;obtain⟨i,hi,rfl⟩:=aF.mp hf;have ok:=GA h (dN hq);have:=(QA ok.m0).mp hi;have h1:=ok.f0;have h2:=ok.few;refine⟨Cm.nx n hn l hl b hb,?_,by show(0:Int)<=i;lia,by show i<3;lia⟩
  rcases ok.nm with z | z
  ·exact aK _ z
  ·show q.2.n∈_;rw[z];exact aN
 ·cases hf
theorem MR(h:d8 m most)(hm:most<=20){n:Nat}{q:Nat×dw}{l:List Nat}(hq:m.as[n]?=some q)(hl:m.za[n]?=some l):(GF q.2 l).length<=6:=by
 unfold GF;split
 ·have h1:=GG (GA h (dN hq));have h2:=(uh h hm hl).1;have:(l.flatMap (QD q.2)).length=l.length*(IU q.2).length:=yU _ λb _=>by unfold QD;rw[ak]
  rw[this];exact bE (Nat.mul_le_mul h2 h1) (by decide)
 ·simp
theorem WG(h:d8 m most)(hm:most<=20)(Cm:uZ m cs){f:Fe}(hf:f∈MQ m cs):EC m cs f:=by
 rcases bZ.mp hf with hf | hf
 ·obtain⟨q,hq,hf⟩:=fg.mp hf;obtain⟨i,hi,rfl⟩:=aF.mp hf;have hi:=ee.mp hi;have:=GI h.ks (BO q hq);exact⟨Cm.zero,aK _ (aF.mpr ⟨q,BO q hq,rfl⟩),by show(0:Int)<=(i:Int);lia,by show(i:Int)<3;lia⟩
 ·obtain⟨n,hn,hf⟩:=fg.mp hf;obtain⟨q,hq⟩:=qM Cm hn;obtain⟨l,hl⟩:=qN h hm Cm hn;unfold WE at hf;rw[hq,hl]at hf;exact aaA h Cm hn hq hl hf
theorem BQ(k:Nat)(h:d8 m most)(hm:most<=20)(P:Option PV)(I:Option PV):∀(cs:List Nat) (acc:List Fe) (x3:Option PV),(∀n∈cs,n<m.as.length)->acc.length+6*cs.length<=4000000 ->
  ∃WC,du (aR 3) (pF (run txt (k+2))) (cs.map iN) ⟨[P,I,some (.ref 0),x3,some (AF m),some (RW m)],[⟨.lst,acc.map kW⟩]⟩=some (.ok .nx,⟨[P,I,some (.ref 0),WC,some (AF m),some (RW m)],[⟨.lst,(acc++jR m cs).map kW⟩]⟩)
 | [],acc,x3,_,_=>⟨x3,by simp[jR];rfl⟩
 | n::cs,acc,x3,hc,hz=>by
  rw[aW]at hz;have hn:=hc n aN;obtain⟨q,hq⟩:∃q,m.as[n]?=some q:=⟨_,cO hn⟩
  obtain⟨l,hl⟩:∃l,m.za[n]?=some l:=⟨_,cO (by rw[yT h hm];exact hn)⟩
  have uj:=MR h hm hq hl;have e0:WE m n=GF q.2 l:=by unfold WE;rw[hq,hl]
  obtain⟨WC,e⟩:=BQ k h hm P I cs (acc++GF q.2 l) (some (iN n)) (λb hb=>hc b (aK _ hb)) (by rw[bu];lia)
  refine⟨WC,?_⟩;rw[show jR m (n::cs)=GF q.2 l++jR m cs by unfold jR;rw[iD,e0],<-cg]
  have r:=IX k (GA h (dN hq)) l (uh h hm hl).1;have i1:∀H,bW H (RW m) (iN n)=some (eN q):=GB hq
  have i2:∀H,bW H (AF m) (iN n)=some (nT l):=GD hl
  have nq:ah [eN q,nT l]=true:=by simp[ah,noRef,eN,lj,nT,kT]
  generalize RW m=R at e i1 ⊢
  generalize AF m=A at e i2 ⊢
  refine fC (s1:=⟨[P,I,some (.ref 0),some (iN n),some A,some R],[⟨.lst,acc.map kW⟩]⟩) rfl (dS (p:=.bQ) (BW (s2:=⟨[P,I,some (.ref 0),some (iN n),some A,some R],[⟨.lst,acc.map kW⟩]⟩) rfl rfl (cA (x:=.lst ((GF q.2 l).map kW)) (cY (as:=[eN q,nT l]) (cA (b2 rfl rfl (i1 _)) (cA (b2 rfl rfl (i2 _)) rfl)) rfl (by rw[nq];simp) r) rfl) ?_)) e
  rw[cG];exact xC (n:=0) rfl rfl (by rw[ak,ak];lia)
end
section
variable {m:Md} {most:Nat} {cs:List Nat}
structure Emp (m:Md) (cs:List Nat) (ag:fH):Prop where
 ok:∀t∈ag,∃f,t.1=kE f/\EC m cs f
 nd:(ag.map (·.1)).Nodup
 done:DZ (EB m) ag ag.length
 fst:∀f∈MQ m cs,kE f∈ag.map (·.1)
theorem MS(h:d8 m most)(hm:most<=20)(Cm:uZ m cs):cs.length<=126:=by
 have:=jj cs (List.range m.as.length) Cm.nd λn hn=>ee.mpr (Cm.lt n hn)
 rw[jo]at this;have:=MK h
 lia
theorem WH(h:d8 m most):(Ng m).length<=24:=by
 have:∀l:List Rk,(∀q∈l,q∈m.ks)->(l.flatMap MM).length<=3*l.length:=λl=>by
  induction l with
  | nil=>exact λ_=>by simp
  | cons q l ih =>
   intro hl;rw[iD,bu,aW];have:=GI h.ks (hl q aN);have:=ih λr hr=>hl r (aK _ hr)
   have:(MM q).length=BM q.2:=by unfold MM;rw[ak,jo]
   lia
 have:=this m.LT BO;rw[MN]at this;exact this
theorem BR(h:d8 m most)(hm:most<=20):∀cs:List Nat,(∀n∈cs,n<m.as.length)->(jR m cs).length<=6*cs.length
 | [],_=>by simp[jR]
 | n::cs,hc=>by
  have hn:=hc n aN;obtain⟨q,hq⟩:∃q,m.as[n]?=some q:=⟨_,cO hn⟩
  obtain⟨l,hl⟩:∃l,m.za[n]?=some l:=⟨_,cO (by rw[yT h hm];exact hn)⟩
  have uj:=MR h hm hq hl;have ih:=BR h hm cs λb hb=>hc b (aK _ hb)
  unfold jR at ih ⊢;rw[iD,bu,aW,show WE m n=GF q.2 l by unfold WE;rw[hq,hl]]
  lia
theorem IY(k:Nat)(hk:14<=k)(h:d8 m most)(hm:most<=20)(hc:Gives (run txt (k+3) "come_to" [m.prog,.int 1] []) (.lst (cs.map iN)))(Cm:uZ m cs):∃ag,Gives (run txt (k+4) "empties" [m.prog,.int 1] []) (.lst (ag.map toldP))/\Emp m cs ag:=by
 have hcl:=MS h hm Cm;have hU:(UE m cs).length<=5000:=by rw[MP];lia
 have hfi:=WH h;have hne:=BR h hm cs Cm.lt;obtain⟨ag,t1,t2,t3,_,t5,t6⟩:=sZ (EB m) ((MQ m cs).map kE) (UE m cs) 2 (by show _<4000000;lia) (by show _<3000000;lia) (λg hg=>by
  obtain⟨f,rfl,hf⟩:=So hg;obtain⟨q,l,h1,h2,h3,h4,h5⟩:=WD h hm Cm hf;refine⟨(stE q.2 l f).map kE,?_,λk' WY=>?_,by rw[ak];exact h5⟩
  ·unfold EB;rw[Sn,dO,h3];rfl
  ·obtain⟨f',hf',rfl⟩:=aF.mp WY;exact ED (h4 f' hf')) (λk' WY=>by
  obtain⟨f,hf,rfl⟩:=aF.mp WY;exact ED (WG h hm Cm hf))
 refine⟨ag,?_,⟨λt ht=>So (t3 t ht),t2,t5,λf hf=>t6 _ (aF.mpr ⟨f,hf,rfl⟩)⟩⟩
 rw[Bg];have ha:=yS h (by lia) (k+2) (by lia)
 have hn:=(jl h hm (k+1) (by lia)).1
 have c1:=u0 (k+2) (by lia) h
 obtain⟨x3,e⟩:=BQ (k+1) h hm (some m.prog) (some (.int 1)) cs (Ng m) none Cm.lt (by lia)
 have lm:∀g (fs:List (List bB)),EB m g=some fs->∃(q:Nat) (l:(Nat×dw)×List Nat),(∀H,bW H (cV g) (.int 0)=some (.int (q:Int)))/\m.as[q]?=some l.1/\m.za[q]?=some l.2/\Gives (run txt (k+3) "stays_empty" [eN l.1,nT l.2,cV g] []) (.lst (fs.map cV)):=λg fs hg=>by
  unfold EB at hg;obtain⟨f,d1,d2⟩:=aX hg;obtain⟨SV,d3,rfl⟩:=bt d2;cases MO d1;unfold BP at d3;obtain⟨q,d5,d6⟩:=aX d3;obtain⟨l,d7,rfl⟩:=bt d6;refine⟨f.n,(q,l),λ_=>rfl,d5,d7,?_⟩
  have:=QC k q l (by have:=(uh h hm d7).1;lia) f
  rw[b6];exact this
 have i1:∀{n:Nat} {q:Nat×dw},m.as[n]?=some q->∀H,bW H (RW m) (.int (n:Int))=some (eN q):=λe H=>GB e H
 have i2:∀{n:Nat} {l:List Nat},m.za[n]?=some l->∀H,bW H (AF m) (.int (n:Int))=some (nT l):=λe H=>GD e H
 have nP:=Gy h;have hp1:∀H,bW H m.prog (.int 1)=some m.F1:=EA
 have nF:=Gw h;obtain⟨P,hP⟩:=nw m.prog;obtain⟨F,hF⟩:=nw m.F1;rw[<-hF]at c1 nF hp1;have ha:Gives (run txt (k+3) "acts" [m.prog,.int 1] []) (RW m):=ha;have hn:Gives (run txt (k+3) "nexts" [m.prog,.int 1] []) (AF m):=hn;rw[<-hP]at ha hn hc nP hp1 e ⊢
 generalize RW m=R at ha e i1
 generalize AF m=A at hn e i2
 have a5:Ev (dc (bnd Qa (bF 0 2 (run txt (k+3) "acts"))) (aR 5)) (S0 [some P,some (.int 1),none,none,none,none]) .nx (S0 [some P,some (.int 1),none,none,none,some R]):=aS (cY (as:=[P,.int 1]) (cA rfl (cA rfl rfl)) rfl rfl ha) rfl;have a4:Ev (dc (bnd Qa (bF 0 2 (run txt (k+3) "nexts"))) (aR 4)) (S0 [some P,some (.int 1),none,none,none,some R]) .nx (S0 [some P,some (.int 1),none,none,some A,some R]):=aS (cY (as:=[P,.int 1]) (cA rfl (cA rfl rfl)) rfl rfl hn) rfl;have a2:Ev (dc (bnd (aq Qh (aY [])) (bF 1 1 (run txt (k+3) "empty_at_first"))) (aR 2)) (S0 [some P,some (.int 1),none,none,some A,some R]) .nx ⟨[some P,some (.int 1),some (.ref 0),none,some A,some R],[⟨.lst,(Ng m).map kW⟩]⟩:=aS (ZX (as:=[F]) (cA (b2 rfl rfl (hp1 _)) rfl) rfl rfl c1) rfl;have cm:Ek (ik (bnd Qa (bF 0 2 (run txt (k+3) "come_to")))) ⟨[some P,some (.int 1),some (.ref 0),none,some A,some R],[⟨.lst,(Ng m).map kW⟩]⟩ (.sq (cs.map iN)):=sV (cY (as:=[P,.int 1]) (cA rfl (cA rfl rfl)) rfl (by simp[ah,nP,noRef]) hc) rfl
 have r:=Mb (fe:=rd 2) (fb:=bnd Qe (bF 0 3 (run txt (k+3) "stays_empty"))) (link:=[some 4,some 5]) (s:=⟨[some P,some (.int 1),some (.ref 0),x3,some A,some R],[⟨.lst,(Ng m++jR m cs).map kW⟩]⟩) (s1:=⟨[some P,some (.int 1),some (.ref 0),x3,some A,some R],[⟨.lst,(Ng m++jR m cs).map kW⟩]⟩) (p:=.ref 0) (fk:=(MQ m cs).map kE) (res:=ag) rfl (.inr ⟨0,rfl,by rw[b6];rfl⟩) (FY (k+2)) (Me (k+3)) (λf hf=>by
  obtain⟨f',_,rfl⟩:=aF.mp hf;show 3<1000;decide) (by
  rw[ak];unfold MQ;rw[bu]
  lia) t1 (λg fs hg=>by
  obtain⟨n,⟨q,l⟩,g0,g1,g2,g3⟩:=lm g fs hg;refine⟨λf' hf'=>?_,λtold'=>⟨some (cV g)::[some A,some R],?_⟩⟩
  ·unfold EB at hg;obtain⟨f,d1,d2⟩:=aX hg;obtain⟨SV,d3,rfl⟩:=bt d2;obtain⟨f'',_,rfl⟩:=aF.mp hf';show 3<1000;decide
  ·exact cY (as:=[eN q,nT l,cV g]) (cA (b2 rfl (b2 rfl rfl (g0 _)) (i1 g1 _)) (cA (b2 rfl (b2 rfl rfl (g0 _)) (i2 g2 _)) (cA rfl rfl))) rfl (by simp[ah,noRef,eN,lj,nT,kT,Pu]) g3)
 refine⟨.ref 2,_,jT (sq a5 (sq a4 (sq a2 (sq (fS cm e) (rS r))))),?_⟩;exact Em (n:=2) (VR (hd:=[⟨.lst,(Ng m++jR m cs).map kW⟩,mV])) (yH ag)
end
section
variable {m:Md} {most:Nat} {cs:List Nat}
def tdE(f:Fe)(c:Int):PV:=.ay [.int (f.n:Int),.str f.x,.int f.l,.int c]
theorem MT(k:Nat)(i:Int):Gives (run txt (k+1) "_law_whole" [.int i] []) (.bl true):=by
 rw[D8];exact gV (rS rfl) rfl
theorem EE(k:Nat)(f:Fe)(c:Int):Gives (run txt (k+2) "_law_is_fact" [tdE f c] []) (.bl true):=by
 rw[yA];have w:=λi:Int=>MT k i
 refine gV (sq (iF (s1:=S0 [some (tdE f c)]) rfl rfl) (rS (anT (x:=.bl true) (cY (as:=[.int (f.n:Int)]) (cA (b2 rfl rfl rfl) rfl) rfl rfl (w _)) rfl (anT (x:=.bl true) (cY (as:=[.int f.l]) (cA (b2 rfl rfl rfl) rfl) rfl rfl (w _)) rfl (cY (as:=[.int c]) (cA (b2 rfl rfl rfl) rfl) rfl rfl (w _)))))) rfl
theorem QE(k:Nat)(q:Nat×dw)(x:Str)(l:Int):Gives (run txt (k+1) "_law_ends" [eN q,.str x,.int l] []) (.bl (BL q.2 x l)):=by
 rw[Ih];have t:Ek (toB (op2 k0 (op2 bW (rd 0) (kI 6)) (rd 1))) (S0 [some (eN q),some (.str x),some (.int l)]) (q.2.k==x):=bT (b2 (b2 rfl rfl rfl) rfl (dX _ _ _));unfold BL;cases hk:q.2.k==x with
 | true=>rw[hk]at t;exact gV (uM (iT t (rS rfl))) rfl
 | false =>
  rw[hk]at t;exact gV (sq (iF t rfl) (rS (Xa (b2 (b2 rfl rfl rfl) rfl (dX _ _ _)) (Xa (nG (b2 rfl rfl rfl)) (Xa (b2 (b2 rfl rfl rfl) rfl (dX _ _ _)) (chB (b2 rfl rfl rfl) rfl (le_int _ _ _) (b2 (b2 rfl rfl rfl) (b2 rfl rfl rfl) rfl) (lt_int _ _ _))))))) rfl
def mv(ag:fH):az:=⟨.gR true (ag.map (·.1)),ag.map λ_=>.bl true⟩
theorem MU{H:List az}{j:Nat}{ag:fH}{f:Fe}(hj:H[j]?=some (mv ag))(hf:kE f∈ag.map (·.1)):oA true H (cV (kE f)) (.ref j)=some (.bl false):=by
 have dr:cX H (.ref j)=some (.gR true (ag.map (·.1)),ag.map λ_=>.bl true):=by
  show(H[j]?).bind _=_;rw[hj];rfl
 unfold oA;rw[dr];show(jd true (cV (kE f))).map _=_;rw[qF (ks:=kE f) (show 3<1000 by decide)]
 show some (PV.bl (!A2 (ag.map (·.1)) (kE f)))=_;rw[m6.mpr hf];rfl
theorem vZ(c:CT)(a0 a1 a2 a3 a4 a5 a6 a7 WK WL WM:Option PV)(C0:az):∀(ts acc:fH) (x8:Option PV),((acc++ts).map (·.1)).Nodup->(∀t∈ts,∃f,t.1=kE f)->(acc++ts).length<4000000 ->
  ∃y8,du (aR 8) (FO c) (ts.map toldP) ⟨[a0,a1,a2,a3,a4,a5,a6,a7,x8,some (.ref 1),WK,WL,WM],[C0,mv acc]⟩=some (.ok .nx,⟨[a0,a1,a2,a3,a4,a5,a6,a7,y8,some (.ref 1),WK,WL,WM],[C0,mv (acc++ts)]⟩)
 | [],acc,x8,_,_,_=>⟨x8,by rw[fq];rfl⟩
 | t::ts,acc,x8,hn,hk,hl=>by
  obtain⟨y8,ih⟩:=vZ c a0 a1 a2 a3 a4 a5 a6 a7 WK WL WM C0 ts (acc++[t]) (some (toldP t)) (by rw[cg];exact hn) (λu hu=>hk u (aK _ hu)) (by rw[cg];exact hl)
  refine⟨y8,?_⟩;rw[cg]at ih;obtain⟨f,hf⟩:=hk t aN;obtain⟨g,d⟩:=t;cases hf;refine fC (s1:=⟨[a0,a1,a2,a3,a4,a5,a6,a7,some (toldP (kE f,d)),some (.ref 1),WK,WL,WM],[C0,mv acc]⟩) rfl ?_ ih;unfold FO;refine eB rfl (eB rfl (eB rfl ?_));show(AA (.ref 1) (cV (kE f)) (.bl true) _).map _=_;have e:∀ρ,AA (.ref 1) (cV (kE f)) (.bl true) ⟨ρ,[C0,mv acc]⟩=(jd true (cV (kE f))).bind λk=>if(acc.map (·.1)).length<f9 then some ⟨ρ,[C0,mv acc].set 1 (qa true k (.bl true) (acc.map (·.1)) (acc.map λ_=>.bl true))⟩else none:=λ_=>rfl
  rw[e,qF (ks:=kE f) (show 3<1000 by decide)]
  rw[dO];rw[bu,aW]at hl;rw[if_pos (show(acc.map (·.1)).length<f9 by rw[ak];have:f9=4000000:=rfl;lia)]
  unfold qa;have hm:lZ (kE f) (acc.map (·.1))=false:=by
   have:A2 (acc.map (·.1)) (kE f)=false:=by
    rw[<-Bool.not_eq_true,m6];intro z;rw[cG,q8]at hn;exact hn.2.2 _ z (kE f) (aF.mpr ⟨(kE f,d),aN,rfl⟩) rfl
   exact this
  rw[hm,if_neg d9];show some (_,cC.mk _ [C0,⟨_,_⟩])=_;unfold mv;rw[cG,cG];rfl
end
section
variable {m:Md} {most:Nat} {cs:List Nat} {ag:fH} {H:List az}
theorem MV(h:List az)(d:Kn):oA true h (.str (kw d)) (.ay [.str "lent",.str "sole"])=some (.bl (!gw d)):=by
 cases d with
 | ow s=>cases s<;>kernel_rfl
 | ho b s=>cases b<;>kernel_rfl
theorem MW(c:CT)(hH:H[1]?=some (mv ag))(L:Option PV)(x:Str)(a3 a4:Option PV):∀(is:List Nat) (x5:Option PV),(∀i∈is,kE ⟨0,x,(i:Int)⟩∈ag.map (·.1)) ->
  ∃y5,du (aR 5) (D9 c) (is.map nH) ⟨[L,some (.ref 1),some (.str x),a3,a4,x5],H⟩=some (.ok .nx,⟨[L,some (.ref 1),some (.str x),a3,a4,y5],H⟩)
 | [],x5,_=>⟨x5,rfl⟩
 | i::is,x5,hi=>by
  obtain⟨y5,e⟩:=MW c hH L x a3 a4 is (some (iN i)) λj hj=>hi j (aK _ hj)
  refine⟨y5,?_⟩;rw[aM,aay];exact fC (s1:=⟨[L,some (.ref 1),some (.str x),a3,a4,some (iN i)],H⟩) rfl (iF (bT (b2 (x:=cV (kE ⟨0,x,(i:Int)⟩)) (tU (ps:=[.int 0,.str x,iN i]) (cA rfl (cA rfl (cA rfl rfl))) (by simp)) rfl (MU hH (hi i aN)))) rfl) e
theorem BS(k:Nat)(hk:7<=k)(hH:H[1]?=some (mv ag)){ks:List Rk}(K:lH ks)(L:PV):∀(ps:List Rk) (x2 x3 x4 x5:Option PV),(∀q∈ps,q∈ks)->(∀q∈ps,∀f∈MM q,kE f∈ag.map (·.1)) ->
  ∃y2 y3 y4 y5,du Qt (Ea (run txt k)) (ps.map bI) ⟨[some L,some (.ref 1),x2,x3,x4,x5],H⟩=some (.ok .nx,⟨[some L,some (.ref 1),y2,y3,y4,y5],H⟩)
 | [],x2,x3,x4,x5,_,_=>⟨x2,x3,x4,x5,rfl⟩
 | q::ps,x2,x3,x4,x5,hp,hf=>by
  have hq:=hp q aN;have hc:=GI K hq;obtain⟨j,rfl⟩:∃j,k=j+1:=⟨k-1,by lia⟩
  obtain⟨z5,ei⟩:=MW (run txt (j+1)) hH (some L) q.1 (some (de q.2)) (some (iN (BM q.2))) (List.range (BM q.2)) x5 λi hi=>hf q aN _ (aF.mpr ⟨i,hi,rfl⟩)
  obtain⟨y2,y3,y4,y5,e⟩:=BS (j+1) hk hH K L ps (some (.str q.1)) (some (de q.2)) (some (iN (BM q.2))) z5 (λr hr=>hp r (aK _ hr)) λr hr=>hf r (aK _ hr)
  refine⟨y2,y3,y4,y5,?_⟩;refine fC (s1:=⟨[some L,some (.ref 1),some (.str q.1),some (de q.2),x4,x5],H⟩) rfl ?_ e;refine sq (s1:=⟨[some L,some (.ref 1),some (.str q.1),some (de q.2),some (.int 1),x5],H⟩) rfl ?_;have t:Ek Qo ⟨[some L,some (.ref 1),some (.str q.1),some (de q.2),some (.int 1),x5],H⟩ (!gw q.2):=bT (b2 (b2 rfl rfl (oU _ _)) rfl (MV _ _));have tc:Ev (fG Qo (dc (gI gH (aq (bnd Q3 (bF 0 1 (run txt (j+1) "_law_leaves"))) (aY []))) (aR 4)) (aY .nx)) ⟨[some L,some (.ref 1),some (.str q.1),some (de q.2),some (.int 1),x5],H⟩ .nx ⟨[some L,some (.ref 1),some (.str q.1),some (de q.2),some (iN (BM q.2)),x5],H⟩:=by
   unfold BM;cases hh:gw q.2 with
   | true=>rw[hh]at t;exact iF t rfl
   | false =>
    rw[hh]at t;obtain⟨x,d⟩:=q;cases d with
    | ho b s=>cases hh
    | ow s =>
     have hd:=(K.good _ hq).1.1;have h4:=oV s j (by have:=hd.2;simp only[b9]at this;lia) (by have:=vE s;have:=hd.1;simp only[b9]at this;lia)
     refine iT t (aS (bV (z:=iN (lv s).length) (cA (cY (as:=[enc s]) (cA rfl rfl) rfl (by simp[ah,dv]) h4) rfl) ?_) rfl)
     show some (PV.int ((b8 (lv s)).length:Int))=_;rw[fW];rfl
  exact sq tc (fS (nk (j:=BM q.2) (cA rfl rfl) (by lia)) ei)
theorem QF(k:Nat)(hk:7<=k)(h:d8 m most)(hH:H[1]?=some (mv ag))(hf:∀f∈Ng m,kE f∈ag.map (·.1)):run txt (k+1) "_law_begun" [.ay (m.LT.map bI),.ref 1] H=some (.ok (.bl true),H):=by
 obtain⟨y2,y3,y4,y5,e⟩:=BS k hk hH h.ks (.ay (m.LT.map bI)) m.LT none none none none BO λq hq f hf'=>hf f (fg.mpr ⟨q,hq,hf'⟩)
 rw[Eb];exact jT (sq (fS (sV (p:=.ay (m.LT.map bI)) rfl rfl) e) (rS rfl))
theorem GJ(c:CT)(hH:H[1]?=some (mv ag))(q:Nat×dw)(A:Option PV)(i:Int):∀(l:List Nat) (x4:Option PV),(∀b∈l,kE ⟨b,q.2.n,i⟩∈ag.map (·.1)) ->
  ∃y4,du (aR 4) (Ii c) (l.map iN) ⟨[some (eN q),A,some (.ref 1),some (.int i),x4],H⟩=some (.ok .nx,⟨[some (eN q),A,some (.ref 1),some (.int i),y4],H⟩)
 | [],x4,_=>⟨x4,rfl⟩
 | b::l,x4,hb=>by
  obtain⟨y4,e⟩:=GJ c hH q A i l (some (iN b)) λj hj=>hb j (aK _ hj)
  refine⟨y4,?_⟩;exact fC (s1:=⟨[some (eN q),A,some (.ref 1),some (.int i),some (iN b)],H⟩) rfl (iF (bT (b2 (x:=cV (kE ⟨b,q.2.n,i⟩)) (tU (ps:=[iN b,.str q.2.n,.int i]) (cA rfl (cA (b2 rfl rfl rfl) (cA rfl rfl))) (by simp)) rfl (MU hH (hb b aN)))) rfl) e
theorem v9(c:CT)(hH:H[1]?=some (mv ag))(q:Nat×dw)(l:List Nat):∀(is:List Int) (x3 x4:Option PV),(∀i∈is,∀b∈l,kE ⟨b,q.2.n,i⟩∈ag.map (·.1)) ->
  ∃y3 y4,du (aR 3) (Ij c) (is.map .int) ⟨[some (eN q),some (nT l),some (.ref 1),x3,x4],H⟩=some (.ok .nx,⟨[some (eN q),some (nT l),some (.ref 1),y3,y4],H⟩)
 | [],x3,x4,_=>⟨x3,x4,rfl⟩
 | i::is,x3,x4,hi=>by
  obtain⟨z4,e0⟩:=GJ c hH q (some (nT l)) i l x4 (hi i aN);obtain⟨y3,y4,e⟩:=v9 c hH q l is (some (.int i)) z4 λj hj=>hi j (aK _ hj)
  refine⟨y3,y4,?_⟩;exact fC (s1:=⟨[some (eN q),some (nT l),some (.ref 1),some (.int i),x4],H⟩) rfl (fS (sV (p:=nT l) rfl rfl) e0) e
theorem QG(k:Nat)(hH:H[1]?=some (mv ag)){q:Nat×dw}{X:List Str}(ok:uq X 3 q.2)(l:List Nat)(hf:∀f∈GF q.2 l,kE f∈ag.map (·.1)):run txt (k+1) "_law_left" [eN q,nT l,.ref 1] H=some (.ok (.bl true),H):=by
 rw[Ik];have t:Ek Ql ⟨[some (eN q),some (nT l),some (.ref 1),none,none],H⟩ (!(q.2.w==Str.ofString "empty")):=bT (b2 (b2 rfl rfl rfl) rfl (Eu _ _ _));cases hw:q.2.w==Str.ofString "empty" with
 | false=>rw[hw]at t;exact jT (uM (iT t (rS rfl)))
 | true =>
  rw[hw]at t;obtain⟨y3,y4,e⟩:=v9 (run txt k) hH q l (IU q.2) none none λi hi b hb=>hf _ (by
   unfold GF;rw[if_pos hw];exact fg.mpr ⟨b,hb,aF.mpr ⟨i,hi,rfl⟩⟩)
  have h1:=ok.f0;have h2:=ok.m0;have h3:=ok.few;have rg:Ek (Fj (sL KN (aq (op2 bW (rd 0) (kI 4)) (aq (op2 eU (op2 bW (rd 0) (kI 4)) (op2 bW (rd 0) (kI 5))) (aY []))))) ⟨[some (eN q),some (nT l),some (.ref 1),none,none],H⟩ (.sq ((IU q.2).map .int)):=by
   refine sG (eB (a:=[.int q.2.f,.int (q.2.f+q.2.m)]) (cA (b2 rfl rfl rfl) (cA (b2 (b2 rfl rfl rfl) (b2 rfl rfl rfl) rfl) rfl)) ?_);show Option.map _ (if HA q.2.f (q.2.f+q.2.m)=true then some (Du q.2.f (q.2.f+q.2.m-q.2.f).toNat)else none)=_
   rw[if_pos (by unfold HA;rw[j6];lia),show q.2.f+q.2.m-q.2.f=q.2.m by lia]
   unfold Du IU;rw[b6];simp only[Int.mul_one];rfl
  exact jT (sq (iF t rfl) (sq (fS rg e) (rS rfl)))
end
noncomputable def qO(cs:List Nat):az:=⟨.gR false (cs.map fun(n:Nat)=>[.inl (n:Int)]),cs.map λ_=>.bl true⟩
theorem MX(cs:List Nat)(n:Nat):lZ [.inl (n:Int)] (cs.map fun(n:Nat)=>[.inl (n:Int)])=cs.any λy=>y==n:=by
 unfold lZ;rw[List.any_map]
 congr 1
 funext y
 show decide ([(Sum.inl (y:Int):bB)]=[.inl (n:Int)])=(y==n);by_cases e:y=n
 ·subst e;simp
 ·rw[j9 (by intro z;injection z with z _;injection z with z;lia),show(y==n)=false by rw[jn];exact e]
theorem wa(c:CT)(ON sH:List (Option PV))(hρ:ON.length=5)(H:List az):∀(cs acc:List Nat) (x6:Option PV),(acc++cs).Nodup->(acc++cs).length<4000000 ->
  ∃RY,du (aR 6) (FN c) (cs.map iN) ⟨ON++some (.ref 0)::x6::sH,qO acc::H⟩=some (.ok .nx,⟨ON++some (.ref 0)::RY::sH,qO (acc++cs)::H⟩)
 | [],acc,x6,_,_=>⟨x6,by rw[fq];rfl⟩
 | n::cs,acc,x6,hn,hl=>by
  obtain⟨a0,a1,a2,a3,a4,rfl⟩:∃a0 a1 a2 a3 a4,ON=[a0,a1,a2,a3,a4]:=by
   match ON,hρ with
   | [a0,a1,a2,a3,a4],_=>exact⟨a0,a1,a2,a3,a4,rfl⟩
  obtain⟨RY,ih⟩:=wa c [a0,a1,a2,a3,a4] sH rfl H cs (acc++[n]) (some (iN n)) (by rw[cg];exact hn) (by rw[cg];exact hl)
  refine⟨RY,?_⟩;rw[cg]at ih;refine fC (s1:=⟨[a0,a1,a2,a3,a4]++some (.ref 0)::some (iN n)::sH,qO acc::H⟩) rfl ?_ ih;unfold FN;refine eB rfl (eB rfl (eB rfl ?_));show(AA (.ref 0) (iN n) (.bl true) _).map _=_;have e:AA (.ref 0) (iN n) (.bl true) ⟨[a0,a1,a2,a3,a4]++some (.ref 0)::some (iN n)::sH,qO acc::H⟩=(if(acc.map fun(n:Nat)=>[(Sum.inl (n:Int):bB)]).length<f9 then some ⟨[a0,a1,a2,a3,a4]++some (.ref 0)::some (iN n)::sH,(qO acc::H).set 0 (qa false [.inl (n:Int)] (.bl true) (acc.map fun(n:Nat)=>[.inl (n:Int)]) (acc.map λ_=>.bl true))⟩else none):=rfl
  rw[e,if_pos (show(acc.map fun(n:Nat)=>[(Sum.inl (n:Int):bB)]).length<f9 by rw[ak];show acc.length<4000000;rw[bu]at hl;lia)]
  unfold qa;rw[MX];have:(acc.any λy=>y==n)=false:=by
   rw[List.any_eq_false];intro y hy;rw[q8]at hn;have:=hn.2.2 y hy n aN;simpa using this
  rw[this,if_neg d9];show some (_,cC.mk _ (⟨_,_⟩::H))=_;unfold qO;rw[cG,cG];rfl
theorem aaC{cs:List Nat}{n:Nat}(hn:n∈cs)(H:List az):oA true (qO cs::H) (.int (n:Int)) (.ref 0)=some (.bl false):=by
 have e:oA true (qO cs::H) (.int (n:Int)) (.ref 0)=some (.bl (!lZ [.inl (n:Int)] (cs.map fun(n:Nat)=>[.inl (n:Int)]))):=rfl
 rw[e,MX,List.any_eq_true.mpr ⟨n,hn,by simp⟩]
 rfl
theorem fD{fe:Gx PV}{g:Tg}{body:Gx dB}{s s1:cC}{n:Nat}{ks:List (List bB)}{ps:List PV}{DU:List (Option PV)}{h':List az}(h:Ev fe s (.ref n) s1)(hc:qb s1.h (.ref n)=some (n,⟨.gR false ks,ps⟩))(e:du g body (lz ks) ⟨s1.ρ,s1.h.set n Av⟩=some (.ok .nx,⟨DU,h'⟩))(hn:n<h'.length):Ev (OY fe g body) s .nx ⟨DU,h'.set n ⟨.gR false ks,ps⟩⟩:=eB h (by
 show(qb s1.h (.ref n)).bind _=_;rw[hc];show(du g body (lz ks) ⟨s1.ρ,s1.h.set n Av⟩).bind _=_;rw[e];show(if n<h'.length then _ else _)=_
 rw[if_pos hn])
section
variable {m:Md} {most:Nat} {cs:List Nat} {ag:fH}
abbrev Je(S W P R A FD:PV)(x6 x8 x9 IL IM IP:Option PV)(h:List az):cC:=⟨[some S,some W,some P,some R,some A,some (.ref 0),x6,some FD,x8,x9,IL,IM,IP],h⟩
theorem BU(k:Nat)(h:d8 m most)(hm:most<=20)(Cm:uZ m cs)(T:Emp m cs ag)(S W P FD:PV)(x8 IL IM IP:Option PV)(C0:az):∀(l:List Nat) (x6:Option PV),(∀n∈l,n∈cs) ->
  ∃y6,du (aR 6) (Px (run txt (k+1))) (l.map iN) (Je S W P (RW m) (AF m) FD x6 x8 (some (.ref 1)) IL IM IP [C0,mv ag])=some (.ok .nx,Je S W P (RW m) (AF m) FD y6 x8 (some (.ref 1)) IL IM IP [C0,mv ag])
 | [],x6,_=>⟨x6,rfl⟩
 | n::l,x6,hl=>by
  obtain⟨y6,e⟩:=BU k h hm Cm T S W P FD x8 IL IM IP C0 l (some (iN n)) λb hb=>hl b (aK _ hb)
  have hn:=hl n aN;obtain⟨q,hq⟩:=qM Cm hn;obtain⟨ls,Xb⟩:=qN h hm Cm hn;have r:=QG k (H:=[C0,mv ag]) (ag:=ag) rfl (GA h (dN hq)) ls λf hf=>T.fst f (dD _ (fg.mpr ⟨n,hn,by unfold WE;rw[hq,Xb];exact hf⟩))
  have i1:∀H,bW H (RW m) (iN n)=some (eN q):=GB hq
  have i2:∀H,bW H (AF m) (iN n)=some (nT ls):=GD Xb
  refine⟨y6,?_⟩
  generalize RW m=R at e i1 ⊢
  generalize AF m=A at e i2 ⊢
  refine fC (s1:=Je S W P R A FD (some (iN n)) x8 (some (.ref 1)) IL IM IP [C0,mv ag]) rfl (iF (nB (tB (b:=true) (ZX (as:=[eN q,nT ls,.ref 1]) (cA (b2 rfl rfl (i1 _)) (cA (b2 rfl rfl (i2 _)) (cA rfl rfl))) rfl ?_ r))) rfl) e;simp[ah,noRef]
theorem wb(k:Nat)(h:d8 m most)(hm:most<=20)(Cm:uZ m cs)(T:Emp m cs ag)(S W P FD:PV)(x8:Option PV):∀(ts:fH) (x6 IL IM IP:Option PV),(∀t∈ts,t∈ag) ->
  ∃y6 y10 y11 y12,du (jB 4 (dt (aR 6) (dt (aR 10) (dt (aR 11) (dt (aR 12) pZ))))) (Py (run txt (k+1))) (ts.map toldP) (Je S W P (RW m) (AF m) FD x6 x8 (some (.ref 1)) IL IM IP [qO cs,mv ag])=some (.ok .nx,Je S W P (RW m) (AF m) FD y6 x8 (some (.ref 1)) y10 y11 y12 [qO cs,mv ag])
 | [],x6,IL,IM,IP,_=>⟨x6,IL,IM,IP,rfl⟩
 | t::ts,x6,IL,IM,IP,ht=>by
  have Sb:=ht t aN;obtain⟨f,hf,ok⟩:=T.ok t Sb;obtain⟨g,d⟩:=t;have hf:g=kE f:=hf;subst hf;obtain⟨y6,y10,y11,y12,e⟩:=wb k h hm Cm T S W P FD x8 ts (some (iN f.n)) (some (.str f.x)) (some (.int f.l)) (some (.int d)) λu hu=>ht u (aK _ hu)
  refine⟨y6,y10,y11,y12,?_⟩;obtain⟨q,hq⟩:=qM Cm ok.n;obtain⟨ls,Xb⟩:=qN h hm Cm ok.n;have Fy:BL q.2 f.x f.l=false->∀b∈ls,kE ⟨b,f.x,f.l⟩∈ag.map (·.1):=λhe b hb=>by
   obtain⟨i,hi,e⟩:=wt.mp Sb;obtain⟨fs,z1,z2⟩:=T.done i (kE f) d hi (by rw[cO hi,e])
   refine z2 _ ?_;unfold EB at z1;rw[Sn,dO]at z1;unfold BP at z1;rw[hq,Xb]at z1;cases z1;refine aF.mpr ⟨⟨b,f.x,f.l⟩,?_,rfl⟩;show _∈stE q.2 ls f;unfold stE;rw[if_neg (by rw[he];decide)]
   exact aF.mpr ⟨b,hb,rfl⟩
  have r:=QE k q f.x f.l;have i1:∀H,bW H (RW m) (iN f.n)=some (eN q):=GB hq
  have i2:∀H,bW H (AF m) (iN f.n)=some (nT ls):=GD Xb
  have Ut:=(uh h hm Xb).1
  generalize RW m=R at e i1 ⊢
  generalize AF m=A at e i2 ⊢
  refine fC (s1:=Je S W P R A FD (some (iN f.n)) x8 (some (.ref 1)) (some (.str f.x)) (some (.int f.l)) (some (.int d)) [qO cs,mv ag]) rfl ?_ e;refine sq (iF (bT (b2 rfl rfl (aaC ok.n _))) rfl) ?_;have t1:Ek (uD (gM (bnd (aq (op2 bW (rd 3) (rd 6)) (aq (rd 10) (aq (rd 11) (aY [])))) (bF 0 3 (run txt (k+1) "_law_ends"))))) (Je S W P R A FD (some (iN f.n)) x8 (some (.ref 1)) (some (.str f.x)) (some (.int f.l)) (some (.int d)) [qO cs,mv ag]) (!BL q.2 f.x f.l):=nB (tB (cY (as:=[eN q,.str f.x,.int f.l]) (cA (b2 rfl rfl (i1 _)) (cA rfl (cA rfl rfl))) rfl (by simp[ah,noRef,eN,lj]) r))
  cases he:BL q.2 f.x f.l with
  | true=>rw[he]at t1;exact iF t1 rfl
  | false =>
   rw[he]at t1;have Fy:=Fy he;have cq:Ek (dh false [none,none,some 9,some 11,some 10] (ik (op2 bW (rd 4) (rd 6))) (k8 (aR 1) (toB (op2 (oA true) (mq .ay (aq (rd 1) (aq (rd 4) Q3))) (rd 2))) (rd 1))) (Je S W P R A FD (some (iN f.n)) x8 (some (.ref 1)) (some (.str f.x)) (some (.int f.l)) (some (.int d)) [qO cs,mv ag]) (.lst ((ls.map iN).filterMap λ_=>none)):=cQ (sV (p:=nT ls) (b2 rfl rfl (i2 _)) rfl) (by rw[ak];lia) λp hp=>by
    obtain⟨b,hb,rfl⟩:=aF.mp hp;exact Pt (sH:=[none,some (iN b),some (.ref 1),some (.int f.l),some (.str f.x)]) (h1:=[qO cs,mv ag]) rfl (bT (b2 (x:=cV (kE ⟨b,f.x,f.l⟩)) (tU (ps:=[iN b,.str f.x,.int f.l]) (cA rfl (cA rfl (cA rfl rfl))) (by simp)) rfl (MU (H:=[qO cs,mv ag]) (j:=1) rfl (Fy b hb))))
   have e0:(ls.map iN).filterMap (λ_=>(none:Option PV))=[]:=by simp
   rw[e0]at cq;exact iT t1 (iF (bT (b:=false) (b2 cq rfl rfl)) rfl)
end
noncomputable def MY:List Str:=["put","set","fill","copy","move","move","drop","drop","lend","lend","call","call"]
noncomputable def aaD:List Str:=["if","if","go","say","put","give"]
theorem MZ(ns:List Int)(_:ns.length<=63):Yes (run txt 21 "law" [y0 ns] []):=by
 obtain⟨m,hp,ok⟩:=IT 16 (by decide) ns 16 (by decide) (W:=MY++aaD) (by decide)
 obtain⟨cs,hc,Cm⟩:=WB ok (by decide)
 obtain⟨ag,hh,T⟩:=IY 16 (by decide) ok (by decide) (hc 16 (by decide)) Cm
 have ha:=yS ok (by decide) 19 (by decide)
 have hn:=(jl ok (by decide) 18 (by decide)).1
 have JZ:=hc 17 (by decide)
 have hcl:=MS ok (by decide) Cm
 have uj:ag.length<=5000:=by
  have:=jj (ag.map (·.1)) (UE m cs) T.nd λx hx=>by
   obtain⟨t,ht,rfl⟩:=aF.mp hx;obtain⟨f,e,o⟩:=T.ok t ht;rw[e];exact ED o
  rw[ak,MP]at this
  lia
 obtain⟨y6,cl⟩:=wa (run txt 20) [some (y0 ns),some (.lst (MY.map .str)),some m.prog,some (RW m),some (AF m)] [none,none,none,none,none,none] rfl [] cs [] none (by rw[fj];exact Cm.nd) (by rw[fj];lia)
 rw[fj]at cl;obtain⟨y8,kl⟩:=vZ (run txt 20) (some (y0 ns)) (some (.lst (MY.map .str))) (some m.prog) (some (RW m)) (some (AF m)) (some (.ref 0)) y6 (some (.lst (ag.map toldP))) none none none (qO cs) ag [] none (by rw[fj];exact T.nd) (λt ht=>let ⟨f,e,_⟩:=T.ok t ht;⟨f,e⟩) (by rw[fj];lia)
 rw[fj]at kl;obtain⟨z6,ll⟩:=BU 19 ok (by decide) Cm T (y0 ns) (.lst (MY.map .str)) m.prog (.lst (ag.map toldP)) y8 none none none Av cs y6 λn hn=>hn
 obtain⟨v6,v10,v11,v12,fl⟩:=wb 19 ok (by decide) Cm T (y0 ns) (.lst (MY.map .str)) m.prog (.lst (ag.map toldP)) y8 ag z6 none none none λt ht=>ht
 have bg:=QF 19 (by decide) ok (H:=[qO cs,mv ag]) (ag:=ag) rfl λf hf=>T.fst f (iB _ hf)
 have nP:=Gy ok;have ff:∀p∈ag.map toldP,∀ρ h,Ek (uD (gM (bnd Q0 (bF 0 1 (run txt 20 "_law_is_fact"))))) ⟨none::some p::ρ,h⟩ false:=λp hp ρ h=>by
  obtain⟨t,ht,rfl⟩:=aF.mp hp;obtain⟨f,e,_⟩:=T.ok t ht;obtain⟨g,d⟩:=t;have e:g=kE f:=e;subst e;exact nB (tB (b:=true) (cY (as:=[tdE f d]) (cA rfl rfl) rfl (by simp[ah,noRef,tdE]) (EE 18 f d)))
 have ln:∀H,gH H [.lst (ag.map toldP)]=some (iN ag.length):=λH=>by
  show some (PV.int ((ag.map toldP).length:Nat))=_;rw[ak];rfl
 have lk:gH [qO cs,mv ag] [.ref 1]=some (iN ag.length):=by
  show some (PV.int ((ag.map (·.1)).length:Nat))=_;rw[ak];rfl
 have ix1:∀H,bW H m.prog (.int 1)=some m.F1:=EA
 have ix3:∀H,bW H m.F1 (.int 3)=some (.ay (m.LT.map bI)):=λ_=>rfl
 have hft:(ag.map toldP).length<=5000:=by rw[ak];exact uj
 obtain⟨F1,hF1⟩:=nw m.F1;obtain⟨LT,hLT⟩:=nw (PV.ay (m.LT.map bI));obtain⟨P,hP⟩:=nw m.prog;obtain⟨FT,hFT⟩:=nw (ag.map toldP);obtain⟨S,hS⟩:=nw (y0 ns);have hp:Gives (run txt 20 "_law_program" [S,.int 16,.lst ((MY++aaD).map .str)] []) P:=by rw[hS,hP];exact hp
 have ha:Gives (run txt 20 "acts" [m.prog,.int 1] []) (RW m):=ha;have hn:Gives (run txt 20 "nexts" [m.prog,.int 1] []) (AF m):=hn;rw[<-hF1]at ix1 ix3;rw[<-hLT]at ix3 bg;rw[<-hFT]at hh kl ll fl ff ln hft;rw[<-hP]at ha hn JZ hh nP cl kl ll fl ix1;rw[<-hS]at cl kl ll fl ⊢
 generalize RW m=R at ha cl kl ll fl
 generalize AF m=A at hn cl kl ll fl
 have cq:∀x6,Ek (dh false [none,none] (ik (rd 7)) (k8 (aR 1) (uD (gM (bnd Q0 (bF 0 1 (run txt 20 "_law_is_fact"))))) (rd 1))) (Je S (.lst (MY.map .str)) P R A (.lst FT) x6 none none none none none [qO cs]) (.lst (FT.filterMap λ_=>none)):=λx6=>cQ (sV (p:=.lst FT) rfl rfl) (by lia) λp hp=>Pt (sH:=[none,some p]) (h1:=[qO cs]) rfl (ff p hp [] _)
 have e0:FT.filterMap (λ_=>(none:Option PV))=[]:=by simp
 rw[e0]at cq;have e:run txt 21 "law" [S] []=some (.ok (.bl true),[qO cs,mv ag]):=by
  rw[Pz];refine jT (DU:=[some S,some (.lst (MY.map .str)),some P,some R,some A,some (.ref 0),v6,some (.lst FT),y8,some (.ref 1),v10,v11,v12]) ?_;refine sq rfl ?_;refine sq (aS (cY (cA rfl (cA rfl (cA (b2 rfl rfl (by rw[cG];exact aL (by simp))) rfl))) rfl rfl hp) rfl) ?_
  refine sq (aS (cY (cA rfl (cA rfl rfl)) rfl rfl ha) rfl) ?_;refine sq (aS (cY (cA rfl (cA rfl rfl)) rfl rfl hn) rfl) ?_;refine sq rfl ?_;refine sq (fS (sV (cY (cA rfl (cA rfl rfl)) rfl (by simp[ah,nP,noRef]) JZ) rfl) cl) ?_
  refine sq (aS (cY (cA rfl (cA rfl rfl)) rfl (by simp[ah,nP,noRef]) hh) rfl) ?_
  refine sq (iF (iF (s1:=Je S (.lst (MY.map .str)) P R A (.lst FT) y6 none none none none none [qO cs]) (nB (tB (b:=true) rfl)) (bT (b:=false) (b2 (cq y6) rfl rfl))) rfl) ?_;refine sq (s1:=Je S (.lst (MY.map .str)) P R A (.lst FT) y6 none (some (.ref 1)) none none none [qO cs,mv []]) rfl ?_;refine sq (fS (sV (p:=.lst FT) rfl rfl) kl) ?_;refine sq (iF (iF (bT (b:=false) (b2 (bV (cA rfl rfl) lk) (bV (cA rfl rfl) (ln _)) ?_)) (nB (tB (b:=true) (ZX (as:=[LT,.ref 1]) (cA (b2 (b2 rfl rfl (ix1 _)) rfl (ix3 _)) (cA rfl rfl)) rfl ?_ bg)))) rfl) ?_
  ·show some (PV.bl (!((ag.length:Int)==(ag.length:Int))))=_;simp
  ·simp[ah,noRef]
  refine sq (fD (n:=0) (s1:=Je S (.lst (MY.map .str)) P R A (.lst FT) y6 y8 (some (.ref 1)) none none none [qO cs,mv ag]) rfl rfl (by
   rw[show lz (cs.map fun(n:Nat)=>[(.inl (n:Int):bB)])=cs.map iN by unfold lz;rw[b6];rfl]
   exact ll) (show 0<[Av,mv ag].length by simp)) ?_
  exact sq (fS (sV (p:=.lst FT) rfl rfl) fl) (rS rfl)
 exact⟨_,e⟩
end c5
open PySem PySem.W PyProof.Rows PySem.Calls
theorem PySem.Challenge.cw_lendrule_k21_all_that_is_empty_is_told_holds : PySem.Challenge.rw_lendrule_k21_all_that_is_empty_is_told.Holds := by
 exact c5.fin λd h1 h2=>L2.U.LQ (P:=c5.txt) (N:=21) (st:=c5.Z2) (x:="_law_script") (l:=PySem.Challenge.rw_lendrule_k21_all_that_is_empty_is_told) (by kernel_rfl) (by kernel_rfl) rfl h1 h2 ⟨rfl,by decide,by decide⟩ (by kernel_rfl) (λw h Y=>Y) c5.MZ
end
