import PyProof.Rows.All
import KE.KSortTup
import KE.KDictOf
import KE.KNestM
import KE.KItemsList
import KE.KIsAll
import KE.KLam
import KE.KRevIter
import KE.KSortedM
import PyProof.StrWalks
import PyProof.SetKind
import PyProof.AttrMissHeap
import PyProof.DictUpdate
import KE.KUnpack
import PySem.Challenge.RW_lendrule_k16_right_programs
set_option maxHeartbeats 0
set_option Elab.async false
set_option linter.all false
set_option maxRecDepth 100000
noncomputable section
section
open PySem PySem.Spec PyProof.Rows
def BD:=@List.findIdx?_eq_some_iff_getElem
def BE:=@List.eraseIdx_eq_take_drop_succ
def j8:=@PyProof.Rows.slot_tuple_getitem
def BF:=@PyProof.Rows.callWith_builtin1
def gI:=@List.eq_nil_of_length_eq_zero
def BG:=@PySem.F.slot_dict_setdefault
def BH:=@F.args_tuple_iterator_next_1
def BI:=@F.entry_tuple_iterator_next
def dD:=@PyProof.Rows.callWith_type1
def qH:=@F.slot_tuple_iterator_next
def BJ:=@List.getD_eq_getElem?_getD
def BK:=@List.getElem?_append_right
def BL:=@Calls.Name_function_global
def BM:=@PySem.F.args_object_init_3
def l9:=@Array.getElem?_eq_getElem
def cw:=@List.getElem?_eq_some_iff
def ma:=@List.getElem?_append_left
def eF:=@List.getElem?_eq_none_iff
def vA:=@F.slot_tuple_getattribute
def vB:=@F.slot_list_getattribute
def qI:=@List.filterMap_cons_some
def vC:=@PySem.F.args_tuple_add_2
def gJ:=@AutoSeq1.wpAny_loadPart'
def bF:=@List.getElem?_eq_getElem
def qJ:=@List.filterMap_cons_none
def vD:=@PySem.F.args_tuple_mul_2
def vE:=@PySem.F.entry_tuple_mul
def vF:=@List.filter_cons_of_neg
def d0:=@wpAny_callSpecial?_slot
def vG:=@F.plain_set_update_loop
def me:=@PySem.F.plainAttrs_list
def vH:=@List.filter_cons_of_pos
def vI:=@PySem.F.plainAttrs_dict
def vJ:=@PySem.F.entry_tuple_add
def vK:=@PySem.F.slot_tuple_add
def j9:=@List.take_of_length_le
def qK:=@List.getElem?_set_self
def ax:=@Heap.get?_push_of_some
def fD:=@Option.map_eq_some_iff
def vL:=@PySem.F.slot_tuple_mul
def gK:=@Heap.get?_update_other
def fY:=@List.length_pos_of_mem
def iJ:=@Array.getElem?_eq_none
def qL:=@List.mem_iff_getElem?
def qM:=@builtinLookup_eq_fast
def gL:=@Heap.get?_update_self
def vM:=@Array.getElem?_toList
def dE:=@List.mem_append_right
def mh:=@List.getElem?_eq_none
def kc:=@List.getElem?_toArray
def vN:=@wpAny_notOrdered_dict
def mi:=@List.mem_append_left
def bW:=@List.mem_cons_of_mem
def vO:=@wpAny_updateSeq_pair
def mj:=@List.mem_of_getElem?
def vP:=@Obj.data_mapDictKeys
def iK:=@List.getElem?_set_ne
def iL:=@Around.under_plainId
def qN:=@List.getElem?_of_mem
def mm:=@Bool.and_eq_true_iff
def mn:=@List.mem_map_of_mem
def gM:=@beq_eq_false_iff_ne
def fZ:=@List.replicate_succ
def kd:=@Array.length_toList
def aU:=@Heap.get?_push_size
def vQ:=@Heap.SameBut.update
def vR:=@List.getElem?_range
def qO:=@F.plain_extend_loop
def dF:=@PySem.mem_of_lookup
def vS:=@List.filterMap_cons
def b6:=@List.mem_singleton
def dt:=@Bool.false_eq_true
def gN:=@wpAny_Call_Name_kw
def iM:=@wpAny_setField_rec
def vT:=@wpAny_pyIter_tuple
def bG:=@Nat.lt_of_lt_of_le
def mq:=@Nat.lt_of_le_of_lt
def mr:=@tupleKind_room_in1
def cG:=@List.length_append
def du:=@Bool.false_ne_true
def cb:=@List.mem_cons_self
def mv:=@List.mem_filterMap
def f7:=@Int.emod_lt_of_pos
def bK:=@List.size_toArray
def kf:=@F.args_zip_next_1
def qP:=@List.reverse_cons
def mw:=@List.append_assoc
def vU:=@wpAny_dictEntries
def mx:=@List.take_sublist
def bu:=@List.getElem?_map
def kh:=@wpAny_pyIter_list
def vV:=@List.any_eq_false
def fE:=@List.length_range
def vW:=@List.getElem?_inj
def d6:=@of_decide_eq_true
def vX:=@Bool.not_eq_true'
def iN:=@wpAny_newObj_type
def f9:=@Function.comp_def
def ki:=@Int.toNat_natCast
def iO:=@List.map_inj_left
def iP:=@List.flatten_cons
def vY:=@List.nodup_append
def gO:=@wpAny_truthy_bool
def iQ:=@decide_eq_true_eq
def iR:=@beq_self_eq_true
def qQ:=@Heap.size_update
def qR:=@List.take_length
def my:=@Option.bind_some
def d7:=@wpAny_call_entry
def vZ:=@wpAny_pyIter_zip
def bX:=@List.length_cons
def mz:=@Around.in1_units
def v3:=@Heap.IsList.push
def v5:=@Nat.le_of_not_lt
def v7:=@List.any_eq_true
def v9:=@noFill_tuple_add
def qS:=@List.length_drop
def kj:=@Nat.lt_succ_self
def km:=@List.length_take
def qT:=@wpAny_isInstance
def cx:=@List.not_mem_nil
def kn:=@F.entry_zip_next
def fF:=@List.lookup_cons
def aC:=@Bool.and_eq_true
def wa:=@List.mem_flatMap
def mB:=@List.isEmpty_map
def dG:=@List.all_eq_true
def wb:=@Option.getD_none
def wc:=@List.getElem_mem
def wd:=@Nat.le_add_right
def we:=@List.isEmpty_iff
def eG:=@Int.emod_nonneg
def qU:=@List.length_nil
def qV:=@List.cons.injEq
def eI:=@List.append_nil
def cH:=@List.mem_filter
def iS:=@wpAny_passesOwn
def wj:=@List.range_succ
def d8:=@F.slot_zip_next
def eJ:=@List.nil_append
def mC:=@List.forIn_cons
def ah:=@List.length_map
def eL:=@List.nodup_cons
def qW:=@List.length_set
def mD:=@wpAny_updateSeq
def wm:=@Heap.DictOf.new
def mE:=@List.length_zip
def mF:=@List.find?_cons
def mG:=@List.foldl_cons
def bz:=@Option.some.inj
def wo:=@Nat.min_eq_left
def qX:=@List.of_mem_zip
def bf:=@decide_eq_false
def dH:=@List.mem_append
def mH:=@wpAny_ite_false
def bO:=@List.map_append
def mI:=@Bool.eq_iff_iff
def qY:=@wpAny_execs_nil
def wq:=@Option.map_some
def gP:=@codeAny_builtin
def qZ:=@typeLookup_type
def aW:=@decide_eq_true
def q8:=@isSubtype_stop
def dI:=@List.mem_range
def q9:=@Nat.mul_le_mul
def eM:=@wpAny_seqItems
def cy:=@Heap.size_push
def rf:=@List.forIn_nil
def rg:=@List.nodup_nil
def fG:=@List.all_cons
def iT:=@wpAny_attempt
def dg:=@Nat.lt_irrefl
def ko:=@List.any_cons
def iU:=@Prod.mk.injEq
def cz:=@wpAny_holding
def gQ:=@Paired.length
def kq:=@Bool.true_and
def iV:=@plainId_quiet
def rh:=@wpAny_standAt
def rj:=@wpAny_onRaise
def aY:=@List.mem_cons
def aA:=@List.map_cons
def rm:=@Nat.le_of_lt
def gR:=@Nat.le_of_eq
def gf:=@Nat.lt_trans
def aL:=@Nat.le_trans
def kr:=@Nat.ne_of_gt
def dv:=@List.map_map
def aJ:=@Nat.ne_of_lt
def dJ:=@List.mem_map
def az:=@Heap.lt_size
def iW:=@wpAny_typeOf
def ku:=@codeAny_mono
def bH:=@List.map_nil
def kx:=@wpAny_letGo
def eN:=@Nat.zero_le
def aq:=@Nat.le_refl
def iX:=@sizeLine_eq
def bR:=@wpAny_field
def gS:=@wpAny_rule
def af:=@wpAny_bind
def mJ:=@strKind_is
def ag:=@wpAny_pure
def dh:=@call_meets
def mK:=@typeIs_int
def mL:=@wpAny_mono
def aE:=@eq_of_beq
def cA:=@or_false
def d9:=@congrArg
def cB:=@if_false
def kz:=@tail_any
def ee:=@if_true
def bA:=@Ne.symm
end
namespace WW
end WW
section
namespace L2
open PySem PySem.Spec PyProof.Rows
abbrev b8:=Sum Int Str
inductive V where
 | aV | bl (b:Bool) | int (i:Int) | str (x:Str) | Nn (b:Array UInt8) | Rq (b:UInt64) | ref (a:Addr) | ty (n:String)
 deriving DecidableEq
def RelV:V->Value->Prop
 | .aV,u=>u=Value.none
 | .bl b,u=>u=Value.bool b
 | .int i,u=>∃t,u=Value.int i t
 | .str x,u=>∃t,u=Value.str x t
 | .Nn b,u=>∃t,u=Value.bytes b t
 | .Rq b,u=>∃t,u=Value.float b t
 | .ref a,u=>u=Value.ref a
 | .ty n,u=>u=Value.type n
abbrev Vals:List V->List Value->Prop:=Paired RelV
def kV:b8->V
 | .inl i=>.int i
 | .inr x=>.str x
inductive HO where
 /-- a list -/
 | lst (xs:List V)
 /-- a tuple (never Rt) -/
 | ak (xs:List V)
 /-- a dict IH keys Sj ints and NO;one IH keys Sj tuples of ints and NO (II empty one is WX) -/
 | dK (kvs:List (b8×V)) | dT (xs:List (List b8×Addr×Value))
 /-- a set of ints: ai Ru,ai size -/
 | set (S:Int->Bool) (n:Nat)
 /-- an instance of II class at C,ai dict at dx,ai JK -/
 | ins (C dx:Addr) (fs:List (Str×V))
 /-- II dict of II instance at x -/
 | own (x:Addr)
 /-- II dict of an Np -/
 | xd (fs:List (Str×V))
 /-- a bound method,f of x -/
 | Rv (f x:Addr)
 /-- a range BN lo,lo+1,.. below hi -/
 | Rx (lo hi:Int)
 /-- a NP WY is VE to II BN (II Sk;a dict while a loop VF it): WZ,never written while it is so -/
 | tx (o:Obj) (u:HO)
 /-- a code NQ table -/
 | jn (q:Str)
 /-- any other NP,by what is true of ai one BN (a def of VG own: W0 a S n:=HO.ext λh=>..) -/
 | ext (φ:Heap->Prop)
abbrev Hp:=Addr->Option HO
def Rd(H:Hp)(a:Addr)(u:HO):Prop:=H a=some u\/∃o,H a=some (.tx o u)
def cJ:List Str:=["arrivals","empties","needs","held"]
def ek(K:W.Frag)(H:Hp)(a:Addr)(xs:List V):Prop :=
 Rd H a (.ak xs) \/
  ∃(o:Obj) (ai:Array Value) (n:Nat),K.lookup a=some o/\o.cls=.type "tuple"/\(o.data=.seq ai n/\o.dict=none)/\ai.size<=sizeLine/\Vals xs ai.toList
def fJ(K:W.Frag)(H:Hp)(a:Addr)(xs:List V):Prop :=
 Rd H a (.lst xs)\/∃(ai:List Value) (n:Nat),K.lookup a=some {cls:=.type "list",data:=.seq ai.toArray n}/\ai.length<=sizeLine/\Vals xs ai
structure zz (K:W.Frag) (C:Addr):Prop where
 pg:W.plainGet K C Str.empty=true
 hd:W.hasDictIn K C=true
 po:W.plainOver K C=true
 sa:W.findIn K (.ref C) "__setattr__"=some (some (.builtin "object.__setattr__"))
def gg(K:W.Frag)(C:Addr)(f:Str):Prop:=W.findIn K (.ref C) f=some none
section
variable {X:Cx} {CX:BO} {k:Nat} {f C:Addr} {fd:FuncData} {ps:List Str} {sp:Sp} {IJ:List V} {ds:List Value} {E:XK} {x m:Str} {p pos ju:Pos} {e o:Expr} {es:List Expr} {ta:TE} {t:TA}
structure Mk (K:W.Frag) (C f:Addr):Prop where
 makes:W.makesIn K C=true
 init:W.findIn K (.ref C) "__init__"=some (some (.ref f))
 fn:W.isFn K (.ref f)=true
 kp:W.keepIn K (.ref C)=true
end
structure cQ (N P:List Str) (sc:Scope):Prop where
 kind:sc.kind=.function
 co:sc.isCoroutine=false
 gen:sc.isGenerator=false
 nd:N.Nodup
 pre:N.take P.length=P
 par:∀x∈P,sc.names.lookup x=some .local\/sc.names.lookup x=some .cell
 nofree:∀y∈sc.names,y.2≠.free
def fw(s:Stmt):Arguments:=match s with
 | .FunctionDef _ a _ _ _ _ _ _ _ _=>a
 | _=>{posonlyargs:=[],args:=[],vararg:=none,kwonlyargs:=[],kw_defaults:=[],kwarg:=none,defaults:=[]}
def cR(s:Stmt):List Stmt:=match s with
 | .FunctionDef _ _ b _ _ _ _ _ _ _=>b
 | _=>[]
def ay(s:Stmt):Scope:=match s with
 | .FunctionDef _ _ _ _ _ _ sc _ _ _=>sc
 | _=>{kind:=.function,names:=[],isGenerator:=false,isCoroutine:=false}
structure zA (K:W.Frag) (x qual:Str) (st:Stmt) (f:Addr) (fd:FuncData):Prop where
 ex:∃(oc:Value) (od:Option Addr) (kV doc pm:Value) (an:Option Addr) (dQ ct:Value) (vw:Array (Option Value)),
  fd=W.fnOf x qual (fw st) (cR st) (ay st) .none kV doc pm an dQ ct/\K.lookup f=some ⟨oc,od,.func fd,vw⟩/\W.codeIn K dQ qual=true
 kp:W.keepIn K (.ref f)=true
section
variable {P:Program} {w:World} {K:W.Frag} {mg:Str->Option Value} {base:Heap}
def BP{st:Stmt}{oc:Value}{od an:Option Addr}{vw:Array (Option Value)}{kV doc pm dQ ct:Value}(l:K.lookup f=some ⟨oc,od,.func (W.fnOf x qual (fw st) (cR st) (ay st) .none kV doc pm an dQ ct),vw⟩)
  (c:W.codeIn K dQ qual=true) (k:W.keepIn K (.ref f)=true):zA K x qual st f (W.fnOf x qual (fw st) (cR st) (ay st) .none kV doc pm an dQ ct):=⟨⟨oc,od,kV,doc,pm,an,dQ,ct,vw,rfl,l,c⟩,k⟩
end
section
variable {X:Cx} {ae:List (Addr×Obj)} {σ:St} {H:Hp} {s:Shared} {a b:Addr} {k:List b8} {v:V} {r:Value} {A:Around} {E:Value->Shared->Prop} {xs:List (List b8×Addr×Value)}
def dM(K:W.Frag)(H:Hp)(xs:List (List b8×Addr×Value)):Prop:=∀x∈xs,ek K H x.2.1 (x.1.map kV)
end
end L2
namespace L2.U
open PySem PySem.Spec PyProof.Rows
inductive Kd where
 | ak | lst | ins (C:Str) (ns:List Str) | dZ (t:Bool) (ks:List (List b8))
inductive PV where
 | aV | bl (b:Bool) | int (i:Int) | str (x:Str) | ref (n:Nat) | fn (x:Str) | nd (k:Kd) (ps:List PV)
abbrev PV.ak (ps:List PV):PV:=.nd .ak ps
structure Fz where
 F:Hp
 μ:List Addr
def ClsAt(K:W.Frag)(C:Str)(cls:Value):Prop:=W.nsIn K mainGlobals C=some (some cls)
def iY(K:W.Frag)(F H:Hp)(a:Addr)(x:Bool):Kd->List V->Prop
 | .ak,vs=>x=false/\ek K H a vs
 | .lst,vs=>if x=true then H a=some (.lst vs)else fJ K H a vs
 | .ins C ns,vs=>∃Ca dx fs,ClsAt K C (.ref Ca)/\zz K Ca/\(∀f∈ns,gg K Ca f)/\H a=some (.ins Ca dx fs)/\fs.map (·.1)=ns/\fs.map (·.2)=vs
 | .dZ false ks,vs=>∃kvs:List (b8×V),H a=some (.dK kvs)/\kvs.map (λy=>[y.1])=ks/\kvs.map (·.2)=vs
 | .dZ true ks,vs=>∃xs,H a=some (.dT xs)/\dM K F xs/\xs.map (·.1)=ks/\Vals vs (xs.map (·.2.2))
mutual
def aS(K:W.Frag)(F:Fz):PV->V->Prop
 | .aV,v=>v=.aV
 | .bl b,v=>v=.bl b
 | .int i,v=>v=.int i
 | .str x,v=>v=.str x
 | .ref n,v=>∃a,F.μ[n]?=some a/\v=.ref a
 | .fn x,v=>∃a,v=.ref a/\W.nsIn K mainGlobals x=some (some (.ref a))
 | .nd k ps,v=>∃a vs,v=.ref a/\iY K F.F F.F a false k vs/\ao K F ps vs
def ao(K:W.Frag)(F:Fz):List PV->List V->Prop
 | [],vs=>vs=[]
 | p::ps,vs=>∃v r,vs=v::r/\aS K F p v/\ao K F ps r
end
section
variable {K:W.Frag} {F F':Fz}
def ao.nil:ao K F [] []:=by simp[ao]
def ao.cons(h:aS K F p v)(t:ao K F ps vs):ao K F (p::ps) (v::vs):=by
 simp only[ao];exact⟨v,vs,rfl,h,t⟩
def bZ:aS K F .aV v↔v=.aV:=by simp only[aS]
def aN:aS K F (.bl b) v↔v=.bl b:=by simp only[aS]
def au:aS K F (.int i) v↔v=.int i:=by simp only[aS]
def aX:aS K F (.str i) v↔v=.str i:=by simp only[aS]
def gh:aS K F (.nd k ps) v↔∃a vs,v=.ref a/\iY K F.F F.F a false k vs/\ao K F ps vs:=by simp only[aS]
def aZ:aS K F (.ak ps) v↔∃a vs,v=.ref a/\ek K F.F a vs/\ao K F ps vs :=
 gh.trans ⟨(by rintro⟨a,vs,h1,h2,h3⟩;exact⟨a,vs,h1,h2.2,h3⟩),(by rintro⟨a,vs,h1,h2,h3⟩;exact⟨a,vs,h1,⟨rfl,h2⟩,h3⟩)⟩
end
structure Pg where
 defs:List (Str×Stmt)
 cons:List (Str×PV):=[]
 bY:List Str:=[]
 tabs:List (Str×List (Str×Str)):=[]
 cK:List (Str×List (Str×PV)):=[]
 cls:List (Str×Stmt):=[]
 flds:List Str:=[]
 oE:List Str:=[]
 NR:List (Str×List (Str×Nat)):=[]
def params(st:Stmt):List Str:=(fw st).args.map λa=>a.arg
def NS:NameKind->Bool
 | .local=>true
 | .cell=>true
 | _=>false
def bL(st:Stmt):List Str:=params st++((ay st).names.filter λy=>NS y.2&&!(params st).contains y.1).map λy=>y.1
structure BQ (K:W.Frag) (x:Str) (st:Stmt):Prop where
 ex:∃f fd,W.nsIn K mainGlobals x=some (some (.ref f))/\zA K x x st f fd/\∀us:List Value,us.length=(params st).length->bindArgs fd ⟨us,[]⟩=pure ((params st).zip us)
 sc:cQ (bL st) (params st) (ay st)
def zB(K:W.Frag)(P:Params)(T:Str)(rows:List (Str×Str)):Prop :=
 ∃a es n,W.nsIn K mainGlobals T=some (some (.ref a))/\K.lookup a=some ⟨.type "dict",none,.dict es n,#[]⟩/\W.KeysLit P es.toList/\∀d∈rows,∃f,W.nsIn K a d.1=some (some (.ref f))/\W.nsIn K mainGlobals d.2=some (some (.ref f))
def Sl{K:W.Frag}{P:Params}{T:Str}{rows:List (Str×Str)}{a:Addr}{es:Array DictEntry}{n:Nat}(h1:W.nsIn K mainGlobals T=some (some (.ref a)))(h2:K.lookup a=some ⟨.type "dict",none,.dict es n,#[]⟩)(h3:W.KeysLit P es.toList)
  (h4:∀d∈rows,∃f,W.nsIn K a d.1=some (some (.ref f))/\W.nsIn K mainGlobals d.2=some (some (.ref f))):zB K P T rows:=⟨a,es,n,h1,h2,h3,h4⟩
def IK:PV->Value->Bool
 | .int i,.int j _=>i==j
 | .str x,.str y _=>x==y
 | .bl a,.bool b=>a==b
 | .aV,.none=>true
 | _,_=>false
def rn:List PV->List Value->Bool
 | [],[]=>true
 | p::r,u::q=>IK p u&&rn r q
 | _,_=>false
def JL{K:W.Frag}{p:PV}{u:Value}(h:IK p u=true):∃v,RelV v u/\∀F,aS K F p v:=by
 cases p<;>cases u<;>first | exact absurd h du | skip
 ·exact⟨.aV,rfl,λF=>bZ.mpr rfl⟩
 ·cases aE h;exact⟨.bl _,rfl,λF=>aN.mpr rfl⟩
 ·cases aE h;exact⟨.int _,⟨_,rfl⟩,λF=>au.mpr rfl⟩
 ·cases aE h;exact⟨.str _,⟨_,rfl⟩,λF=>aX.mpr rfl⟩
def Ft{K:W.Frag}{ps:List PV}{us:List Value}(h:rn ps us=true):∃vs,Vals vs us/\∀F,ao K F ps vs:=by
 induction ps generalizing us with
 | nil=>cases us;exact⟨[],.nil,λ_=>.nil⟩;cases h
 | cons p r ih =>
  cases us with
  | nil=>cases h
  | cons u q =>
   have h:=mm.mp h;obtain⟨v,a,b⟩:=JL (K:=K) h.1;obtain⟨vs,h1,h2⟩:=ih h.2;exact⟨v::vs,.cons a h1,λF=>.cons (b F) (h2 F)⟩
def Fu{K:W.Frag}{g:Addr}{x:Str}{a:Addr}{ps:List PV}{us:List Value}{n:Nat}{sl:Array (Option Value)}(h1:W.nsIn K g x=some (some (.ref a)))(h2:K.lookup a=some ⟨.type "tuple",none,.seq us.toArray n,sl⟩)(h3:rn ps us=true)(h4:us.length<=100) :
  ∃u v,W.nsIn K g x=some (some u)/\RelV v u/\∀F,aS K F (.ak ps) v:=by
 obtain⟨vs,r,b⟩:=Ft h3;exact⟨_,.ref a,h1,rfl,λF=>aZ.mpr ⟨a,vs,rfl,.inr ⟨_,us.toArray,n,h2,rfl,⟨rfl,rfl⟩,by rw[bK];exact aL h4 (by decide),by grind⟩,b F⟩⟩
def Fv{K:W.Frag}{g:Addr}{x:Str}{y:Str}{t:Tok}(a:W.nsIn K g x=some (some (.str y t))):∃u v,W.nsIn K g x=some (some u)/\RelV v u/\∀F,aS K F (.str y) v:=⟨_,.str y,a,⟨t,rfl⟩,λF=>aX.mpr rfl⟩
def Fw{K:W.Frag}{g:Addr}{x:Str}{i:Int}{t:Tok}(a:W.nsIn K g x=some (some (.int i t))):∃u v,W.nsIn K g x=some (some u)/\RelV v u/\∀F,aS K F (.int i) v:=⟨_,.int i,a,⟨t,rfl⟩,λF=>au.mpr rfl⟩
def tD(K:W.Frag)(P:Params)(T:Str)(rows:List (Str×PV)):Prop :=
 ∃a es n,(a==sysModules)=false/\W.nsIn K mainGlobals T=some (some (.ref a))/\K.lookup a=some ⟨.type "dict",none,.dict es n,#[]⟩/\W.KeysLit P es.toList/\∀d∈rows,∃u v,W.nsIn K a d.1=some (some u)/\RelV v u/\∀F,aS K F d.2 v
def JM(K:W.Frag)(C:Str)(st:Stmt)(flds:List Str):Prop:=∃Ca f fd,W.nsIn K mainGlobals C=some (some (.ref Ca))/\Mk K Ca f/\zz K Ca/\(∀g∈flds,gg K Ca g)/\zA K "__init__" (C++".__init__") st f fd/\(∀us:List Value,us.length=(params st).length->bindArgs fd ⟨us,[]⟩=pure ((params st).zip us))/\cQ (bL st) (params st) (ay st)
def JN(K:W.Frag)(x:Str):Prop:=x∈cJ/\∃c T,W.tabIn K x=some (c,T)/\W.codeHdIn K c T=true
def BR(K:W.Frag):Prop:=∃bm o,W.nsIn K mainGlobals "__builtins__"=some (some (.ref bm))/\bm≠builtinsNs/\bm≠mainGlobals/\K.lookup bm=some o/\o.cls=.type "module"/\o.dict=some builtinsNs/\o.data=.plain
structure jv (K:W.Frag) (h:Heap):Prop where
 at_:∀x∈cJ,∀c T,W.tabIn K x=some (c,T)->W.codeHdIn K c T=true/\h.get? T=some {cls:=.none,data:=.fields #[]}/\K.lookup T=none
 nd:(cJ.filterMap λx=>(W.tabIn K x).map (·.2)).Nodup
def jv.keeps{K:W.Frag}{h h':Heap}(t:jv K h)(k:∀b o,h.get? b=some o->h'.get? b=some o):jv K h':=⟨λx hx c T e=>let ⟨h1,h2,h3⟩:=t.at_ x hx c T e;⟨h1,k _ _ h2,h3⟩,t.nd⟩
structure BS (P:Pg) (w:World) (K:W.Frag):Prop where
 hd:∀d∈P.defs,BQ K d.1 d.2
 hc:∀d∈P.cons,∃u v,W.nsIn K mainGlobals d.1=some (some u)/\RelV v u/\∀F,aS K F d.2 v
 hb:∀x∈P.bY,W.nsIn K mainGlobals x=some none
 ht:∀d∈P.tabs,zB K w.params d.1 d.2
 hcl:∀d∈P.cls,JM K d.1 d.2 P.flds
 hct:∀d∈P.cK,tD K w.params d.1 d.2
 VH:∀x∈P.oE,JN K x
 hbm:P.oE≠[]->BR K
def tF:Value->List Addr
 | .ref a=>[a]
 | _=>[]
def pf:Option Obj->List Addr
 | some ⟨_,_,.dict es _,_⟩=>es.toList.flatMap λe=>tF e.val
 | some ⟨_,_,.func fd,_⟩=>tF fd.code
 | some ⟨_,_,.cls cd,_⟩=>cd.ns::cd.mro.flatMap tF
 | _=>[]
def zC:Obj->Bool
 | ⟨.none,none,.fields vs,sl⟩=>vs.isEmpty&&sl.isEmpty
 | _=>false
def fragOf(h:Heap):List Addr->W.Frag
 | []=>[]
 | a::r=>match h.get? a with
  | some o=>if zC o=true then fragOf h r else(a,o)::fragOf h r
  | none=>fragOf h r
theorem eu(h:Heap):∀(as:List Addr) (b:Addr) (o:Obj),(fragOf h as).lookup b=some o->h.get? b=some o/\zC o=false
 | [],_,_,e=>nomatch e
 | a::r,b,o,e=>by
  unfold fragOf at e;split at e
  ·rename_i o' ho;split at e
   ·exact eu h r b o e
   ·rename_i ht;rw[fF]at e;cases z:b==a with
    | true =>
     rw[z]at e;cases e;rw[aE z];exact⟨ho,by simpa using ht⟩
    | false =>
     rw[z]at e;exact eu h r b o e
  ·exact eu h r b o e
theorem zD(h:Heap)(as:List Addr):(fragOf h as).In h:=λb o e=>(eu h as b o e).1
theorem yf(h:Heap){b:Addr}{o:Obj}(h1:h.get? b=some o)(h2:zC o=false):∀as:List Addr,b∈as->(fragOf h as).lookup b=some o
 | a::r,hb=>by
  unfold fragOf;by_cases e:b=a
  ·subst e;rw[h1];show(if zC o=true then _ else _:W.Frag).lookup b=_
   rw[h2,if_neg du,fF,iR]
  ·have ih:=yf h h1 h2 r ((aY.mp hb).resolve_left e);split
   ·split
    ·exact ih
    ·rw[fF,gM.mpr e];exact ih
   ·exact ih
theorem kA{h:Heap}{as bs:List Addr}{b:Addr}{o:Obj}(e:(fragOf h as).lookup b=some o)(hb:b∈bs):(fragOf h bs).lookup b=some o:=yf h (eu h as b o e).1 (eu h as b o e).2 bs hb
def W2:Option Obj->List Addr
 | some ⟨_,_,.cls cd,_⟩=>[cd.ns]
 | _=>[]
def JO(h:Heap)(a:Addr):List Addr:=a::(pf (h.get? a)++(W2 (h.get? a)).flatMap λb=>(pf (h.get? b)).flatMap λc=>c::pf (h.get? c))
def dj(h:Heap):W.Frag:=fragOf h (mainGlobals::(pf (h.get? mainGlobals)).flatMap (JO h))
def Fx(K:W.Frag)(x:Str):Option FuncData:=match W.nsIn K mainGlobals x with
 | some (some (.ref f))=>(match K.lookup f with
  | some ⟨_,_,.func fd,_⟩=>(match W.codeIn K fd.code x with
   | true=>some {fd with kwdefaults:=.none,doc:=.none,pyModule:=.none,annotations:=none,code:=.none,closureTuple:=.none}
   | false=>none)
  | _=>none)
 | _=>none
def BU(h:Heap)(x:Str):Option FuncData:=match W.nsIn (fragOf h [mainGlobals]) mainGlobals x with
 | some (some (.ref f))=>(match(fragOf h [f]).lookup f with
  | some ⟨_,_,.func fd,_⟩=>(match W.codeIn (fragOf h (tF fd.code)) fd.code x with
   | true=>some {fd with kwdefaults:=.none,doc:=.none,pyModule:=.none,annotations:=none,code:=.none,closureTuple:=.none}
   | false=>none)
  | _=>none)
 | _=>none
def BV{h:Heap}{x:Str}{v:FuncData}(e:BU h x=some v):Fx (dj h) x=some v:=by
 unfold BU at e;split at e
 ·rename_i f hf;split at e
  ·rename_i oc od fd vw hl;split at e
   ·rename_i hc;have hg:W.nsIn (dj h) mainGlobals x=some (some (.ref f))/\f∈pf (h.get? mainGlobals):=by
     unfold W.nsIn at hf ⊢;split at hf
     ·rename_i gc gd es gn gs hk;have k2:(dj h).lookup mainGlobals=_:=kA hk cb;rw[k2,(eu _ _ _ _ hk).1];refine⟨hf,?_⟩;split at hf
      ·rename_i en W3;have hv:en.val=.ref f:=bz (bz hf);exact wa.mpr ⟨en,List.mem_of_find?_eq_some W3,by rw[hv];exact cb⟩
      ·split at hf<;>cases hf
     ·cases hf
    have mf:∀b∈JO h f,b∈mainGlobals::(pf (h.get? mainGlobals)).flatMap (JO h):=λb hb=>bW _ (wa.mpr ⟨f,hg.2,hb⟩)
    have k3:(dj h).lookup f=some ⟨oc,od,.func fd,vw⟩:=kA hl (mf f cb);have k4:W.codeIn (dj h) fd.code x=true:=by
     unfold W.codeIn at hc ⊢;split at hc
     ·rename_i c Bx;split at hc
      ·rename_i cc YX vs YY hk;have:(dj h).lookup c=_:=kA hk (mf c (bW _ (mi _ (by rw[(eu _ _ _ _ hl).1];show c∈tF fd.code;rw[Bx];exact cb))))
       rw[this];exact hc
      ·cases hc
     ·cases hc
    unfold Fx;rw[hg.1];dsimp only
    rw[k3];dsimp only
    rw[k4];exact e
   ·cases e
  ·cases e
 ·cases e
def BW(x:Str)(st:Stmt):FuncData:=W.fnOf x x (fw st) (cR st) (ay st) .none .none .none .none none .none .none
def Fy{K:W.Frag}{x:Str}{st:Stmt}(h:Fx K x=some (BW x st)):∃f fd,W.nsIn K mainGlobals x=some (some (.ref f))/\zA K x x st f fd:=by
 unfold Fx at h;split at h
 ·rename_i f hf;split at h
  ·rename_i oc od fd vw hl;split at h
   ·rename_i hc;have h:=bz h;obtain⟨a1,a2,a3,a4,a5,a6,a7,a8,a9,W4,W5,W6,W7,W8,W9⟩:=fd;unfold BW at h;simp only[FuncData.mk.injEq]at h;obtain⟨e1,e2,e3,e4,e5,e6,e7,e8,-,-,-,-,-,-,Sm⟩:=h;subst e1 e2 e3 e4 e5 e6 e7 e8 Sm;exact⟨f,_,hf,BP hl hc (by unfold W.keepIn;dsimp only;rw[hl])⟩
   ·cases h
  ·cases h
 ·cases h
def yg(K:W.Frag)(g:Addr)(d:Str×PV):Bool:=match W.nsIn K g d.1 with
 | some (some (.int j _))=>(match d.2 with | .int i=>i==j | _=>false)
 | some (some (.str y _))=>(match d.2 with | .str x=>x==y | _=>false)
 | some (some (.ref a))=>(match K.lookup a with
  | some ⟨.type t,none,.seq us _,_⟩=>(match d.2 with | .nd .ak ps=>(t=="tuple")&&(rn ps us.toList&&decide (us.toList.length<=100)) | _=>false)
  | _=>false)
 | _=>false
def tH{K:W.Frag}{g:Addr}{x:Str}{p:PV}(h:yg K g (x,p)=true):∃u v,W.nsIn K g x=some (some u)/\RelV v u/\∀F,aS K F p v:=by
 unfold yg at h;dsimp only at h
 split at h
 ·rename_i j t hn;split at h
  ·obtain rfl:=aE h;exact Fw hn
  ·cases h
 ·rename_i y t hn;split at h
  ·obtain rfl:=aE h;exact Fv hn
  ·cases h
 ·rename_i a hn;split at h
  ·rename_i t dd us n sl hl;split at h
   ·rw[aC,aC]at h;obtain⟨h1,h2,h3⟩:=h;obtain rfl:=aE h1;obtain⟨us⟩:=us;exact Fu hn hl h2 (d6 h3)
   ·cases h
  ·cases h
 ·cases h
def BX(K:W.Frag)(x:Str):Bool:=match W.nsIn K mainGlobals x with
 | some none=>true
 | _=>false
def BY{K:W.Frag}{x:Str}(h:BX K x=true):W.nsIn K mainGlobals x=some none:=by
 unfold BX at h;split at h
 ·assumption
 ·cases h
abbrev OV:=Option (Option Value)
def yh(e:DictEntry):Option Str×Int:=(match e.key with
 | .str x _=>some x
 | _=>none,e.hash)
def BZ(K:W.Frag)(a:Addr)(d:Str×Str):Bool:=match W.nsIn K a d.1,W.nsIn K mainGlobals d.2 with
 | some (some (.ref f)),some (some (.ref g))=>f==g
 | _,_=>false
def B0(K:W.Frag)(T:Str)(rows:List (Str×Str)):Option (Value×Option Addr×Array (Option Value)×List (Option Str×Int)×Bool):=match W.nsIn K mainGlobals T with
 | some (some (.ref a))=>(match K.lookup a with
  | some ⟨c,dd,.dict es _,sl⟩=>some (c,dd,sl,es.toList.map yh,rows.all (BZ K a))
  | _=>none)
 | _=>none
def wt(P:Params)(rows:List (Str×Str)):Option (Value×Option Addr×Array (Option Value)×List (Option Str×Int)×Bool):=some (.type "dict",none,#[],rows.map (λd=>(some d.1,PyData.keyHash P d.1)),true)
theorem mM{β:Type}{P:Params}:∀{es:List DictEntry} {rows:List (Str×β)},es.map yh=rows.map (λd=>(some d.1,PyData.keyHash P d.1))->W.KeysLit P es
 | [],_,_=>trivial
 | _::_,[],h=>by cases h
 | e::es,d::rows,h=>by
  rw[aA,aA,qV]at h;obtain⟨h1,h2⟩:=h;refine⟨?_,mM h2⟩;unfold yh at h1;rw[iU]at h1;obtain⟨h3,h4⟩:=h1;split at h3
  ·grind
  ·cases h3
def B2{K:W.Frag}{a:Addr}{d:Str×Str}(h:BZ K a d=true):∃f,W.nsIn K a d.1=some (some (.ref f))/\W.nsIn K mainGlobals d.2=some (some (.ref f)):=by
 unfold BZ at h;split at h
 ·grind
 ·cases h
def B3{K:W.Frag}{P:Params}{T:Str}{rows:List (Str×Str)}(h:B0 K T rows=wt P rows):zB K P T rows:=by
 unfold B0 wt at h;split at h
 ·rename_i a hn;split at h
  ·rename_i c dd es n sl hl;have h:=bz h;simp only[iU]at h;obtain⟨rfl,rfl,rfl,h4,h5⟩:=h;exact Sl hn hl (mM h4) λd hd=>B2 (dG.mp h5 d hd)
  ·cases h
 ·cases h
abbrev FA:=Option (Value×Option Addr×Array (Option Value)×List (Option Str×Int)×Bool)
def wu(K:W.Frag)(f:Addr)(qual:Str):Option FuncData:=match K.lookup f with
 | some ⟨_,_,.func fd,_⟩=>(match W.codeIn K fd.code qual with
  | true=>some {fd with kwdefaults:=.none,doc:=.none,pyModule:=.none,annotations:=none,code:=.none,closureTuple:=.none}
  | false=>none)
 | _=>none
def B4(x qual:Str)(st:Stmt):FuncData:=W.fnOf x qual (fw st) (cR st) (ay st) .none .none .none .none none .none .none
def zE{K:W.Frag}{x qual:Str}{st:Stmt}{f:Addr}(h:wu K f qual=some (B4 x qual st)):∃fd,zA K x qual st f fd:=by
 unfold wu at h;split at h
 ·rename_i oc od fd vw hl;split at h
  ·rename_i hc;have h:=bz h;obtain⟨a1,a2,a3,a4,a5,a6,a7,a8,a9,W4,W5,W6,W7,W8,W9⟩:=fd;unfold B4 at h;simp only[FuncData.mk.injEq]at h;obtain⟨e1,e2,e3,e4,e5,e6,e7,e8,-,-,-,-,-,-,Sm⟩:=h;subst e1 e2 e3 e4 e5 e6 e7 e8 Sm;exact⟨_,BP hl hc (by unfold W.keepIn;dsimp only;rw[hl])⟩
  ·cases h
 ·cases h
abbrev JP:=Option (Bool×OV×List OV×Option FuncData)
def B5(K:W.Frag)(flds:List Str)(C:Str):JP:=match W.nsIn K mainGlobals C with
 | some (some (.ref a))=>(match W.findIn K (.ref a) "__init__" with
  | some (some (.ref f))=>some (W.makesIn K a&&(W.isFn K (.ref f)&&(W.keepIn K (.ref a)&&(W.plainGet K a Str.empty&&(W.hasDictIn K a&&W.plainOver K a)))),W.findIn K (.ref a) "__setattr__",flds.map (λg=>W.findIn K (.ref a) g),wu K f (C++".__init__"))
  | _=>none)
 | _=>none
def wx(flds:List Str)(C:Str)(st:Stmt):JP:=some (true,some (some (.builtin "object.__setattr__")),flds.map (λ_=>some none),some (B4 "__init__" (C++".__init__") st))
def rz:List Str->Bool
 | []=>true
 | x::r=>!r.contains x&&rz r
theorem ph:∀{l:List Str},rz l=true->l.Nodup
 | [],_=>rg
 | x::r,h=>by
  simp only[rz,aC,vX,List.contains_eq_mem,decide_eq_false_iff_not]at h;exact eL.mpr ⟨h.1,ph h.2⟩
def Sn:Option NameKind->Bool
 | some .local=>true
 | some .cell=>true
 | _=>false
def NT:NameKind->Bool
 | .free=>false
 | _=>true
def NU:ScopeKind->Bool
 | .function=>true
 | _=>false
def FC(st:Stmt):Bool:=NU (ay st).kind&&(!(ay st).isCoroutine&&(!(ay st).isGenerator&&(rz (bL st)&&((params st).all (λx=>Sn ((ay st).names.lookup x))&&(ay st).names.all λy=>NT y.2))))
def B6{st:Stmt}(h:FC st=true):cQ (bL st) (params st) (ay st):=by
 unfold FC at h;rw[aC,aC,aC,aC,aC]at h;obtain⟨h1,h2,h3,h4,h5,h6⟩:=h;refine⟨?_,by grind,by grind,ph h4,?_,λx hx=>?_,λy hy=>?_⟩
 ·cases z:(ay st).kind<;>rw[z]at h1<;>first | rfl | cases h1
 ·exact List.take_left
 ·have k:=dG.mp h5 x hx;cases z:(ay st).names.lookup x with
  | none=>rw[z]at k;cases k
  | some b =>
   rw[z]at k;cases b<;>first | exact .inl rfl | exact .inr rfl | cases k
 ·have k:=dG.mp h6 y hy;intro z;rw[z]at k;cases k
def yi(P:Pg):Prop:=∀(kV doc pm:Value) (an:Option Addr) (dQ ct:Value) (u:Nat->Value),
 P.defs.map (λd=>bindArgs (W.fnOf d.1 d.1 (fw d.2) (cR d.2) (ay d.2) .none kV doc pm an dQ ct) ⟨(List.range (params d.2).length).map u,[]⟩)=P.defs.map λd=>pure ((params d.2).zip ((List.range (params d.2).length).map u))
def tJ{us:List Value}{n:Nat}(h:us.length=n):(List.range n).map (λi=>us.getD i .none)=us:=by
 subst h;apply List.ext_getElem
 ·simp
 ·intro i h1 h2;simp[h2]
def JQ{K:W.Frag}{x:Str}{st:Stmt}{f:Addr}{fd:FuncData}{P:Pg}(hb:yi P)(hd:(x,st)∈P.defs)(F:zA K x x st f fd)(us:List Value)(hl:us.length=(params st).length):bindArgs fd ⟨us,[]⟩=pure ((params st).zip us):=by
 obtain⟨oc,od,kV,doc,pm,an,dQ,ct,vw,rfl,lk,Bx⟩:=F.ex;have k:=iO.mp (hb kV doc pm an dQ ct λi=>us.getD i .none) (x,st) hd
 dsimp only at k
 rw[tJ hl]at k;exact k
def FD(P:Pg):Prop:=∀(kV doc pm:Value) (an:Option Addr) (dQ ct:Value) (u:Nat->Value),
 P.cls.map (λd=>bindArgs (W.fnOf "__init__" (d.1++".__init__") (fw d.2) (cR d.2) (ay d.2) .none kV doc pm an dQ ct) ⟨(List.range (params d.2).length).map u,[]⟩)=P.cls.map λd=>pure ((params d.2).zip ((List.range (params d.2).length).map u))
def B7{K:W.Frag}{P:Pg}{C:Str}{st:Stmt}(JR:FC st=true)(hb:FD P)(hd:(C,st)∈P.cls)(h:B5 K P.flds C=wx P.flds C st):JM K C st P.flds:=by
 unfold B5 wx at h;split at h
 ·rename_i a hn;split at h
  ·rename_i f hf;have h:=bz h;simp only[iU,aC]at h;obtain⟨⟨h1,h2,h3,h4,h5,h6⟩,h7,h8,h9⟩:=h;obtain⟨fd,F⟩:=zE h9;refine⟨a,f,fd,hn,⟨h1,hf,h2,h3⟩,⟨h4,h5,h6,h7⟩,λg hg=>iO.mp h8 g hg,F,λus hl=>?_,B6 JR⟩
   obtain⟨oc,od,kV,doc,pm,an,dQ,ct,vw,rfl,lk,Bx⟩:=F.ex;have k:=iO.mp (hb kV doc pm an dQ ct λi=>us.getD i .none) (C,st) hd
   dsimp only at k
   rw[tJ hl]at k;exact k
  ·cases h
 ·cases h
def wz(K:W.Frag)(h:Heap)(x:Str):Bool:=match W.tabIn K x with
 | none=>true
 | some (c,T)=>W.codeHdIn K c T&&(match h.get? T with
  | some o=>zC o
  | _=>false)
def JS(K:W.Frag):Bool:=match W.nsIn K mainGlobals "__builtins__" with
 | some (some (.ref bm))=>!(bm==builtinsNs)&&(!(bm==mainGlobals)&&(match K.lookup bm with
  | some ⟨.type m,some d,.plain,_⟩=>(m=="module")&&(d==builtinsNs)
  | _=>false))
 | _=>false
def B8(P:Pg)(K:W.Frag)(h:Heap):Bool:=cJ.all (wz K h)&&(decide (cJ.filterMap λx=>(W.tabIn K x).map (·.2)).Nodup&&((P.oE.isEmpty || JS K)&&P.oE.all λx=>cJ.contains x&&(W.tabIn K x).isSome))
def pj{h:Heap}{x:Str}{c T:Addr}(e:wz (dj h) h x=true)(t:W.tabIn (dj h) x=some (c,T)):W.codeHdIn (dj h) c T=true/\h.get? T=some {cls:=.none,data:=.fields #[]}/\(dj h).lookup T=none:=by
 unfold wz at e;rw[t]at e;simp only[aC]at e;obtain⟨h1,h3⟩:=e;split at h3
 ·rename_i o ho;refine⟨h1,?_,?_⟩
  ·unfold zC at h3;split at h3
   ·grind
   ·cases h3
  ·cases k:(dj h).lookup T with
   | none=>rfl
   | some o' =>
    obtain⟨k1,k2⟩:=eu _ _ _ _ k;rw[ho]at k1;cases k1;rw[h3]at k2;cases k2
 ·cases h3
def FE{K:W.Frag}(e:JS K=true):BR K:=by
 unfold JS at e;split at e
 ·rename_i bm hb;simp only[aC]at e;obtain⟨h1,h2,h3⟩:=e;split at h3
  ·rename_i m d sl z;rw[aC]at h3;obtain rfl:=aE h3.1;obtain rfl:=aE h3.2;exact⟨bm,_,hb,by grind,by grind,z,rfl,rfl,rfl⟩
  ·cases h3
 ·cases e
def B9{P:Pg}{h:Heap}(e:B8 P (dj h) h=true):jv (dj h) h/\(∀x∈P.oE,JN (dj h) x)/\(P.oE≠[]->BR (dj h)):=by
 unfold B8 at e;simp only[aC]at e;obtain⟨h1,h2,h3,h4⟩:=e;have all:=dG.mp h1;refine⟨⟨λx hx c T t=>pj (all x hx) t,d6 h2⟩,λx hx=>?_,λz=>?_⟩
 ·have:=dG.mp h4 x hx;rw[aC]at this;have hm:x∈cJ:=by grind
  cases t:W.tabIn (dj h) x with
  | none=>rw[t]at this;cases this.2
  | some cT=>exact⟨hm,cT.1,cT.2,t,(pj (all x hm) t).1⟩
 ·rcases Bool.or_eq_true_iff.mp h3 with y | y
  ·grind
  ·exact FE y
def wA(K:W.Frag)(T:Str)(rows:List (Str×PV)):FA:=match W.nsIn K mainGlobals T with
 | some (some (.ref a))=>(match K.lookup a with
  | some ⟨c,dd,.dict es _,sl⟩=>some (c,dd,sl,es.toList.map yh,!(a==sysModules)&&rows.all (yg K a))
  | _=>none)
 | _=>none
def rA(P:Params)(rows:List (Str×PV)):FA:=some (.type "dict",none,#[],rows.map (λd=>(some d.1,PyData.keyHash P d.1)),true)
def zF{K:W.Frag}{P:Params}{T:Str}{rows:List (Str×PV)}(h:wA K T rows=rA P rows):tD K P T rows:=by
 unfold wA rA at h;split at h
 ·rename_i a hn;split at h
  ·rename_i c dd es n sl hl;have h:=bz h;simp only[iU]at h;obtain⟨rfl,rfl,rfl,h4,h5⟩:=h;rw[aC,vX]at h5;exact⟨a,es,n,h5.1,hn,hl,mM h4,λd hd=>tH (dG.mp h5.2 d hd)⟩
  ·cases h
 ·cases h
abbrev JT:=List (Option FuncData)×Bool×List FA×List JP×List FA
def wB(P:Pg)(K:W.Frag)(hp:Heap):JT:=(P.defs.map (λd=>BU hp d.1),P.cons.all (yg K mainGlobals)&&(P.bY.all (BX K)&&B8 P K hp),P.tabs.map (λd=>B0 K d.1 d.2),P.cls.map (λd=>B5 K P.flds d.1),P.cK.map λd=>wA K d.1 d.2)
def wC(P:Pg)(w:World):JT:=(P.defs.map (λd=>some (BW d.1 d.2)),true,P.tabs.map (λd=>wt w.params d.2),P.cls.map (λd=>wx P.flds d.1 d.2),P.cK.map λd=>rA w.params d.2)
def zG{P:Pg}{w:World}(JR:P.defs.all (λd=>FC d.2)=true)(NV:yi P)(Cc:P.cls.all (λd=>FC d.2)=true)(Cd:FD P){hp:Heap}(h:wB P (dj hp) hp=wC P w):BS P w (dj hp)/\jv (dj hp) hp:=by
 unfold wB wC at h;simp only[iU]at h;obtain⟨h1,h2,h5,h6,h7⟩:=h;rw[aC,aC]at h2;obtain⟨l1,l2,l3⟩:=B9 h2.2.2;refine⟨⟨λd hd=>?_,λd hd=>tH (dG.mp h2.1 d hd),λx hx=>BY (dG.mp h2.2.1 x hx),λd hd=>B3 (iO.mp h5 d hd),λd hd=>B7 (dG.mp Cc d hd) Cd hd (iO.mp h6 d hd),λd hd=>zF (iO.mp h7 d hd),l2,l3⟩,l1⟩
 obtain⟨f,fd,a,F⟩:=Fy (BV (iO.mp h1 d hd));exact⟨⟨f,fd,a,F,λus hl=>JQ NV hd F us hl⟩,B6 (dG.mp JR d hd)⟩
def FF(P:Pg)(JR:P.defs.all (λd=>FC d.2)=true)(NV:yi P)(Cc:P.cls.all (λd=>FC d.2)=true)(Cd:FD P):W.Hook :=
 ⟨JT,λs=>wB P (dj s.heap) s.heap,λw=>wC P w,λw h=>∃K:W.Frag,K.In h/\BS P w K/\jv K h,λw s e=>⟨_,zD _ _,zG JR NV Cc Cd e⟩,λ_ _ _ ⟨K,a,b,c⟩ k=>⟨K,a.keeps k,b,c.keeps k⟩⟩
def zH(p:Program)(row:String)(b:Bool)(N:Nat)(w:World):Option Shared:=(W.fencedOpening treeTable p w N).bind λs₀=>W.topFrom treeTable p (w.withFollow row b) N s₀
def zI{p q:Program}{loose:List Str}{Xt:Shared->Bool}{α:Type}{Yf:Shared->α}{Ya:World->α}{N:Nat}{g0:Bool}(row:String)
  (h1:∀w,(zH p row false N w).map (W.openSeen q loose (importedModules p.main.body) Xt g0)=some (W.openGood q loose)) (h2:∀w,(zH p row true N w).map (W.openSeen q loose (importedModules p.main.body) Xt g0)=some (W.openGood q loose))
  (h3:∀w,(zH p row false N w).map Yf=some (Ya (w.withFollow row false))) (h4:∀w,(zH p row true N w).map Yf=some (Ya (w.withFollow row true))):W.LeftO p q loose Xt Yf Ya N g0:=by
 refine W.LeftO.of_split row λw=>?_
 obtain⟨sA,a1,a2⟩:=fD.mp (h1 w);obtain⟨sB,b1,b2⟩:=fD.mp (h2 w);obtain⟨sC,c1,c2⟩:=fD.mp (h3 w);obtain⟨sD,d1,d2⟩:=fD.mp (h4 w);rw[a1]at c1;rw[b1]at d1;cases c1;cases d1;obtain⟨s0,f0,tA⟩:=Option.bind_eq_some_iff.mp a1;obtain⟨s1,f1,tB⟩:=Option.bind_eq_some_iff.mp b1;rw[f0]at f1;cases f1;rw[f0,wq,tA,tB,wq,wq,a2,b2,c2,d2]
end L2.U
noncomputable section
namespace L2.U
open PySem PySem.W
def topQ(p:Program)(w:World)(m:Nat)(Nq:Option Value):Nat->SharedT->Thread->Option SharedT
 | 0,_,_=>none
 | n+1,s,t=>match through t with
  | true=>some s
  | false=>match Fast.tw6613529449190102663 m Nq t with
   | false=>none
   | true=>match Fast.tw10156331382660048174 (Fast.tw11892475500146522536 Fast.tw14364793385576792824) p w s t with
    | some (s',t')=>topQ p w m Nq n s' t'
    | none=>none
theorem topQ_of{p:Program}{w:World}{m:Nat}{Nq:Option Value}:∀{n:Nat} {s r:SharedT} {t:Thread},topQ p w m Nq n s t=some r->topRun treeTable p w m Nq n s.abs t=some r.abs
 | 0,_,_,_,h=>by cases h
 | n+1,s,r,t,h=>by
  unfold topQ at h;unfold topRun;rw[<-Fast.te6613529449190102663,<-Fast.te10156331382660048174,<-Fast.te11892475500146522536,<-Fast.te14364793385576792824]at h;cases a:through t with
  | true=>rw[a]at h;cases h;rfl
  | false =>
   rw[a]at h;cases b:stepOk m Nq t with
   | false=>rw[b]at h;cases h
   | true =>
    rw[b]at h;cases c:stepT (denote treeTable) p w s t with
    | none=>rw[c]at h;cases h
    | some y=>rw[c]at h;rw[stepT_spec c];exact topQ_of h
def NW(l:List Obj):BT:=(l.foldl (fun(x:BT×Nat) o=>(x.1.ins x.2 o,x.2+1)) (.nil,0)).1
theorem FG(P:Params):absHeap (NW (boot_heap P).objs.toList) (boot_heap P).objs.size (boot_heap P).life=boot_heap P:=by kernel_rfl
theorem FH(P:Params):(boot_heap P).isNs mainGlobals=true:=by kernel_rfl
def Ce(p:Program)(row:String)(b:Bool)(N:Nat)(w:World)(os:OsState):Option SharedT :=
 topQ p (w.withFollow row b) (boot_heap w.params).objs.size ((boot_heap w.params).nsMap mainGlobals "__annotations__") N ⟨NW (boot_heap w.params).objs.toList,(boot_heap w.params).objs.size,(boot_heap w.params).life,.mk [],boot_drawn,boot_toks,os⟩ (topStub p)
def Nr(p:Program)(w:World)(s:SharedT):Bool:=staticsOk (importedModules p.main.body) (boot_heap w.params) s.abs.heap&&namesBound p s.abs.heap&&gensDone s.abs&&laidKept (boot_heap w.params) s.abs.heap
theorem lP{p:Program}{row:String}{b:Bool}{N:Nat}{w:World}{α:Type}{g:Shared->α}{a:α}(e:opening p=plainProg p.main.scope.names)(hN:Nat.ble 600 N=true)(f:∀s,fenceModules? p s=some s)
 (h:∀os,(Ce p row b N w os).map (λs=>(Nr p w s,g s.abs))=some (true,a)):(zH p row b N w).map g=some a:=by
 obtain⟨⟨hp,gs,d,k,os⟩,h1,h2⟩:=fD.mp (boot_open e hN f w);obtain⟨rfl,rfl,rfl,rfl⟩:hp=boot_heap w.params/\gs=.mk []/\d=boot_drawn/\k=boot_toks:=by simpa using h2
 obtain⟨s,h3,h4⟩:=fD.mp (h os);have h5:=topQ_of h3;unfold SharedT.abs at h5;rw[FG]at h5;unfold zH;rw[h1];show Option.map g (topFrom treeTable p (w.withFollow row b) N _)=_;unfold topFrom;dsimp only
 rw[FH,h5];have h6:=(Prod.mk.inj h4).1;unfold Nr SharedT.abs at h6;show Option.map g (match staticsOk (importedModules p.main.body) (boot_heap w.params) (absHeap s.tree s.n s.life)&&namesBound p (absHeap s.tree s.n s.life)&&gensDone ⟨absHeap s.tree s.n s.life,s.gens,s.drawn,s.toks,s.os⟩&&laidKept (boot_heap w.params) (absHeap s.tree s.n s.life)with | true=>_ | false=>_)=_
 rw[h6];exact d9 some (Prod.mk.inj h4).2
theorem JU{p q:Program}{loose:List Str}{Xt:Shared->Bool}{α:Type}{Yf:Shared->α}{Ya:World->α}{N:Nat}{g0:Bool}(row:String)(e:opening p=plainProg p.main.scope.names)(hN:Nat.ble 600 N=true)(f:∀s,fenceModules? p s=some s)
 (h0:∀w os,(Ce p row false N w os).map (λs=>(Nr p w s,openSeen q loose (importedModules p.main.body) Xt g0 s.abs,Yf s.abs))=some (true,openGood q loose,Ya (w.withFollow row false)))
 (h1:∀w os,(Ce p row true N w os).map (λs=>(Nr p w s,openSeen q loose (importedModules p.main.body) Xt g0 s.abs,Yf s.abs))=some (true,openGood q loose,Ya (w.withFollow row true))):LeftO p q loose Xt Yf Ya N g0:=by
 have fs:∀{β γ δ:Type} {o:Option δ} {a:δ->β} {b:δ->γ} {x:β} {y:γ},o.map (λs=>(a s,b s))=some (x,y)->o.map a=some x/\o.map b=some y:=λ{_ _ _ o _ _ _ _} h=>by
  cases o with
  | none=>cases h
  | some s=>cases h;exact⟨rfl,rfl⟩
 exact zI row (λw=>(fs (lP e hN f λos=>h0 w os)).1) (λw=>(fs (lP e hN f λos=>h1 w os)).1) (λw=>(fs (lP e hN f λos=>h0 w os)).2) λw=>(fs (lP e hN f λos=>h1 w os)).2
end L2.U
namespace cE
open PySem L2 L2.U
def top(i:Nat):Stmt:=PySem.Challenge.pw_lendrule_k16_right_programs.main.body.getD i (.Pass ⟨0,0,0,0⟩)
def Xa(i j:Nat):Stmt:=match top i with | .ClassDef _ _ _ b _ _ _ _ _ _ _=>b.getD j (.Pass ⟨0,0,0,0⟩) | s=>s
abbrev FI:Stmt:=Xa 27 0
def aT:Pg where
 defs:=([("is_whole",8),("is_shape",9),("count_leaves",10),("count_in_parts",11),("leaves",12),("check_part",13),("part",14),("paths",15),("is_copied",16),("is_right",26),("is_tuple_from",28),("is_tuple_of",29),("is_name",30),("are_apart",31),("is_holder_kind",32),("is_kind",33),("is_holder",34),("shape_of",35),("has_kind",36),("is_head",37),("are_named",38),("is_result",39),("are_sources",40),("may_be_run",41),("is_spot",42),("is_path",43),("spot_shape",44),("is_at",45),("is_number_spot",46),("is_part_spot",47),("is_owned_part",48),("is_written_part",49),("may_be_written",50),("is_operand",51),("are_rows",52),("is_row",53),("is_put",54),("is_target",55),("is_set",56),("is_fill",57),("is_copy",58),("are_alike",59),("is_move",60),("is_drop",61),("is_lend",62),("is_sole",63),("is_call",64),("takes_back",65),("is_if",66),("is_jump",67),("is_go",68),("is_say",69),("is_give",70),("_law_cell_at",74),("_law_mixed",75),("_law_names",76),("_law_many",77),("_law_table",78),("_law_held",79),("_law_spots",80),("_law_menu",81),("_law_picked",82),("_law_numbers",83),("_law_operand",84),("_law_result",85),("_law_back",86),("_law_head",87),("_law_heads",88),("_law_call",89),("_law_lends",90),("_law_copied",91),("_law_things",92),("_law_plain_row",93),("_law_row",94),("_law_give",95),("_law_function",96),("_law_ended",97),("_law_calls",98),("law",99)]:List (String×Nat)).map λd=>(d.1,top d.2)
 cons:=[("MOST_DEEP",.int 3),("MOST_LEAVES",.int 8),("MOST_PARTS",.int 4),("LONGEST_STRIP",.int 8),("MOST_SIGNS",.int 8),("MOST_FUNCTIONS",.int 6),("MOST_PARAMS",.int 4),("MOST_LETS",.int 8),("MOST_ROWS",.int 32),("HOLDER_WORDS",.ak [(.str "lent"),(.str "sole")]),("SIGNS",.ak [(.str "+"),(.str "-"),(.str "*")]),("NUM",.ak [(.str "num")])]
 bY:=["all","bool","dict","enumerate","int","isinstance","len","list","range","set","str","sum","tuple","zip"]
 tabs:=[("CHECKS",[("put","is_put"),("set","is_set"),("fill","is_fill"),("copy","is_copy"),("move","is_move"),("drop","is_drop"),("lend","is_lend"),("sole","is_sole"),("call","is_call"),("if","is_if"),("go","is_go"),("say","is_say"),("give","is_give")])]
 cls:=[("Scene",FI)]
 flds:=["kinds","result","size","heads"]
 cK:=[("LENGTHS",[("put",.int 3),("set",.int 5),("fill",.int 3),("copy",.int 3),("move",.int 3),("drop",.int 2),("lend",.int 3),("sole",.int 3),("call",.int 4),("if",.int 4),("go",.int 2),("say",.int 2),("give",.int 2)])]
 oE:=[]
 NR:=[("leaves",[("told",1)]),("paths",[("told",1)]),("_law_names",[("_law_found",1)]),("_law_spots",[("_law_found",1)]),("_law_picked",[("_law_found",1)]),("_law_numbers",[("_law_found",1)]),("_law_result",[("_law_sources",1)]),("_law_call",[("_law_args",1)]),("_law_lends",[("_law_found",1)]),("_law_function",[("_law_rows",1)])]
section
end
end cE
set_option maxHeartbeats 0
set_option maxHeartbeats 0
set_option maxHeartbeats 0
set_option maxHeartbeats 0
set_option maxHeartbeats 0
set_option maxHeartbeats 0
set_option maxHeartbeats 0
set_option maxHeartbeats 0
namespace cE
open PySem L2 L2.U
end cE
set_option maxHeartbeats 0
noncomputable section
namespace cE
open PySem L2 L2.U
theorem JR:aT.defs.all (λd=>FC d.2)=true:=by kernel_rfl
theorem NV:yi aT:=by
 intro kV doc pm an dQ ct u;kernel_rfl
theorem Cc:aT.cls.all (λd=>FC d.2)=true:=by kernel_rfl
theorem Cd:FD aT:=by
 intro kV doc pm an dQ ct u;kernel_rfl
abbrev pp:Program:=W.OpenLaw.prog PySem.Challenge.rw_lendrule_k16_right_programs
def qv:Program:=W.view pp [99]
def lo:List Str:=pp.boundNames.filter (· != "law")
def Xt(s:Shared):Bool:=W.xlAt qv [] s&&W.recOk (W.RowW.records (W.OpenRow.toRowW (W.OpenLaw.row PySem.Challenge.rw_lendrule_k16_right_programs))) s
abbrev hk:W.Hook:=FF aT JR NV Cc Cd
theorem Xb(w:World)(os:OsState):(Ce pp "special-get-raises" false 5000 w os).map (λs=>(Nr pp w s,W.openSeen qv lo (importedModules pp.main.body) Xt true s.abs,W.Hook.obs hk s.abs))=some (true,W.openGood qv lo,W.Hook.val hk (w.withFollow "special-get-raises" false)):=by kernel_rfl
theorem Xc(w:World)(os:OsState):(Ce pp "special-get-raises" true 5000 w os).map (λs=>(Nr pp w s,W.openSeen qv lo (importedModules pp.main.body) Xt true s.abs,W.Hook.obs hk s.abs))=some (true,W.openGood qv lo,W.Hook.val hk (w.withFollow "special-get-raises" true)):=by kernel_rfl
theorem ws:W.OpenLaw.wellSaid PySem.Challenge.rw_lendrule_k16_right_programs=true:=by kernel_rfl
end cE
open PySem PySem.W PyProof.Rows PySem.Calls
set_option maxRecDepth 100000 in
set_option maxHeartbeats 0 in
theorem cE.gT(hc:∀d:DefRec,d.name="law"->d.params.defaults=[]->W.WalkO cE.qv cE.lo (XL cE.qv []) (Hook.says cE.hk) (W.OpenRow.toRowW (W.OpenLaw.row PySem.Challenge.rw_lendrule_k16_right_programs)) d [] (λf vs=>PySem.call f vs)):PySem.Challenge.rw_lendrule_k16_right_programs.Holds:=by
 w_on;refine W.holds_law cE.ws λXd=>?_
 refine W.holds_open (q:=cE.qv) (loose:=cE.lo) (Xt:=cE.Xt) (XP:=XL cE.qv []) (Yf:=Hook.obs cE.hk) (Ya:=Hook.val cE.hk) (YP:=Hook.says cE.hk) (N:=5000) (L2.U.JU "special-get-raises" (by kernel_rfl) (by decide) (λ_=>rfl) cE.Xb cE.Xc) (Hook.of _) (Hook.keeps _) (λs e=>xl_of s (mm.mp e).1) XL.keeps (by rfl) (by rfl) (by rfl) (λs e=>recFacts_of (mm.mp e).2) (by rfl) (by first | assumption | decide +kernel) (by decide +kernel) ⟨rfl,rfl,rfl,rfl,rfl,by decide +kernel⟩ ?hw (hc _ rfl rfl)
 case hw=>w_witness2
end
namespace L2
open PySem PySem.Spec PyProof.Rows
def pq:b8->Value->Bool
 | .inl k,v=>Value.isInt k v
 | .inr x,v=>Value.isStrOf x v
def So(w:World):b8->Int
 | .inl k=>hashInt k
 | .inr x=>hashStr w x
theorem bT:∀{k:b8} {v:Value},pq k v=true->(∃i t,k=Sum.inl i/\v=Value.int i t)\/(∃x t,k=Sum.inr x/\v=Value.str x t)
 | .inl i,v,h=>by
  obtain⟨t,e⟩:=Value.isInt_shape h;exact .inl ⟨i,t,rfl,e⟩
 | .inr x,v,h=>by
  obtain⟨t,e⟩:=Value.isStrOf_shape h;exact .inr ⟨x,t,rfl,e⟩
def zJ(i:Int)(t:Tok):pq (.inl i) (.int i t)=true:=by simp[pq,Value.isInt]
def zK(x:Str)(t:Tok):pq (.inr x) (.str x t)=true:=by simp[pq,Value.isStrOf]
def JV(a b:Int):decide ((Sum.inl a:b8)=Sum.inl b)=(a==b):=by
 grind
def JW(a b:Str):decide ((Sum.inr a:b8)=Sum.inr b)=decide (a=b):=by
 grind
def JX(a:Int)(b:Str):decide ((Sum.inl a:b8)=Sum.inr b)=false:=by grind
def JY(a:Str)(b:Int):decide ((Sum.inr a:b8)=Sum.inl b)=false:=by grind
def bg(prog:Program)(w:World):PySem.KeyKind prog w b8 where
 is:=pq
 hash:=So w
 inj:=λv a b ha hb=>by
  rcases bT ha with⟨i,t,rfl,rfl⟩ | ⟨x,t,rfl,rfl⟩
  ·rcases bT hb with⟨j,u,rfl,e⟩ | ⟨y,u,rfl,e⟩
   ·injection e with e1 _;rw[e1]
   ·exact nomatch e
  ·rcases bT hb with⟨j,u,rfl,e⟩ | ⟨y,u,rfl,e⟩
   ·exact nomatch e
   ·injection e with e1 _;rw[e1]
 byValue:=λk v h=>by
  rcases bT h with⟨i,t,rfl,rfl⟩ | ⟨x,t,rfl,rfl⟩<;>rfl
 pyHash:=λhv h=>by
  rcases bT hv with⟨i,t,rfl,rfl⟩ | ⟨x,t,rfl,rfl⟩
  ·exact wpAny_pyHash_int h
  ·exact wpAny_pyHash_str h
 eqBool:=λhu hv h=>by
  rcases bT hu with⟨i,t,rfl,rfl⟩ | ⟨x,t,rfl,rfl⟩
  ·rcases bT hv with⟨j,u,rfl,rfl⟩ | ⟨y,u,rfl,rfl⟩
   ·rw[JV]at h;exact wpAny_eqBool_int h
   ·rw[JX]at h;exact SeqAt.EqAt.int_str i t y u _ _ _ _ h
  ·rcases bT hv with⟨j,u,rfl,rfl⟩ | ⟨y,u,rfl,rfl⟩
   ·rw[JY]at h;exact SeqAt.EqAt.str_int x t j u _ _ _ _ h
   ·rw[JW]at h;exact wpAny_eqBool_str h
 «strs» := λk x t v h=>by
  rcases bT h with⟨i,u,rfl,e⟩ | ⟨y,u,rfl,e⟩
  ·exact nomatch e
  ·injection e with e1 _
   subst e1;cases v<;>rfl
def tK(prog:Program)(w:World)(i:Int)(t:Tok):(bg prog w).is (.inl i) (.int i t)=true:=zJ i t
def tM(prog:Program)(w:World)(x:Str)(t:Tok):(bg prog w).is (.inr x) (.str x t)=true:=zK x t
def Vals.length(r:Vals xs us):xs.length=us.length:=gQ r
theorem Vals.get:∀{xs:List V} {us:List Value} {i:Nat} {x:V},Vals xs us->xs[i]?=some x->∃u,us[i]?=some u/\RelV x u
 | _,_,_,_,.nil,e=>by simp at e
 | _,_,0,_,.cons r _,e=>by grind
 | _,_,i+1,x,.cons _ t,e=>by
  obtain⟨u,h1,h2⟩:=Vals.get t (by simpa using e)
  exact⟨u,by grind,h2⟩
theorem Vals.set(r:RelV x u):∀{xs:List V} {us:List Value} (i:Nat),Vals xs us->Vals (xs.set i x) (us.set i u)
 | _,_,_,.nil=>.nil
 | _,_,0,.cons _ t=>.cons r t
 | _,_,i+1,.cons q t=>.cons q (Vals.set r i t)
theorem Vals.append:∀{xs ys:List V} {us ws:List Value},Vals xs us->Vals ys ws->Vals (xs++ys) (us++ws)
 | _,_,_,_,.nil,s=>s
 | _,_,_,_,.cons r t,s=>.cons r (Vals.append t s)
theorem Vals.take:∀{xs:List V} {us:List Value} (n:Nat),Vals xs us->Vals (xs.take n) (us.take n)
 | _,_,0,_=>.nil
 | _,_,_+1,.nil=>.nil
 | _,_,n+1,.cons r t=>.cons r (Vals.take n t)
theorem Vals.drop:∀{xs:List V} {us:List Value} (n:Nat),Vals xs us->Vals (xs.drop n) (us.drop n)
 | _,_,0,r=>r
 | _,_,_+1,.nil=>.nil
 | _,_,n+1,.cons _ t=>Vals.drop n t
def Vals.none_of:∀{xs:List V} {us:List Value} {i:Nat},Vals xs us->xs[i]?=none->us[i]?=none:=λ{xs us i} r e=>by
 have h1:=r.length;have h2:=eF.mp e;exact eF.mpr (by lia)
def rD:Option V->Option Value->Prop
 | some v,some u=>RelV v u
 | none,none=>True
 | _,_=>False
def KV{κ:Type}:List (κ×V)->List (κ×Value)->Prop:=Paired fun(p:κ×V) (q:κ×Value)=>p.1=q.1/\RelV p.2 q.2
def bS(H:Hp)(a:Addr)(o:HO):Hp:=λb=>if b=a then some o else H b
def ar:bS H a o a=some o:=by unfold bS;rw[if_pos rfl]
def aF(h:b≠a):bS H a o b=H b:=by unfold bS;rw[if_neg h]
def cf{H:Hp}{a b:Addr}{o:HO}(h:H a=some o)(h':H b=none):a≠b:=by
 grind
def lx(h:Heap)(a:Addr)(ai:Array Value):Prop:=∃o,h.get? a=some o/\o.cls=.type "tuple"/\(∃n,o.data=.seq ai n)/\o.dict=none
def lx.new(h:Heap)(ai:Array Value):lx (h.push {cls:=.type "tuple",data:=.seq ai}) h.objs.size ai:=⟨_,aU _ rfl,rfl,⟨_,rfl⟩,rfl⟩
def lx.is(t:lx h a ai):IsTup h a ai:=let ⟨o,e,c,n,_⟩:=t;⟨o,e,c,n⟩
section
variable (P:Program) (w:World)
def dS(H:Hp)(h:Heap)(a:Addr):HO->Prop
 | .lst xs=>xs.length<=sizeLine/\∃(ai:List Value) (n:Nat),Vals xs ai/\h.get? a=some {cls:=.type "list",data:=.seq ai.toArray n}
 | .ak xs=>xs.length<=sizeLine/\∃ai:List Value,Vals xs ai/\lx h a ai.toArray
 | .dK kvs=>kvs.length<=sizeLine/\(a==sysModules)=false/\∃vs,KV kvs vs/\h.DictOf (bg P w) a vs
 | .dT xs=>xs.length<=sizeLine/\(a==sysModules)=false/\∃o es ep,h.get? a=some o/\o.ExactDict/\o.data=.dict es ep/\es.toList=xs.map (entryOfKey (tupleKind (bg P w)))/\(xs.map (·.1)).Nodup
 | .set S n=>h.SetOf (intKind P w) a S n
 | .ins C dx fs=>H dx=some (.own a)/\fs.length<=1000/\dx≠a/\h.get? a=some (W.instObj C dx) /\
   ∃mA,h.Ns1 dx mA/\(∀f,rD (fs.lookup f) (mA f))/\PySem.Within mA (fs.map (·.1))
 | .own _=>∃o,h.get? a=some o
 | .xd fs=>∃mA,h.Ns1 a mA/\∀f,rD (fs.lookup f) (mA f)
 | .Rx lo hi=>∃t u v,h.get? a=some {cls:=.type "range",data:=.fields #[.int lo t,.int hi u,.int 1 v]}
 | .tx o u=>h.get? a=some o/\dS H h a u
 | .jn q=>∃ps:Array Value,h.get? a=some {cls:=.none,data:=.fields ps}/\TriplesOk ps.toList/\∀(pos:Pos) (cv:Value),codeAmong pos ps.toList=some cv ->
   ∃(c:Addr) (oc:Obj) (u:HO) (vs:Array Value) (t:Tok),cv=.ref c/\H c=some (.tx oc u)/\oc.data=.fields vs/\vs[1]?=some (.str q t)
 | .Rv f x=>h.get? a=some (W.methodObj (.ref f) (.ref x))
 | .ext φ=>φ h/\(∃o,h.get? a=some o)/\∀h1 h2:Heap,φ h1->(∀o,h1.get? a=some o->h2.get? a=some o)->φ h2
def jq(H:Hp)(h:Heap):Prop:=∀a o,H a=some o->dS P w H h a o
end
section
variable {P:Program} {w:World} {H H':Hp} {h h':Heap} {a:Addr} {o:HO}
def dS.lt(x:dS P w H h a o):a<h.objs.size:=by
 cases o with
 | lst xs=>obtain⟨_,_,_,_,e⟩:=x;exact az e
 | ak xs=>obtain⟨_,_,_,p⟩:=x;exact p.is.lt
 | dK kvs=>obtain⟨_,_,_,_,o,_,_,e,_⟩:=x;exact az e
 | dT kvs=>obtain⟨_,_,o,_,_,e,_⟩:=x;exact az e
 | set S n=>obtain⟨o,_,_,_,e,_⟩:=x;exact az e
 | ins C dx fs=>obtain⟨_,_,_,e,_⟩:=x;exact az e
 | own y=>obtain⟨_,e⟩:=x;exact az e
 | xd fs=>obtain⟨_,⟨_,_,_,e,_⟩,_⟩:=x;exact az e
 | Rx lo hi=>obtain⟨_,_,_,e⟩:=x;exact az e
 | tx ob u=>obtain⟨e,_⟩:=x;exact az e
 | jn q=>obtain⟨_,e,_⟩:=x;exact az e
 | Rv f y=>exact az (x)
 | ext φ=>obtain⟨_,⟨_,e⟩,_⟩:=x;exact az e
def dS.tN(x:dS P w H h a o)(k:∀b u,(b=a\/H b=some (.own a))->h.get? b=some u->h'.get? b=some u)
  (ho:∀b,H b=some (.own a)->H' b=some (.own a)) (ht:∀b xs,H b=some (.ak xs)->H' b=some (.ak xs)) (hz:∀b ob u,H b=some (.tx ob u)->H' b=some (.tx ob u)):dS P w H' h' a o:=by
 induction o with
 | lst xs=>obtain⟨z,ai,n,r,e⟩:=x;exact⟨z,ai,n,r,k _ _ (.inl rfl) e⟩
 | ak xs=>obtain⟨z,ai,r,ob,e,c⟩:=x;exact⟨z,ai,r,ob,k _ _ (.inl rfl) e,c⟩
 | dK kvs=>obtain⟨z,y,vs,r,ob,es,ep,e,c⟩:=x;exact⟨z,y,vs,r,ob,es,ep,k _ _ (.inl rfl) e,c⟩
 | dT kvs=>obtain⟨z,y,ob,es,ep,e,c⟩:=x;exact⟨z,y,ob,es,ep,k _ _ (.inl rfl) e,c⟩
 | set S n=>obtain⟨ob,es,ep,t,e,c⟩:=x;exact⟨ob,es,ep,t,k _ _ (.inl rfl) e,c⟩
 | ins C dx fs =>
  obtain⟨d,z,ne,e,mA,⟨od,es,ep,e2,c⟩,r⟩:=x;exact⟨ho _ d,z,ne,k _ _ (.inl rfl) e,mA,⟨od,es,ep,k _ _ (.inr d) e2,c⟩,r⟩
 | own y=>obtain⟨ob,e⟩:=x;exact⟨ob,k _ _ (.inl rfl) e⟩
 | xd fs=>obtain⟨mA,⟨od,es,ep,e,c⟩,r⟩:=x;exact⟨mA,⟨od,es,ep,k _ _ (.inl rfl) e,c⟩,r⟩
 | Rx lo hi=>obtain⟨t,u,v,e⟩:=x;exact⟨t,u,v,k _ _ (.inl rfl) e⟩
 | tx ob u ih=>obtain⟨e,q⟩:=x;exact⟨k _ _ (.inl rfl) e,ih q⟩
 | jn q =>
  obtain⟨ps,e,t,c⟩:=x;exact⟨ps,k _ _ (.inl rfl) e,t,λpos cv z=>let ⟨c,oc,u,vs,tk,h1,h2,h3⟩:=c pos cv z;⟨c,oc,u,vs,tk,h1,hz _ _ _ h2,h3⟩⟩
 | Rv f y =>
  have e:=x;exact k a _ (.inl rfl) e
 | ext φ=>obtain⟨p,⟨o,e⟩,st⟩:=x;exact⟨st _ _ p λo q=>k _ _ (.inl rfl) q,⟨o,k _ _ (.inl rfl) e⟩,st⟩
def jq.lt(x:jq P w H h)(e:H a=some o):a<h.objs.size:=(x a o e).lt
def jq.fresh(x:jq P w H h)(e:h.objs.size<=a):H a=none:=by
 cases q:H a with
 | none=>rfl
 | some u=>exact absurd (bG (x.lt q) e) (dg _)
def jq.kept(x:jq P w H h)(k:∀b u,h.get? b=some u->h'.get? b=some u):jq P w H h':=λa o e =>
 (x a o e).tN (λb u _ q=>k b u q) (λ_ q=>q) (λ_ _ q=>q) λ_ _ _ q=>q
def jq.laid(x:jq P w H h)(k:∀b u,h.get? b=some u->h'.get? b=some u)(hp:h.objs.size<=a)(new:dS P w (bS H a o) h' a o):jq P w (bS H a o) h':=λb u e=>by
 have hn:=x.fresh hp;by_cases hb:b=a
 ·subst hb;rw[ar]at e;cases e;exact new
 ·rw[aF hb]at e;exact(x b u e).tN (λc v _ q=>k c v q) (λc q=>by rw[aF (cf q hn)];exact q) (λc xs q=>by rw[aF (cf q hn)];exact q) λc ob v q=>by rw[aF (cf q hn)];exact q
end
def Rd.ok(r:Rd H a u)(x:jq P w H h):dS P w H h a u:=by
 rcases r with r | ⟨o,r⟩
 ·exact x a u r
 ·obtain⟨_,q⟩:=x a _ r;exact q
def Ry:Option HO->Prop
 | some (.lst _)=>True
 | some (.dK _)=>True
 | some (.dT _)=>True
 | some (.set _ _)=>True
 | some (.ins _ _ _)=>True
 | some (.ext _)=>True
 | _=>False
section
variable {P:Program} {w:World} {H:Hp} {h h':Heap} {x e:Addr} {o':HO}
def jq.write(ok:jq P w H h)(mu:Ry (H x))(he:e=x\/H e=some (.own x))(k:∀b u,b≠e->h.get? b=some u->h'.get? b=some u)(Nt:∃u,h'.get? e=some u)
  (new:dS P w (bS H x o') h' x o'):jq P w (bS H x o') h':=λb u q=>by
 have NX:∀c y,H c=some (.own y)->c≠x:=λc y r z=>by subst z;rw[r]at mu;exact mu
 have Sq:∀c xs,H c=some (.ak xs)->c≠x:=λc xs r z=>by subst z;rw[r]at mu;exact mu
 have Sr:∀c ob v,H c=some (.tx ob v)->c≠x:=λc ob v r z=>by subst z;rw[r]at mu;exact mu
 by_cases hb:b=x
 ·subst hb;rw[ar]at q;cases q;exact new
 ·rw[aF hb]at q;by_cases JZ:b=e
  ·have q':H b=some (.own x):=by
    rcases he with z | z
    ·exact absurd (JZ.trans z) hb
    ·rw[JZ];exact z
   rw[q]at q';cases q';obtain⟨v,hv⟩:=Nt;exact⟨v,by rw[JZ];exact hv⟩
  ·refine(ok b u q).tN (λc v hc r=>k c v ?_ r) (λc r=>by rw[aF (NX c b r)];exact r) (λc xs r=>by rw[aF (Sq c xs r)];exact r) λc ob v r=>by rw[aF (Sr c ob v r)];exact r
   rcases hc with rfl | hc
   ·exact JZ
   ·rintro rfl
    rcases he with z | z
    ·exact NX c b hc z
    ·rw[hc]at z;cases z;exact hb rfl
end
structure Un (fs ex:List Addr) (H H':Hp) (h h':Heap):Prop where
 keep:∀b o,h.get? b=some o->H b=none->b∉fs->b∉ex->h'.get? b=some o
 slot:∀b o,h.get? b=some o->H b=none->b∈fs->b∉ex->∃sl,h'.get? b=some {o with slots:=sl}
 free:∀b o,h.get? b=some o->H b=none->b∉ex->H' b=none
 there:∀b o,h.get? b=some o->b∉ex->∃o',h'.get? b=some o'
 tups:∀b xs,H b=some (.ak xs)->H' b=some (.ak xs)
 frzs:∀b o u,H b=some (.tx o u)->H' b=some (.tx o u)
 tbls:∀b q,H b=some (.jn q)->H' b=some (.jn q)
section
variable {fs Xe ex YZ:List Addr} {H H1 H2:Hp} {h h1 h2 h':Heap} {a x e:Addr} {o:HO}
def Un.any(u:Un fs ex H H1 h h1)(q:h.get? b=some ob)(n:H b=none)(hx:b∉ex):∃sl,h1.get? b=some {ob with slots:=sl}:=by
 by_cases hb:b∈fs
 ·exact u.slot b ob q n hb hx
 ·exact⟨ob.slots,u.keep b ob q n hb hx⟩
def Un.trans(a:Un fs ex H H1 h h1)(b:Un fs ex H1 H2 h1 h2):Un fs ex H H2 h h2 where
 keep:=λc ob q n hc hx=>b.keep c ob (a.keep c ob q n hc hx) (a.free c ob q n hx) hc hx
 slot:=λc ob q n hc hx=>by
  obtain⟨sl,e1⟩:=a.slot c ob q n hc hx;obtain⟨NY,e2⟩:=b.slot c _ e1 (a.free c ob q n hx) hc hx;exact⟨NY,e2⟩
 free:=λc ob q n hx=>by
  obtain⟨o',e1⟩:=a.there c ob q hx;exact b.free c o' e1 (a.free c ob q n hx) hx
 there:=λc ob q hx=>by
  obtain⟨o',e1⟩:=a.there c ob q hx;exact b.there c o' e1 hx
 tups:=λc xs q=>b.tups c xs (a.tups c xs q)
 frzs:=λc ob xs q=>b.frzs c ob xs (a.frzs c ob xs q)
 tbls:=λc q e=>b.tbls c q (a.tbls c q e)
def Un.kept(k:∀b u,h.get? b=some u->h'.get? b=some u):Un fs ex H H h h' :=
 ⟨λb ob q _ _ _=>k b ob q,λb ob q _ _ _=>⟨ob.slots,k b ob q⟩,λ_ _ _ n _=>n,λb ob q _=>⟨ob,k b ob q⟩,λ_ _ q=>q,λ_ _ _ q=>q,λ_ _ q=>q⟩
def Un.refl:Un fs ex H H h h:=Un.kept λ_ _ q=>q
def Un.laid(k:∀b u,h.get? b=some u->h'.get? b=some u)(hp:h.objs.size<=a)(hn:H a=none):Un fs ex H (bS H a o) h h' where
 keep:=λb u q _ _ _=>k b u q
 slot:=λb u q _ _ _=>⟨u.slots,k b u q⟩
 free:=λb u q n _=>by rw[aF (aJ (bG (az q) hp))];exact n
 there:=λb u q _=>⟨u,k b u q⟩
 tups:=λb xs q=>by rw[aF (cf q hn)];exact q
 frzs:=λb u xs q=>by rw[aF (cf q hn)];exact q
 tbls:=λb ps q=>by rw[aF (cf q hn)];exact q
def Un.write(mu:Ry (H x))(he:e=x\/H e=some (.own x))(k:∀b u,b≠e->h.get? b=some u->h'.get? b=some u)(Nt:∃u,h'.get? e=some u):Un fs ex H (bS H x o) h h':=by
 have hx:∀b,H b=none->b≠x:=λb n z=>by subst z;rw[n]at mu;exact mu
 have hb:∀b,H b=none->b≠e:=λb n z=>by
  subst z;rcases he with r | r
  ·exact hx b n r
  ·rw[n]at r;cases r
 have hm:∀b u,H b=some u->¬Ry (some u)->b≠x:=λb u q nm z=>by subst z;rw[q]at mu;exact nm mu
 refine⟨λb u q n _ _=>k b u (hb b n) q,λb u q n _ _=>⟨u.slots,k b u (hb b n) q⟩,λb u q n _=>by rw[aF (hx b n)];exact n,λb u q _=>?_,
  λb xs q=>by rw[aF (hm b _ q λz=>z)];exact q,λb u xs q=>by rw[aF (hm b _ q λz=>z)];exact q,λb ps q=>by rw[aF (hm b _ q λz=>z)];exact q⟩
 by_cases JZ:b=e
 ·subst JZ;exact Nt
 ·exact⟨u,k b u JZ q⟩
end
def Rz(h:Heap)(H:Hp):List Addr:=(List.range h.objs.size).filter λa=>(H a).isSome
def tO(h:Heap)(H:Hp):Heap:=W.hideAll h (Rz h H)
def zL(h:Heap)(H:Hp):(tO h H).objs.size=h.objs.size:=W.hideAll_size _ _
def hidT_get(e:h.get? b=some o)(n:H b=none):(tO h H).get? b=some o :=
 W.hideAll_get _ e λhm=>by
  have q:=(cH.mp hm).2;rw[n]at q;simp at q
def of_hidT(e:(tO h H).get? b=some o):h.get? b=some o/\H b=none:=by
 have e':=W.of_hideAll (Rz h H) e;refine⟨e',?_⟩;cases q:H b with
 | none=>rfl
 | some x =>
  have hm:b∈Rz h H:=cH.mpr ⟨dI.mpr (az e'),by simp[q]⟩
  have z:(tO h H).get? b=none:=W.hideAll_none (Rz h H) hm;rw[z]at e;cases e
structure Mod (K:W.Frag) (mg:Str->Option Value) (base:Heap):Prop where
 kin:K.In base
 glob:base.Ns mainGlobals mg
 blt:∃mb,base.Ns builtinsNs mb/\∀x:Str,x≠"__name__"->mb x=bootBuiltins x
 nolimit:base.NoLimit
structure Cx where
 prog:Program
 w:World
 K:W.Frag
 mg:Str->Option Value
 base:Heap
 A:Around
 N:List Str
 s₀:Shared
 aa:Hp
 env:Env
 aB:List Env
 stack:List Env
 ex:List Addr
 fn:Str->Bool
 calm:Bool
 pn:List (Addr×Obj)
 xe:Value->Shared->Prop
def jw(l:List Env):List Addr:=l.filterMap (·.frame)
abbrev Cx.fs(X:Cx):List Addr:=jw X.aB
def NZ(sc:Scope)(x:Str):Prop:=sc.names.lookup x=some .local\/sc.names.lookup x=some .cell\/sc.names.lookup x=some .free
def IL(sc:Scope)(x:Str):Prop:=sc.names.lookup x=some .local\/sc.names.lookup x=some .cell
def Ss(env:Env)(h:Heap)(m:Str->Option Value)(x:Str)(u:Value):Prop :=
 (env.kindOf x=some .local/\m x=some u)\/((env.kindOf x=some .cell\/env.kindOf x=some .free)/\∃c,env.cells.lookup x=some c/\h.IsCell c (some u))
def FJ(x:Str):Str:=x++".<locals>."++"<lambda>"
def mN(K:W.Frag)(H:Hp):Prop:=∀x∈cJ,∀c T,W.tabIn K x=some (c,T)->H T=some (.jn (FJ x))
structure Cx.Ok (X:Cx):Prop where
 mod:Mod X.K X.mg X.base
 kind:X.env.scope.kind=.function
 glob:X.env.globals=mainGlobals
 blt:X.env.builtins=builtinsNs
 above:X.s₀.heap.objs.size<=X.env.locals
 inj:∀x y c,X.env.cells.lookup x=some c->X.env.cells.lookup y=some c->x=y
 has:∀x,(X.env.kindOf x=some .cell\/X.env.kindOf x=some .free)->∃c,X.env.cells.lookup x=some c
 cab:∀x c,X.fn x=true->X.env.cells.lookup x=some c->X.s₀.heap.objs.size<=c
 hd:X.calm=true->X.A.handled=none
 frames:X.A.frames=some X.stack
 stk:X.stack=X.aB\/(X.stack=X.env::X.aB/\X.env.frame=some X.env.locals)
 exf:∀b∈X.ex,b≠X.env.locals/\∀x c,X.env.cells.lookup x=some c->c≠b
 bs:∀b o,X.base.get? b=some o->X.s₀.heap.get? b=some o/\X.aa b=none
 bsz:X.base.objs.size<=X.s₀.heap.objs.size
 noex:∀b o,X.base.get? b=some o->b∉X.ex
 exfs:∀b∈X.ex,b∉X.fs
 funs:X.s₀.heap.FunFrames X.base X.aB
 frf:∀b∈X.fs,X.aa b=none
 tabs:mN X.K X.aa
structure Inv (X:Cx) (ae:List (Addr×Obj)) (σ:List (Option V)) (H:Hp) (s:Shared):Prop where
 ok:X.Ok
 os:s.os=X.s₀.os
 bare:AllBare s.gens
 base:Un X.fs X.ex X.aa H X.s₀.heap s.heap
 loc:∃m,s.heap.Ns X.env.locals m/\∀(i:Nat) (x:Str) (v:V),X.N[i]?=some x->σ[i]?=some (some v)->NZ X.env.scope x->∃u,RelV v u/\Ss X.env s.heap m x u
 cell:∀x c,X.env.cells.lookup x=some c->∃v,s.heap.IsCell c v
 free:H X.env.locals=none
 freeC:∀x c,X.env.cells.lookup x=some c->H c=none
 pin:∀p∈X.pn++ae,s.heap.get? p.1=some p.2/\H p.1=none/\p.1≠X.env.locals/\p.1∉X.fs/\∀v,p.2.data≠.cell v
 hok:jq X.prog X.w H s.heap
 len:σ.length=X.N.length
section
variable {X:Cx} {ae:List (Addr×Obj)} {σ:List (Option V)} {H H':Hp} {s:Shared} {h':Heap}
def Cx.Ok.Su(ok:X.Ok)(e:X.base.get? b=some o):b∉X.fs:=λhb=>by
 have:=(ok.funs.mem hb).1;rw[e]at this;cases this
def Inv.bs(I:Inv X ae σ H s):∀b o,X.base.get? b=some o->s.heap.get? b=some o/\H b=none:=λb o e =>
 ⟨I.base.keep b o (I.ok.bs b o e).1 (I.ok.bs b o e).2 (I.ok.Su e) (I.ok.noex b o e),I.base.free b o (I.ok.bs b o e).1 (I.ok.bs b o e).2 (I.ok.noex b o e)⟩
def Inv.bk(I:Inv X ae σ H s):∀b o,X.base.get? b=some o->s.heap.get? b=some o:=λb o e=>(I.bs b o e).1
def Inv.mod(I:Inv X ae σ H s):Mod X.K X.mg X.base:=I.ok.mod
def Inv.mO(I:Inv X ae σ H s):X.K.In s.heap:=I.ok.mod.kin.keeps I.bk
def Inv.fr(I:Inv X ae σ H s):∃m,Fr X.base X.env.locals s.heap m :=
 let ⟨m,hn,_⟩:=I.loc
 ⟨m,hn,I.bk,aL I.ok.bsz I.ok.above⟩
def Inv.lt(I:Inv X ae σ H s):X.env.locals<s.heap.objs.size:=let ⟨_,hn,_⟩:=I.loc;hn.lt
def Inv.sz(I:Inv X ae σ H s):X.s₀.heap.objs.size<=s.heap.objs.size:=aL I.ok.above (rm I.lt)
def Inv.Sv(I:Inv X ae σ H s){a:Addr}(h:s.heap.objs.size<=a):a∉X.fs:=λhb=>by
 obtain⟨_,o,ho,_⟩:=I.ok.funs.mem hb;exact absurd (bG (az ho) (aL I.sz h)) (dg _)
def Inv.J0(I:Inv X ae σ H s):∀x c,X.env.cells.lookup x=some c->c≠X.env.locals:=λx c e z=>by
 obtain⟨v,o,ho,hd⟩:=I.cell x c e;obtain⟨m,⟨o',es,ep,mP,FK,_⟩,_⟩:=I.loc;rw[z,mP]at ho;cases ho;rw[FK]at hd;cases hd
def Inv.funs(I:Inv X ae σ H s):s.heap.FunFrames X.base X.aB:=by
 have all:∀l,(∀b∈jw l,b∈X.fs)->X.s₀.heap.FunFrames X.base l->s.heap.FunFrames X.base l:=by
  intro l;induction l with
  | nil=>intro _ _;trivial
  | cons env r ih =>
   intro hs hl;obtain⟨hk,⟨L,o,hf,hn,ho,hd⟩,hr⟩:=hl;have hL:=hs L (by unfold jw;rw[vS,hf];exact cb)
   obtain⟨sl,e⟩:=I.base.slot L o ho (I.ok.frf L hL) hL λz=>I.ok.exfs L z hL
   exact⟨hk,⟨L,_,hf,hn,e,hd⟩,ih (λb hb=>hs b (by unfold jw;rw[vS,hf];exact bW _ hb)) hr⟩
 exact all X.aB (λ_ hb=>hb) I.ok.funs
def Inv.stack(I:Inv X ae σ H s):s.heap.FunFrames X.base X.stack:=by
 rcases I.ok.stk with e | ⟨e,hf⟩
 ·rw[e];exact I.funs
 ·rw[e];obtain⟨m,hn,_⟩:=I.loc;refine .cons (by rw[I.ok.kind];decide) hf hn ?_ I.funs
  exact Heap.get?_none_of_le (aL I.ok.bsz I.ok.above)
def Inv.rE(I:Inv X ae σ H s):∀b∈jw X.stack,b∈X.env.locals::X.fs:=λb hb=>by
 rcases I.ok.stk with e | ⟨e,hf⟩
 ·rw[e]at hb;exact bW _ hb
 ·rw[e]at hb;unfold jw at hb;rw[vS,hf]at hb;exact hb
def Inv.rF(I:Inv X ae σ H s):∀b∈jw X.stack,H b=none:=λb hb=>by
 rcases aY.mp (I.rE b hb)with e | hb
 ·rw[e];exact I.free
 ·obtain⟨_,o,ho,_⟩:=I.ok.funs.mem hb;exact I.base.free b o ho (I.ok.frf b hb) λz=>I.ok.exfs b z hb
def Inv.tabs(I:Inv X ae σ H s):mN X.K H:=λx hx c T e=>I.base.tbls T _ (I.ok.tabs x hx c T e)
def Inv.step{g':Array GenState}{t':Nat}{d':Drawn}{ch:List Addr}(I:Inv X ae σ H s)
  (IM:∀b∈ch,(b∈X.ex\/X.s₀.heap.objs.size<=b)/\b≠X.env.locals/\(∀x c,X.env.cells.lookup x=some c->c≠b)/\∀p∈X.pn++ae,p.1≠b)
  (keep:∀b o,b≠X.env.locals->b∉X.fs->b∉ch->s.heap.get? b=some o->H b=none->h'.get? b=some o)
  (slot:∀b o,b≠X.env.locals->b∈X.fs->b∉ch->s.heap.get? b=some o->H b=none->∃sl,h'.get? b=some {o with slots:=sl}) (free:∀b o,b∉ch->s.heap.get? b=some o->H b=none->H' b=none)
  (there:∀b o,b∉ch->s.heap.get? b=some o->∃o',h'.get? b=some o')
  (tups:∀b xs,H b=some (.ak xs)->H' b=some (.ak xs)) (frzs:∀b o u,H b=some (.tx o u)->H' b=some (.tx o u)) (tbls:∀b q,H b=some (.jn q)->H' b=some (.jn q))
  (ns:∀m,s.heap.Ns X.env.locals m->h'.Ns X.env.locals m) (hok:jq X.prog X.w H' h') (hg:AllBare g') :
  Inv X ae σ H' {s with heap:=h',gens:=g',drawn:=d',toks:=t'}:=by
 have VI:∀b o,X.s₀.heap.get? b=some o->b≠X.env.locals:=λb o e=>aJ (bG (az e) I.ok.above)
 have RA:∀b o,X.s₀.heap.get? b=some o->b∉X.ex->b∉ch:=λb o e hx hb=>by
  rcases(IM b hb).1 with z | z
  ·exact hx z
  ·exact absurd (bG (az e) z) (dg _)
 have cellK:∀x c,X.env.cells.lookup x=some c->∀v,s.heap.IsCell c v->h'.IsCell c v:=by
  rintro x c e v ⟨o,ho,hd⟩
  have N0:c∉ch:=by grind
  by_cases hc:c∈X.fs
  ·obtain⟨sl,q⟩:=slot c o (I.J0 x c e) hc N0 ho (I.freeC x c e);exact⟨_,q,hd⟩
  ·exact⟨o,keep c o (I.J0 x c e) hc N0 ho (I.freeC x c e),hd⟩
 refine⟨I.ok,I.os,hg,⟨λb o e n hb hx=>?_,λb o e n hb hx=>?_,λb o e n hx=>?_,λb o e hx=>?_,λb xs e=>tups b xs (I.base.tups b xs e),λb o xs e=>frzs b o xs (I.base.frzs b o xs e),λb ps e=>?_⟩,?_,λx c e=>?_,?_,λx c e=>?_,λp hp=>?_,hok,I.len⟩
 ·exact keep b o (VI b o e) hb (RA b o e hx) (I.base.keep b o e n hb hx) (I.base.free b o e n hx)
 ·obtain⟨sl,e1⟩:=I.base.slot b o e n hb hx;obtain⟨NY,e2⟩:=slot b _ (VI b o e) hb (RA b o e hx) e1 (I.base.free b o e n hx);exact⟨NY,e2⟩
 ·obtain⟨o',e1⟩:=I.base.there b o e hx;exact free b o' (RA b o e hx) e1 (I.base.free b o e n hx)
 ·obtain⟨o',e1⟩:=I.base.there b o e hx;exact there b o' (RA b o e hx) e1
 ·exact tbls b ps (I.base.tbls b ps e)
 ·obtain⟨m,hn,hl⟩:=I.loc;refine⟨m,ns m hn,λi x v e1 e2 e3=>?_⟩
  obtain⟨u,r,l⟩:=hl i x v e1 e2 e3;refine⟨u,r,?_⟩;rcases l with l | ⟨k,c,e,z⟩
  ·exact .inl l
  ·exact .inr ⟨k,c,e,cellK x c e _ z⟩
 ·obtain⟨v,z⟩:=I.cell x c e;exact⟨v,cellK x c e v z⟩
 ·obtain⟨m,⟨o,_,_,ho,_⟩,_⟩:=I.loc;exact free _ o (λz=>(IM _ z).2.1 rfl) ho I.free
 ·obtain⟨v,o,ho,hd⟩:=I.cell x c e;exact free c o (λz=>(IM c z).2.2.1 x c e rfl) ho (I.freeC x c e)
 ·obtain⟨e,n,ne,nf,d⟩:=I.pin p hp;have N0:p.1∉ch:=by grind
  exact⟨keep p.1 p.2 ne nf N0 e n,free p.1 p.2 N0 e n,ne,nf,d⟩
def Inv.un{t':Nat}(I:Inv X ae σ H s)(u:Un X.fs [] H H' s.heap h')(hok:jq X.prog X.w H' h'):Inv X ae σ H' {s with heap:=h',toks:=t'}:=by
 obtain⟨m,⟨o,es,ep,ho,r⟩,_⟩:=id I.loc;obtain⟨sl,hL⟩:=u.any ho I.free (by simp)
 exact I.step (ch:=[]) (λ_ z=>nomatch z) (λb o _ hb _ e n=>u.keep b o e n hb (by simp)) (λb o _ hb _ e n=>u.slot b o e n hb (by simp)) (λb o _ e n=>u.free b o e n (by simp)) (λb o _ e=>u.there b o e (by simp)) u.tups u.frzs u.tbls (λm' hm=>by
  obtain⟨o',IP,Sw,mP,r'⟩:=hm;rw[ho]at mP;cases mP;exact⟨_,IP,Sw,hL,r'⟩) hok I.bare
def Inv.call{g':Array GenState}{t':Nat}{d':Drawn}{ch:List Addr}(I:Inv X ae σ H s)(u:Un (jw X.stack) ch H H' s.heap h')(hok:jq X.prog X.w H' h')(hg:AllBare g')
  (IM:∀b∈ch,(b∈X.ex\/X.s₀.heap.objs.size<=b)/\b≠X.env.locals/\(∀x c,X.env.cells.lookup x=some c->c≠b)/\∀p∈X.pn++ae,p.1≠b) :
  Inv X ae σ H' {s with heap:=h',gens:=g',drawn:=d',toks:=t'}:=by
 obtain⟨m,⟨o,es,ep,ho,r⟩,_⟩:=id I.loc;obtain⟨sl,hL⟩:=u.any ho I.free λz=>(IM _ z).2.1 rfl
 exact I.step IM (λb o hL hb hc e n=>u.keep b o e n (λz=>(aY.mp (I.rE b z)).elim hL hb) hc) (λb o _ _ hc e n=>u.any e n hc) (λb o hc e n=>u.free b o e n hc) (λb o hc e=>u.there b o e hc) u.tups u.frzs u.tbls (λm' hm=>by
  obtain⟨o',IP,Sw,mP,r'⟩:=hm;rw[ho]at mP;cases mP;exact⟨_,IP,Sw,hL,r'⟩) hok hg
def Inv.turned{t':Nat}(I:Inv X ae σ H s)(k:∀b o,b≠it->s.heap.get? b=some o->h'.get? b=some o)(hn:H it=none)(hL:it≠X.env.locals)
  (h1:it∈X.ex\/X.s₀.heap.objs.size<=it) (h2:∀x c,X.env.cells.lookup x=some c->c≠it) (h3:∀p∈X.pn++ae,p.1≠it):Inv X ae σ H {s with heap:=h',toks:=t'}:=by
 have N1:∀b u,H b=some u->b≠it:=λb u e z=>by rw[z,hn]at e;cases e
 refine I.step (ch:=[it]) (λb hb=>?_) (λb o _ _ hc e _=>k b o (λz=>hc (by simp[z])) e) (λb o _ _ hc e _=>⟨o.slots,k b o (λz=>hc (by simp[z])) e⟩) (λ_ _ _ _ n=>n)
  (λb o hc e=>⟨o,k b o (λz=>hc (by simp[z])) e⟩) (λ_ _ e=>e) (λ_ _ _ e=>e) (λ_ _ e=>e) (λm hm=>?_) (λb u e=>?_) I.bare
 ·have e:b=it:=by simpa using hb
  subst e;exact⟨h1,hL,h2,h3⟩
 ·obtain⟨o,es,ep,ho,r⟩:=hm;exact⟨o,es,ep,k _ o (bA hL) ho,r⟩
 ·refine(I.hok b u e).tN (λc v hc q=>k c v ?_ q) (λ_ q=>q) (λ_ _ q=>q) λ_ _ _ q=>q
  rcases hc with z | z
  ·rw[z];exact N1 b u e
  ·exact N1 c _ z
def Inv.tok(I:Inv X ae σ H s)(t:Nat):Inv X ae σ H {s with toks:=t}:=I.un Un.refl I.hok
def Inv.kept(I:Inv X ae σ H s)(k:∀b u,s.heap.get? b=some u->h'.get? b=some u):Inv X ae σ H {s with heap:=h',toks:=t'}:=I.un (Un.kept k) (I.hok.kept k)
def Inv.laid{a:Addr}{o:HO}{t':Nat}(I:Inv X ae σ H s)(k:∀b u,s.heap.get? b=some u->h'.get? b=some u)(hp:s.heap.objs.size<=a)(new:dS X.prog X.w (bS H a o) h' a o) :
  Inv X ae σ (bS H a o) {s with heap:=h',toks:=t'}:=I.un (Un.laid k hp (I.hok.fresh hp)) (I.hok.laid k hp new)
def Inv.write(I:Inv X ae σ H s)(mu:Ry (H x))(he:e=x\/H e=some (.own x))(k:∀b u,b≠e->s.heap.get? b=some u->h'.get? b=some u)(Nt:∃u,h'.get? e=some u)
  (new:dS X.prog X.w (bS H x o) h' x o):Inv X ae σ (bS H x o) {s with heap:=h',toks:=t'}:=I.un (Un.write mu he k Nt) (I.hok.write mu he k Nt new)
def Inv.jx(I:Inv X ae σ H s)(h:∀p∈N2,s.heap.get? p.1=some p.2/\H p.1=none/\p.1≠X.env.locals/\p.1∉X.fs/\∀v,p.2.data≠.cell v):Inv X N2 σ H s :=
 ⟨I.ok,I.os,I.bare,I.base,I.loc,I.cell,I.free,I.freeC,λp hp=>(dH.mp hp).elim (λz=>I.pin p (mi _ z)) (h p),I.hok,I.len⟩
def tP{N:List Str}(hN:N.Nodup){i j:Nat}(a:N[i]?=some x)(b:N[j]?=some x):i=j:=by
 obtain⟨h1,e1⟩:=cw.mp a;obtain⟨h2,e2⟩:=cw.mp b;exact(List.getElem_inj hN).mp (e1.trans e2.symm)
def store_ok2{M:Model}{A:Around}{E:Value->Shared->Prop}{i:Nat}{v:V}{u:Value}{Q:Unit->Shared->Prop}(I:Inv X ae σ H s)(hN:X.N.Nodup)(hi:X.N[i]?=some x)(hx:IL X.env.scope x)(r:RelV v u)
  (h:∀s',Inv X ae (σ.set i (some v)) H s'->(∃a,Heap.SameBut a s.heap s'.heap/\(a=X.env.locals\/X.env.cells.lookup x=some a))->Q () s') (hf:X.fn x=true\/X.env.scope.names.lookup x=some .local:=by first | exact .inl rfl | exact .inr rfl | assumption):wpAny M A (storeName X.env x u) Q E s:=by
 obtain⟨m,hn,hl⟩:=id I.loc;have Sy:(X.env.scope.kind==.class || (X.env.scope.kind==.module&&X.env.locals != X.env.globals))=false:=by rw[I.ok.kind];rfl
 have N3:i<σ.length:=by rw[I.len];exact(cw.mp hi).1
 have J0:=I.J0;have yj:∀{a:Addr} {h':Heap},(∃o,s.heap.get? a=some o/\H a=none)->Heap.SameBut a s.heap h'->jq X.prog X.w H h':=λ{a h'} ha hs b ob e=>by
  obtain⟨_,_,tQ⟩:=ha;refine(I.hok b ob e).tN (λc w' hc q=>(hs.2 c ?_).trans q) (λ_ q=>q) (λ_ _ q=>q) λ_ _ _ q=>q
  rintro rfl
  rcases hc with rfl | hc
  ·grind
  ·grind
 rcases hx with hk | hk
 ·refine wpAny_storeName_local hk hn (λh' Xf hs=>?_) Sy
  obtain⟨oL,_,_,Xg,_⟩:=id hn;refine h _ ⟨I.ok,I.os,I.bare,⟨λb o e n hb hx=>?_,λb o e n hb hx=>?_,I.base.free,λb o e hx=>?_,I.base.tups,I.base.frzs,I.base.tbls⟩,⟨_,Xf,λj y v' e1 e2 e3=>?_⟩,λy c e=>?_,I.free,I.freeC,λp hp=>?_,yj ⟨oL,Xg,I.free⟩ hs,by simpa using I.len⟩ ⟨_,hs,.inl rfl⟩
  ·exact(hs.2 b (aJ (bG (az e) I.ok.above))).trans (I.base.keep b o e n hb hx)
  ·obtain⟨sl,e1⟩:=I.base.slot b o e n hb hx;exact⟨sl,(hs.2 b (aJ (bG (az e) I.ok.above))).trans e1⟩
  ·obtain⟨o',e1⟩:=I.base.there b o e hx;exact⟨o',(hs.2 b (aJ (bG (az e) I.ok.above))).trans e1⟩
  ·by_cases hj:j=i
   ·subst hj;rw[hi]at e1;cases e1;rw[qK N3]at e2;cases e2;exact⟨u,r,.inl ⟨hk,by simp⟩⟩
   ·rw[iK (bA hj)]at e2;obtain⟨u',r',q⟩:=hl j y v' e1 e2 e3;refine⟨u',r',?_⟩;rcases q with⟨k,e⟩ | ⟨k,c,e,z⟩
    ·refine .inl ⟨k,?_⟩;have:y≠x:=λe=>hj (tP hN e1 (e▸hi))
     simp[this,e]
    ·exact .inr ⟨k,c,e,z.sameBut hs (J0 y c e)⟩
  ·obtain⟨w',z⟩:=I.cell y c e;exact⟨w',z.sameBut hs (J0 y c e)⟩
  ·obtain⟨e,n,ne,nf,d⟩:=I.pin p hp;exact⟨(hs.2 p.1 ne).trans e,n,ne,nf,d⟩
 ·have J1:X.fn x=true:=by
   grind
  obtain⟨c,hc⟩:=I.ok.has x (.inl hk);obtain⟨w',z⟩:=I.cell x c hc;refine wpAny_storeName_cell I.ok.kind hk hc z (λh' By hs=>?_)
  obtain⟨oc,VJ,Xh⟩:=id z;refine h {s with heap:=h'} ⟨I.ok,I.os,I.bare,⟨λb o e n hb hx=>?_,λb o e n hb hx=>?_,I.base.free,λb o e hx=>?_,I.base.tups,I.base.frzs,I.base.tbls⟩,⟨m,hn.sameBut hs (bA (J0 x c hc)),λj y v' e1 e2 e3=>?_⟩,λy c' e=>?_,I.free,I.freeC,λp hp=>?_,yj ⟨oc,VJ,I.freeC x c hc⟩ hs,by simpa using I.len⟩ ⟨c,hs,.inr hc⟩
  ·exact(hs.2 b (aJ (bG (az e) (I.ok.cab x c J1 hc)))).trans (I.base.keep b o e n hb hx)
  ·obtain⟨sl,e1⟩:=I.base.slot b o e n hb hx;exact⟨sl,(hs.2 b (aJ (bG (az e) (I.ok.cab x c J1 hc)))).trans e1⟩
  ·obtain⟨o',e1⟩:=I.base.there b o e hx;exact⟨o',(hs.2 b (aJ (bG (az e) (I.ok.cab x c J1 hc)))).trans e1⟩
  ·by_cases hj:j=i
   ·subst hj;rw[hi]at e1;cases e1;rw[qK N3]at e2;cases e2;exact⟨u,r,.inr ⟨.inl hk,c,hc,By⟩⟩
   ·rw[iK (bA hj)]at e2;obtain⟨u',r',q⟩:=hl j y v' e1 e2 e3;refine⟨u',r',?_⟩;rcases q with q | ⟨k,c',e,z'⟩
    ·exact .inl q
    ·refine .inr ⟨k,c',e,z'.sameBut hs ?_⟩
     rintro rfl
     exact hj (tP hN e1 (I.ok.inj _ _ _ e hc▸hi))
  ·by_cases Nu:c'=c
   ·grind
   ·obtain⟨w2,z2⟩:=I.cell y c' e;exact⟨w2,z2.sameBut hs Nu⟩
  ·obtain⟨e,n,ne,nf,d⟩:=I.pin p hp;refine⟨(hs.2 p.1 ?_).trans e,n,ne,nf,d⟩;intro q;rw[q,VJ]at e;have q':=bz e;exact d w' (by grind)
def mQ(I:Inv X ae σ H s)(hN:X.N.Nodup)(hi:X.N[i]?=some x)(hx:IL X.env.scope x)(r:RelV v u)
  (h:∀s',Inv X ae (σ.set i (some v)) H s'->Q () s') (hf:X.fn x=true\/X.env.scope.names.lookup x=some .local:=by first | exact .inl rfl | exact .inr rfl | assumption):wpAny M A (storeName X.env x u) Q E s :=
 store_ok2 I hN hi hx r (λs' I' _=>h s' I') hf
def Inv.IQ(I:Inv X ae σ H s)(ho:s'.os=s.os)(u:Un (jw X.stack) ch H H' s.heap s'.heap)(hok:jq X.prog X.w H' s'.heap)(hg:AllBare s'.gens)
  (IM:∀b∈ch,(b∈X.ex\/X.s₀.heap.objs.size<=b)/\b≠X.env.locals/\(∀x c,X.env.cells.lookup x=some c->c≠b)/\∀p∈X.pn++ae,p.1≠b):Inv X ae σ H' s':=by
 obtain⟨h',g',d',t',o'⟩:=s';have e:=ho;subst e;exact I.call u hok hg IM
end
abbrev XK:=Value->Option Addr->Hp->Prop
abbrev St:=List (Option V)
abbrev VK:=V->Hp->Prop
abbrev TE:=St->Hp->VK->Prop
abbrev TT:=St->Hp->(Bool->Hp->Prop)->Prop
abbrev TA:=St->Hp->(List V->Hp->Prop)->Prop
structure tU where
 nx:St->Hp->Prop
 rt:VK
 bk:St->Hp->Prop:=λ_ _=>False
 ct:St->Hp->Prop:=λ_ _=>False
abbrev TS:=tU->St->Hp->Prop
def EP(X:Cx)(ae:List (Addr×Obj))(σ:St)(Q:VK)(u:Value)(s':Shared):Prop:=∃v H',Inv X ae σ H' s'/\RelV v u/\Q v H'
def TP(X:Cx)(ae:List (Addr×Obj))(σ:St)(Q:Bool->Hp->Prop)(b:Bool)(s':Shared):Prop:=∃H',Inv X ae σ H' s'/\Q b H'
def AP(X:Cx)(ae:List (Addr×Obj))(σ:St)(Q:List V->Hp->Prop)(us:List Value)(s':Shared):Prop:=∃vs H',Inv X ae σ H' s'/\Vals vs us/\Q vs H'
def SP(X:Cx)(ae:List (Addr×Obj))(D:tU)(f:Flow)(s':Shared):Prop :=
 match f with
 | .next=>∃bc H',Inv X ae bc H' s'/\D.nx bc H'
 | .brk=>∃bc H',Inv X ae bc H' s'/\D.bk bc H'
 | .cont=>∃bc H',Inv X ae bc H' s'/\D.ct bc H'
 | .ret u=>∃v bc H',Inv X ae bc H' s'/\RelV v u/\D.rt v H'
def PE(X:Cx)(e:Expr)(t:TE):Prop :=
 ∀(ae:List (Addr×Obj)) (s:Shared) (σ:St) (H:Hp) (Q:VK),Inv X ae σ H s->t σ H Q->wpAny (model X.prog X.w) X.A (eval e X.env) (EP X ae σ Q) X.xe s
def PT(X:Cx)(e:Expr)(t:TT):Prop :=
 ∀(ae:List (Addr×Obj)) (s:Shared) (σ:St) (H:Hp) (Q:Bool->Hp->Prop),Inv X ae σ H s->t σ H Q->wpAny (model X.prog X.w) X.A (isTrue e X.env (eval e X.env)) (TP X ae σ Q) X.xe s
def PW(X:Cx)(e:Expr)(t:TT):Prop :=
 ∀(gw:Sem Value) (ae:List (Addr×Obj)) (s:Shared) (σ:St) (H:Hp) (Q:Bool->Hp->Prop),Inv X ae σ H s->t σ H Q->wpAny (model X.prog X.w) X.A (isTrue e X.env gw) (TP X ae σ Q) X.xe s
def PW.pt(h:PW X e t):PT X e t:=h _
def PA(X:Cx)(es:List Expr)(t:TA):Prop :=
 ∀(pos:Pos) (ae:List (Addr×Obj)) (s:Shared) (σ:St) (H:Hp) (Q:List V->Hp->Prop),Inv X ae σ H s->t σ H Q->wpAny (model X.prog X.w) X.A (spliced (backTo pos (starEach es X.env))) (AP X ae σ Q) X.xe s
def PS(X:Cx)(st:Stmt)(t:TS):Prop :=
 ∀(ae:List (Addr×Obj)) (s:Shared) (σ:St) (H:Hp) (D:tU),Inv X ae σ H s->t D σ H->wpAny (model X.prog X.w) X.A (exec st X.env) (SP X ae D) X.xe s
def PSs(X:Cx)(st:List Stmt)(t:TS):Prop :=
 ∀(ae:List (Addr×Obj)) (s:Shared) (σ:St) (H:Hp) (D:tU),Inv X ae σ H s->t D σ H->wpAny (model X.prog X.w) X.A (execs st X.env) (SP X ae D) X.xe s
def thn{α:Type}{t:Sem α}{Q Q':α->Shared->Prop}{M:Model}{A:Around}{E:Value->Shared->Prop}(h:wpAny M A t Q E s)(hQ:∀a s,Q a s->Q' a s):wpAny M A t Q' E s:=mL h hQ λ_ _ x=>x
section
variable {X:Cx}
def J2(i:Nat):TE:=λσ H Q=>∃v,σ[i]?=some (some v)/\Q v H
def tC(v:V):TE:=λ_ H Q=>Q v H
def pe_var{i:Nat}{x:Str}{pos:Pos}(hN:X.N[i]?=some x)(hv:NZ X.env.scope x)(hd:(x==("__debug__":Str))=false:=by decide)(Bx:(x==("__classdict__":Str))=false:=by decide):PE X (.Name x pos) (J2 i):=by
 intro ae s σ H Q I h;obtain⟨v,e,h⟩:=h;obtain⟨m,hn,hl⟩:=I.loc;obtain⟨u,r,l⟩:=hl i x v hN e hv;have gT:EP X ae σ Q u s:=⟨v,H,I,r,h⟩;rcases l with⟨hk,hm⟩ | ⟨hk,c,hc,pw⟩
 ·exact wpAny_Name (wpAny_loadName_local I.ok.kind hk hn hm gT) hd
 ·rcases hk with hk | hk
  ·exact wpAny_Name (wpAny_loadName_cell I.ok.kind hk hc pw gT) hd
  ·exact wpAny_Name (wpAny_loadName_free I.ok.kind hk hc pw gT Bx) hd
def J3{i j pos}:PE X (.Constant (.int i) j pos) (tC (.int i)):=λ_ _ _ H _ I h=>wpAny_Constant_int ⟨.int i,H,I.tok _,⟨_,rfl⟩,h⟩
def N4{b j pos}:PE X (.Constant (.bool b) j pos) (tC (.bl b)):=λ_ _ _ H _ I h=>Constant_bool ⟨.bl b,H,I,rfl,h⟩
def J4{j pos}:PE X (.Constant .none j pos) (tC .aV):=λ_ _ _ H _ I h=>Constant_none ⟨.aV,H,I,rfl,h⟩
def J5{x j pos}:PE X (.Constant (.str x) j pos) (tC (.str x)):=λ_ _ _ H _ I h=>Calls.Constant_str ⟨.str x,H,I.tok _,⟨_,rfl⟩,h⟩
def Gl(X:Cx)(x:Str):Prop:=X.env.kindOf x=some .globalImplicit
def ld_glob{E:Value->Shared->Prop}{ae:List (Addr×Obj)}{s:Shared}{σ:St}{H:Hp}{x:Str}{u:Value}{pos:Pos}{Q:Value->Shared->Prop}(I:Inv X ae σ H s)(hg:Gl X x)(hm:X.mg x=some u)(h:Q u s)
  (hd:(x==("__debug__":Str))=false:=by decide):wpAny (model X.prog X.w) X.A (eval (.Name x pos) X.env) Q E s :=
 BL I.ok.kind hg (Calls.loadGlobal_global (by rw[I.ok.glob];exact I.mod.glob.keeps I.bk) hm h) hd
def ld_blt{E:Value->Shared->Prop}{ae:List (Addr×Obj)}{s:Shared}{σ:St}{H:Hp}{x:Str}{u:Value}{pos:Pos}{Q:Value->Shared->Prop}(I:Inv X ae σ H s)(hg:Gl X x)(hm:X.mg x=none)(hv:bootBuiltins x=some u)(h:Q u s)
  (hn:x≠"__name__":=by decide) (hd:(x==("__debug__":Str))=false:=by decide):wpAny (model X.prog X.w) X.A (eval (.Name x pos) X.env) Q E s:=by
 obtain⟨mb,h1,h2⟩:=I.mod.blt;exact BL I.ok.kind hg (Calls.loadGlobal_builtin (by rw[I.ok.glob];exact I.mod.glob.keeps I.bk) hm (by rw[I.ok.blt];exact h1.keeps I.bk) ((h2 x hn).trans hv) h) hd
def jy(hg:Gl X x)(hm:X.mg x=some u)(r:RelV v u)(hd:(x==("__debug__":Str))=false:=by decide):PE X (.Name x pos) (tC v) :=
 λ_ _ _ H _ I h=>ld_glob I hg hm ⟨v,H,I,r,h⟩ hd
def FL{x:Str}{v:V}{u:Value}{pos:Pos}(hg:Gl X x)(hm:X.mg x=none)(hv:bootBuiltins x=some u)(r:RelV v u)(hn:x≠"__name__":=by decide)(hd:(x==("__debug__":Str))=false:=by decide):PE X (.Name x pos) (tC v) :=
 λ_ _ _ H _ I h=>ld_blt I hg hm hv ⟨v,H,I,r,h⟩ hn hd
variable {a b:Expr} {ta tb:TE} {pos:Pos}
variable {tA RB:TT} {rest:List Expr}
def Sz(t u:TT):TT:=λσ H Q=>t σ H λc H1=>if c=true then u σ H1 Q else Q false H1
def Xi(t u:TT):TT:=λσ H Q=>t σ H λc H1=>if c=true then Q true H1 else u σ H1 Q
def SA(t:TT):TT:=λσ H Q=>t σ H λc H1=>Q (!c) H1
def FN(ha:PT X a tA):PW X (.BoolOp .And [a] pos) tA:=by
 intro wh ae s σ H Q I h;refine isTrue_and (thn (ha ae s σ H Q I h) λc s1 e=>?_)
 cases c with
 | true=>exact isTrue_and_nil e
 | false=>exact e
def J6(ha:PT X a tA):PW X (.BoolOp .Or [a] pos) tA:=by
 intro wh ae s σ H Q I h;refine isTrue_or (thn (ha ae s σ H Q I h) λc s1 e=>?_)
 cases c with
 | false=>exact isTrue_or_nil e
 | true=>exact e
def J7(ha:PT X a tA)(hb:PW X (.BoolOp .And (b::rest) pos) RB):PW X (.BoolOp .And (a::b::rest) pos) (Sz tA RB):=by
 intro wh ae s σ H Q I h;refine isTrue_and (thn (ha ae s σ H _ I h) λc s1 ⟨H1,I1,q1⟩=>?_)
 cases c with
 | true=>exact hb wh ae s1 σ H1 Q I1 q1
 | false=>exact⟨H1,I1,q1⟩
def N5(ha:PT X a tA)(hb:PW X (.BoolOp .Or (b::rest) pos) RB):PW X (.BoolOp .Or (a::b::rest) pos) (Xi tA RB):=by
 intro wh ae s σ H Q I h;refine isTrue_or (thn (ha ae s σ H _ I h) λc s1 ⟨H1,I1,q1⟩=>?_)
 cases c with
 | true=>exact⟨H1,I1,q1⟩
 | false=>exact hb wh ae s1 σ H1 Q I1 q1
def J8(ha:PT X a tA):PT X (.UnaryOp .Not a pos) (SA tA):=by
 intro ae s σ H Q I h;exact isTrue_not (ha ae s σ H (λc H1=>Q (!c) H1) I h)
def N6(ta:TE):TE:=λσ H Q=>ta σ H λx H1=>∃c,x=.bl c/\Q (.bl (!c)) H1
def Cf{op}(h:PE X a t):PE X (.BoolOp op [a] pos) t:=λae s σ H Q I hw=>BoolOp_one (h ae s σ H Q I hw)
def J9(ha:PE X a ta):PE X (.UnaryOp .Not a pos) (N6 ta):=by
 intro ae s σ H Q I h;refine UnaryOp_ (thn (ha ae s σ H _ I h) λv s1 ⟨x,H1,I1,r1,q1⟩=>?_)
 obtain⟨c,rfl,q1⟩:=q1;cases r1;exact not_of (gO ⟨.bl (!c),H1,I1,rfl,q1⟩)
def Xj(t:TT)(ta tb:TE):TE:=λσ H Q=>t σ H λc H1=>if c=true then ta σ H1 Q else tb σ H1 Q
def Cg(hc:PT X c tA)(ha:PE X a ta)(hb:PE X b tb):PE X (.IfExp c a b pos) (Xj tA ta tb):=by
 intro ae s σ H Q I h;refine wpAny_IfExp (thn (hc ae s σ H _ I h) λd s1 ⟨H1,I1,q1⟩=>?_)
 cases d with
 | true=>exact ha ae s1 σ H1 Q I1 q1
 | false=>exact hb ae s1 σ H1 Q I1 q1
end
def rG(K:W.Frag)(H:Hp)(a:Addr)(xs:List V):Prop :=
 Rd H a (.lst xs) \/
  ∃(o:Obj) (ai:Array Value) (n:Nat),K.lookup a=some o/\o.cls=.type "list"/\o.dict=none/\o.data=.seq ai n/\ai.size<=sizeLine/\Vals xs ai.toList
def fJ.sq{K:W.Frag}{H:Hp}{a:Addr}{xs:List V}(h:fJ K H a xs):rG K H a xs:=by
 rcases h with h | ⟨ai,n,e,z,r⟩
 ·exact .inl h
 ·exact .inr ⟨_,ai.toArray,n,e,rfl,rfl,rfl,by grind,by grind⟩
def SD:Value->Option V
 | .none=>some .aV
 | .bool b=>some (.bl b)
 | .int i _=>some (.int i)
 | .str x _=>some (.str x)
 | .bytes b _=>some (.Nn b)
 | .float b _=>some (.Rq b)
 | .ref a=>some (.ref a)
 | .type n=>some (.ty n)
 | _=>none
def RelV.abs(r:RelV x u):SD u=some x:=by
 cases x with
 | aV=>cases r;rfl
 | bl _=>cases r;rfl
 | int _=>obtain⟨t,rfl⟩:=r;rfl
 | str _=>obtain⟨t,rfl⟩:=r;rfl
 | Nn _=>obtain⟨t,rfl⟩:=r;rfl
 | Rq _=>obtain⟨t,rfl⟩:=r;rfl
 | ref _=>cases r;rfl
 | ty _=>cases r;rfl
def RelV.inj(r:RelV x u)(q:RelV y u):x=y:=bz (r.abs.symm.trans q.abs)
theorem Vals.inj:∀{xs ys:List V} {us:List Value},Vals xs us->Vals ys us->xs=ys
 | _,_,_,.nil,.nil=>rfl
 | _,_,_,.cons r t,.cons r' t'=>by rw[r.inj r',Vals.inj t t']
section
variable {X:Cx} {ae:List (Addr×Obj)} {σ:St} {H:Hp} {s:Shared} {a:Addr} {xs ys:List V}
def ek.of{K:W.Frag}(h:H a=some (.ak xs)):ek K H a xs:=.inl (.inl h)
def Inv.list(I:Inv X ae σ H s)(h:rG X.K H a xs):∃ai:List Value,Vals xs ai/\PlainL s.heap a ai.toArray/\xs.length<=sizeLine:=by
 rcases h with h | ⟨o,ai,n,hk,hc,hd,hs,hz,r⟩
 ·obtain⟨z,ai,n,r,e⟩:=h.ok I.hok;exact⟨ai,r,⟨_,n,e,rfl,rfl,rfl⟩,z⟩
 ·refine⟨ai.toList,r,⟨o,n,I.mO a o hk,hc,hd,by simp_all⟩,?_⟩
  have e:=r.length;simp only[kd]at e
  lia
def Inv.Ci(I:Inv X ae σ H s)(h:ek X.K H a xs):∃ai:List Value,Vals xs ai/\lx s.heap a ai.toArray/\xs.length<=sizeLine:=by
 rcases h with h | ⟨o,ai,n,hk,hc,⟨hs,hd⟩,hz,r⟩
 ·obtain⟨z,ai,r,p⟩:=h.ok I.hok;exact⟨ai,r,p,z⟩
 ·refine⟨ai.toList,r,⟨o,I.mO a o hk,hc,⟨n,by simp_all⟩,hd⟩,?_⟩
  have e:=r.length;simp only[kd]at e
  lia
def Inv.tuple(I:Inv X ae σ H s)(h:ek X.K H a xs):∃ai:List Value,Vals xs ai/\IsTup s.heap a ai.toArray/\xs.length<=sizeLine:=by
 obtain⟨ai,r,p,z⟩:=I.Ci h;exact⟨ai,r,p.is,z⟩
def Inv.jz(I:Inv X ae σ H s)(h:rG X.K H a xs)(h':rG X.K H a ys):xs=ys:=by
 obtain⟨ai,r,⟨o,n,e,_,_,d⟩,_⟩:=I.list h;obtain⟨ly,r',⟨o',n',e',_,_,d'⟩,_⟩:=I.list h';rw[e]at e';cases e';rw[d]at d';injection d' with d1 _
 have:ai=ly:=by grind
 subst this;exact r.inj r'
def Inv.iq(I:Inv X ae σ H s)(h:ek X.K H a xs)(h':ek X.K H a ys):xs=ys:=by
 obtain⟨ai,r,⟨o,e,_,n,d⟩,_⟩:=I.tuple h;obtain⟨ly,r',⟨o',e',_,n',d'⟩,_⟩:=I.tuple h';rw[e]at e';cases e';rw[d]at d';injection d' with d1 _
 have:ai=ly:=by grind
 subst this;exact r.inj r'
end
section
variable {X:Cx} {st:Stmt} {rest:List Stmt} {t u:TS} {e:Expr} {te:TE} {pos:Pos}
def IS:TS:=λD σ H=>D.nx σ H
def SE(t u:TS):TS:=λD σ H=>t {D with nx:=u D} σ H
def FO:PSs X [] IS:=λ_ _ σ H _ I h=>qY ⟨σ,H,I,h⟩
def Cj(h1:PS X st t)(h2:PSs X rest u):PSs X (st::rest) (SE t u):=by
 intro ae s σ H D I h;refine wpAny_execs_cons (thn (h1 ae s σ H {D with nx:=u D} I h) λf s1 q=>?_)
 cases f with
 | next =>
  obtain⟨bc,H',I',q⟩:=q;exact h2 ae s1 bc H' D I' q
 | ret v=>exact q
 | brk=>exact q
 | cont=>exact q
def FP(h1:PS X st t):PSs X [st] t:=by
 intro ae s σ H D I h;refine wpAny_execs_cons (thn (h1 ae s σ H D I h) λf s1 q=>?_)
 cases f with
 | next=>exact qY q
 | ret v=>exact q
 | brk=>exact q
 | cont=>exact q
def Ka:TS:=λD σ H=>D.bk σ H
def N7:TS:=λD σ H=>D.ct σ H
def FQ:PS X (.Pass pos) IS:=λ_ _ σ H _ I h=>wpAny_Pass ⟨σ,H,I,h⟩
def Ck:PS X (.Break pos) Ka:=λ_ _ σ H _ I h=>wpAny_Break ⟨σ,H,I,h⟩
def tV:PS X (.Continue pos) N7:=λ_ _ σ H _ I h=>wpAny_Continue ⟨σ,H,I,h⟩
def Inv.quiet{ae:List (Addr×Obj)}{σ:St}{H:Hp}{s:Shared}(I:Inv X ae σ H s):interactive X.env=false:=by simp[interactive,I.ok.kind]
def N8(te:TE):TS:=λD σ H=>te σ H λ_ H1=>D.nx σ H1
def FT(he:PE X e te)(hs:swapsWith e none pos.line X.env=pure false:=by rfl):PS X (.Expr e pos) (N8 te):=by
 intro ae s σ H D I h;exact wpAny_Expr_any (thn (he ae s σ H _ I h) (by rintro v s1 ⟨x,H1,I1,r1,q1⟩;exact⟨σ,H1,I1,q1⟩)) I.quiet hs
def SF(te:TE):TS:=λD σ H=>te σ H D.rt
def Kb(he:PE X e te):PS X (.Return (some e) pos) (SF te):=by
 intro ae s σ H D I h;exact wpAny_Return_some (thn (he ae s σ H _ I h) (by rintro v s1 ⟨x,H1,I1,r1,q1⟩;exact⟨x,σ,H1,I1,r1,q1⟩))
def N9:TS:=λD _ H=>D.rt .aV H
def FU:PS X (.Return none pos) N9:=λ_ _ σ H _ I h=>wpAny_Return_none ⟨.aV,σ,H,I,rfl,h⟩
def SG(c:TT)(t u:TS):TS:=λD σ H=>c σ H λb H1=>if b=true then t D σ H1 else u D σ H1
def Oa(hc:PT X c tc)(ha:PSs X a t)(hb:PSs X b u):PS X (.If c a b pos) (SG tc t u):=by
 intro ae s σ H D I h;refine wpAny_If (thn (hc ae s σ H _ I h) λd s1 ⟨H1,I1,q1⟩=>?_)
 cases d with
 | true=>exact ha ae s1 σ H1 D I1 q1
 | false=>exact hb ae s1 σ H1 D I1 q1
end
abbrev TG:=V->St->Hp->(St->Hp->Prop)->Prop
abbrev IT:=List V->St->Hp->(St->Hp->Prop)->Prop
def PG(X:Cx)(target:Expr)(t:TG):Prop :=
 ∀(ae:List (Addr×Obj)) (s:Shared) (σ:St) (H:Hp) (v:V) (u:Value) (Q:St->Hp->Prop),Inv X ae σ H s->RelV v u->t v σ H Q ->
  wpAny (model X.prog X.w) X.A (assign target X.env u) (λ_ s'=>∃bc H',Inv X ae bc H' s'/\Q bc H') X.xe s
def PGs(X:Cx)(ts:List Expr)(t:IT):Prop :=
 ∀(ae:List (Addr×Obj)) (s:Shared) (σ:St) (H:Hp) (vs:List V) (us:List Value) (Q:St->Hp->Prop),Inv X ae σ H s->Vals vs us->t vs σ H Q ->
  wpAny (model X.prog X.w) X.A (assignInOrder ((assignEach ts X.env).map (·.2)) us) (λ_ s'=>∃bc H',Inv X ae bc H' s'/\Q bc H') X.xe s
abbrev Cm:=V->V->V->Hp->(Hp->Prop)->Prop
def Cn(X:Cx)(t:Cm):Prop :=
 ∀(ae:List (Addr×Obj)) (s:Shared) (σ:St) (H:Hp) (o i v:V) (ov iv u:Value) (Q:Hp->Prop),Inv X ae σ H s->RelV o ov->RelV i iv->RelV v u->t o i v H Q ->
  wpAny (model X.prog X.w) X.A (setItem ov iv u) (λ_ s'=>∃H',Inv X ae σ H' s'/\Q H') X.xe s
abbrev VL:=V->V->Hp->VK->Prop
def Xk(X:Cx)(op:Operator)(t:VL):Prop :=
 ∀(ae:List (Addr×Obj)) (s:Shared) (σ:St) (H:Hp) (x y:V) (v u:Value) (Q:VK),Inv X ae σ H s->RelV x v->RelV y u->t x y H Q ->
  wpAny (model X.prog X.w) X.A (inplaceOp op v u) (EP X ae σ Q) X.xe s
section
variable {X:Cx} {pos:Pos}
def gName(i:Nat):TG:=λv σ H Q=>Q (σ.set i (some v)) H
def FV(hN:X.N.Nodup)(hi:X.N[i]?=some x)(hx:IL X.env.scope x)(hf:X.fn x=true\/X.env.scope.names.lookup x=some .local:=by first | exact .inl rfl | exact .inr rfl | assumption):PG X (.Name x pos) (gName i):=by
 intro ae s σ H v u Q I r h;exact wpAny_assign_Name (mQ I hN hi hx r (λs' I'=>⟨_,H,I',h⟩) hf)
def SH:IT:=λvs σ H Q=>vs=[]/\Q σ H
def Ob(t:TG)(u:IT):IT:=λvs σ H Q=>∃v r,vs=v::r/\t v σ H λbc H'=>u r bc H' Q
def FW:PGs X [] SH:=by
 intro ae s σ H vs us Q I r h;obtain⟨e,h⟩:=h;subst e;cases r;exact assignInOrder_nil ⟨σ,H,I,h⟩
def Co(h1:PG X e t)(h2:PGs X es u)
  (hs:(assignEach (e::es) X.env).map (·.2)=assign e X.env::(assignEach es X.env).map (·.2):=by rfl):PGs X (e::es) (Ob t u):=by
 intro ae s σ H vs us Q I r h;obtain⟨v,vr,e1,h⟩:=h;subst e1;cases r with
 | cons r rr =>
  rw[hs];refine assignInOrder_cons (thn (h1 ae s σ H _ _ _ I r h) λ_ s1 ⟨gi,H1,I1,q1⟩=>?_)
  exact h2 ae s1 gi H1 _ _ Q I1 rr q1
def SJ(K:W.Frag)(n:Nat)(t:IT):TG:=λv σ H Q=>∃a xs,v=.ref a/\ek K H a xs/\xs.length=n/\t xs σ H Q
def Kc{es:List Expr}{k:Nat}{t:IT}{n:Nat}(hc:X.calm=true)(h:PGs X es t)
  (hn:(assignEach es X.env).length=n:=by rfl) (jr:(assignEach es X.env).findIdx? (·.1)=none:=by rfl):PG X (.Tuple es k pos) (SJ X.K n t):=by
 intro ae s σ H v u Q I r hw;obtain⟨a,xs,e1,hq,hl,hw⟩:=hw;subst e1;cases r;obtain⟨ai,rv,ht,hz⟩:=I.tuple hq;refine assign_Tuple_tuple (I.ok.hd hc) ht (by simp[hn,<-hl,rv.length]) jr λh' hx=>?_
 have I1:=I.kept (t':=s.toks) λb o e=>hx b o (aJ (az e)) e
 exact h ae _ σ H xs _ Q I1 (by grind) hw
def SK(to ti:TE)(t:Cm):TG:=λv σ H Q=>to σ H λo H1=>ti σ H1 λi H2=>t o i v H2 λH3=>Q σ H3
def Ke(ho:PE X o to)(hi:PE X i ti)(hs:Cn X t)
  (ha:∀v,assign (.Subscript o i pos) X.env v=(do
   let ov <-holding [v] (eval o X.env)
   let iv <-holding [v,ov] (eval i X.env)
   standAt pos
   holding [v,ov,iv] (setItem ov iv v)
   release [v,ov,iv] []):=by intro _;rfl):PG X (.Subscript o i pos) (SK to ti t):=by
 intro ae s σ H v u Q I r h;rw[ha];refine af (cz (thn (ho ae s σ H _ I h) λov s1 ⟨x,H1,I1,r1,q1⟩=>?_))
 refine af (cz (thn (hi ae s1 σ H1 _ I1 q1) λiv s2 ⟨y,H2,I2,r2,q2⟩=>?_))
 refine af (rh (af (cz (thn (hs ae s2 σ H2 x y v ov iv u _ I2 r1 r2 r q2) λ_ s3 ⟨H3,I3,q3⟩=>?_))))
 exact wpAny_release ⟨σ,H3,I3,q3⟩
def FX(te:TE)(g:TG):TS:=λD σ H=>te σ H λx H1=>g x σ H1 D.nx
def Cp(he:PE X e te)(hg:PG X tg g)(hs:swapsWithSole [tg] e pos.line X.env=pure false:=by rfl)(hw:swappedStores [tg] e X.env=pure none:=by rfl)
  (h1:(assignEach [tg] X.env).map (·.2)=[assign tg X.env]:=by rfl):PS X (.Assign [tg] e pos) (FX te g):=by
 intro ae s σ H D I h;refine wpAny_Assign_stores (thn (he ae s σ H _ I h) λv s1 ⟨x,H1,I1,r1,q1⟩=>?_) hs hw
 rw[h1];exact thn (hg ae s1 σ H1 x v _ I1 r1 q1) λ_ s2 q=>q
def Kf(hN:X.N.Nodup)(hi:X.N[i]?=some x)(hx:IL X.env.scope x)(he:PE X e te)(hs:swapsWith e (some (.Name x oF)) pos.line X.env=pure false:=by rfl)(hf:X.fn x=true\/X.env.scope.names.lookup x=some .local:=by first | exact .inl rfl | exact .inr rfl | assumption) :
  PS X (.Assign [.Name x oF] e pos) (FX te (gName i)):=by
 intro ae s σ H D I h;refine wpAny_Assign_Name (thn (he ae s σ H _ I h) λv s1 ⟨y,H1,I1,r1,q1⟩=>?_) hs
 exact mQ I1 hN hi hx r1 (λs2 I2=>⟨_,H1,I2,q1⟩) hf
def SM(i:Nat)(te:TE)(ti:VL):TS:=λD σ H=>∃x,σ[i]?=some (some x)/\te σ H λy H1=>ti x y H1 λz H2=>D.nx (σ.set i (some z)) H2
def Kg(hN:X.N.Nodup)(hi:X.N[i]?=some x)(hx:IL X.env.scope x)(he:PE X e te)(ho:Xk X op ti)(hf:X.fn x=true\/X.env.scope.names.lookup x=some .local:=by first | exact .inl rfl | exact .inr rfl | assumption) :
  PS X (.AugAssign (.Name x oF) op e pos) (SM i te ti):=by
 intro ae s σ H D I h;obtain⟨v,e1,h⟩:=h;obtain⟨m,hn,hl⟩:=I.loc;have FY:NZ X.env.scope x:=by rcases hx with k | k;exact .inl k;exact .inr (.inl k)
 obtain⟨u,r,l⟩:=hl i x v hi e1 FY;refine wpAny_AugAssign_Name ?_;have go:wpAny (model X.prog X.w) X.A (eval e X.env) (λw zM=>wpAny (model X.prog X.w) X.A (inplaceOp op u w) (λr SN=>wpAny (model X.prog X.w) X.A (storeName X.env x r) (λ_=>SP X ae D .next) X.xe SN) X.xe zM) X.xe s:=by
  refine thn (he ae s σ H _ I h) λw s1 ⟨y,H1,I1,r1,q1⟩=>?_
  refine thn (ho ae s1 σ H1 v y u w _ I1 r r1 q1) λz s2 ⟨zv,H2,I2,r2,q2⟩=>?_
  exact mQ I2 hN hi hx r2 (λs3 I3=>⟨_,H2,I3,q2⟩) hf
 rcases l with⟨hk,hm⟩ | ⟨hk,c,hc,pw⟩
 ·exact wpAny_loadName_local I.ok.kind hk hn hm go
 ·rcases hk with hk | hk
  ·exact wpAny_loadName_cell I.ok.kind hk hc pw go
  ·rcases hx with k | k
   ·have:X.env.scope.names.lookup x=some .free:=hk;rw[k]at this;cases this
   ·have:X.env.scope.names.lookup x=some .free:=hk;rw[k]at this;cases this
end
section
variable {X:Cx} {pos:Pos}
def Kh(c:TT)(tb:TS):TS:=λD σ H=>∃W:Nat->St->Hp->Prop,(∃m,W m σ H)/\∀m σ H,W m σ H ->
 c σ H λb H1=>if b=true then ∃N:St->Hp->Prop,(∀bc H',N bc H'->∃m',m'<m/\W m' bc H')/\tb {D with nx:=N,ct:=N,bk:=D.nx} σ H1 else D.nx σ H1
def Cq(hp:PassesOwn (model X.prog X.w) X.A X.env X.xe)(hc:PT X c tc)(hb:PSs X body tb):PS X (.While c body [] pos) (Kh tc tb):=by
 intro ae s σ H D I h;obtain⟨W,⟨m0,w0⟩,mR⟩:=h;refine wpAny_While (codeAny_whileLoop (λn s'=>∃bc H',Inv X ae bc H' s'/\W n bc H') ?_ m0 ⟨σ,H,I,w0⟩)
 rintro n s1 ⟨gi,H1,I1,w1⟩
 refine iS hp (thn (hc ae s1 gi H1 _ I1 (mR n gi H1 w1)) λb s2 ⟨H2,I2,q2⟩=>?_)
 cases b with
 | true =>
  obtain⟨N,hN,q2⟩:=q2;rw[if_pos rfl];refine iS hp (thn (hb ae s2 gi H2 _ I2 q2) λf s3 q3=>?_)
  cases f with
  | next =>
   obtain⟨lA,H3,I3,n3⟩:=q3;obtain⟨m',hm,w3⟩:=hN lA H3 n3;exact⟨m',hm,lA,H3,I3,w3⟩
  | cont =>
   obtain⟨lA,H3,I3,n3⟩:=q3;obtain⟨m',hm,w3⟩:=hN lA H3 n3;exact⟨m',hm,lA,H3,I3,w3⟩
  | brk=>exact q3
  | ret v=>exact q3
 | false =>
  rw[if_neg du];exact qY ⟨gi,H2,I2,q2⟩
end
structure It where
 go:Nat->Hp->Prop
 yld:Nat->Hp->V->Hp->Prop
 stop:Nat->Hp->Prop
def mS(X:Cx)(ae:List (Addr×Obj))(H:Hp)(b:Addr):Prop :=
 H b=none/\b≠X.env.locals/\b∉X.fs/\(b∈X.ex\/X.s₀.heap.objs.size<=b)/\(∀x c,X.env.cells.lookup x=some c->c≠b)/\∀p∈X.pn++ae,p.1≠b
def Inv.rH{X:Cx}{ae:List (Addr×Obj)}{σ:St}{H H':Hp}{s:Shared}{b:Addr}(I:Inv X ae σ H s)(hb:s.heap.objs.size<=b)(hn:H' b=none):mS X ae H' b:=by
 refine⟨hn,kr (bG I.lt hb),I.Sv hb,.inr (aL I.sz hb),λx c e z=>?_,λp hp z=>?_⟩
 ·obtain⟨v,q⟩:=I.cell x c e;exact absurd (bG q.lt (by grind)) (dg _)
 ·exact absurd (bG (az (I.pin p hp).1) (by grind)) (dg _)
structure Turn (P:Program) (w:World) (K:W.Frag) (tg:Expr) (J:It) (fp:List Addr) (it:Addr) (tn:Nat->Heap->Prop):Prop where
 mem:it∈fp
 obj:∀i h,tn i h->∀b∈fp,∃o,h.get? b=some o/\∀v,o.data≠.cell v
 keep:∀i h h',tn i h->(∀b∈fp,∀o,h.get? b=some o->h'.get? b=some o)->tn i h'
 item:∀(X:Cx),X.prog=P->X.w=w->X.K=K->X.calm=true->∀(i:Nat) (ae:List (Addr×Obj)) (s:Shared) (σ:St) (H:Hp) (E:Value->Shared->Prop),Inv X ae σ H s->(∀b∈fp,mS X ae H b)->tn i s.heap->J.go i H ->
  wpAny (model P w) X.A (pyNext (.ref it)) (λr s1=>∃u,r=some u /\
   wpAny (model P w) X.A (letOwnedTupleGo tg (.ref it) u) (λ_ s2=>∃x H',Inv X ae σ H' s2/\RelV x u/\J.yld i H x H'/\tn (i+1) s2.heap/\∀b∈fp,H' b=none) E s1) E s
 done:∀(X:Cx),X.prog=P->X.w=w->X.K=K->X.calm=true->∀(i:Nat) (ae:List (Addr×Obj)) (s:Shared) (σ:St) (H:Hp) (E:Value->Shared->Prop),Inv X ae σ H s->(∀b∈fp,mS X ae H b)->tn i s.heap->J.stop i H ->
  wpAny (model P w) X.A (pyNext (.ref it)) (λr s1=>r=none/\Inv X ae σ H s1) E s
 self:∀(A:Around) (i:Nat) (s:Shared) (Q:Value->Shared->Prop) (E:Value->Shared->Prop),tn i s.heap->Q (.ref it) s->wpAny (model P w) A (pyIter (.ref it)) Q E s
abbrev TI:=St->Hp->(It->Hp->Prop)->Prop
def VM(X:Cx)(ae:List (Addr×Obj))(σ:St)(tg:Expr)(R:It->Hp->Prop)(SO:Value)(s2:Shared):Prop :=
 ∃(it:Addr) (fp:List Addr) (tn:Nat->Heap->Prop) (J:It) (H':Hp),SO=.ref it/\Inv X ae σ H' s2/\Turn X.prog X.w X.K tg J fp it tn/\tn 0 s2.heap/\(∀b∈fp,mS X ae H' b)/\R J H'
def PI(X:Cx)(tg iter:Expr)(wi:TI):Prop :=
 ∀(ae:List (Addr×Obj)) (s:Shared) (σ:St) (H:Hp) (R:It->Hp->Prop),Inv X ae σ H s->wi σ H R ->
  wpAny (model X.prog X.w) X.A (eval iter X.env) (λv s1=>wpAny (model X.prog X.w) X.A (pyIter v) (VM X ae σ tg R) X.xe s1) X.xe s
def yk(ho:s.heap.get? it=some o)(hc:o.cls=.type n)(hd:o.data=.fields vs)
  (hn:["enumerate","zip","dict_itemiterator","dict_reverseitemiterator","odict_iterator","itertools.zip_longest","itertools.pairwise"].contains n=false) (hQ:Q () s):wpAny M A (letOwnedTupleGo tg (.ref it) u) Q E s:=by
 unfold letOwnedTupleGo;cases tg<;>first
  | exact ag hQ
  | (cases u<;>first
    | exact ag hQ
    | (refine af (wpAny_load ho ?_)
       rw[hc,hd];show wpAny M A (if(["enumerate","zip","dict_itemiterator","dict_reverseitemiterator","odict_iterator","itertools.zip_longest","itertools.pairwise"].contains n&&vs[0]?==some (rawInt _))=true then _ else _) Q E s
       rw[if_neg (by grind)]
       exact ag hQ))
def RC(K:W.Frag)(a:Addr):It :=
 ⟨λi H=>∃xs x,rG K H a xs/\xs[i]?=some x,λi H x H'=>H'=H/\∀xs,rG K H a xs->xs[i]?=some x,λi H=>∃xs,rG K H a xs/\xs.length<=i⟩
def SQ(K:W.Frag)(a:Addr):It :=
 ⟨λi H=>∃xs x,ek K H a xs/\xs[i]?=some x,λi H x H'=>H'=H/\∀xs,ek K H a xs->xs[i]?=some x,λi H=>∃xs,ek K H a xs/\xs.length<=i⟩
def Oc(lo:Int)(n:Nat):It:=⟨λi _=>i<n,λi H x H'=>H'=H/\x=.int (lo+i),λi _=>n<=i⟩
def zN{P:Program}{w:World}{K:W.Frag}{tg:Expr}(a it:Addr):Turn P w K tg (RC K a) [it] it (λi h=>h.IsListIter it a i) where
 mem:=by simp
 obj:=λi h st b hb=>by
  have e:b=it:=by grind
  subst e;obtain⟨o,e,c,d⟩:=st;exact⟨o,e,λv z=>by grind⟩
 keep:=λi h h' st k=>st.at λo e=>k it (by simp) o e
 item:=by
  intro X hP hw hK hc i ae s σ H E I hf st hg;subst hP hw hK;obtain⟨xs,x,hq,hx⟩:=hg;obtain⟨ai,rv,p,hz⟩:=I.list hq;obtain⟨u,hu,ru⟩:=rv.get hx;obtain⟨f0,f1,f2,f3,f4,f5⟩:=hf it (by simp)
  refine wpAny_pyNext_list_item st p.isList (by simpa using hu) λh' bB sb=>?_
  have I1:=I.turned (t':=s.toks) (λb o hb e=>(sb.2 b hb).trans e) f0 f1 f3 f4 f5
  obtain⟨o,e,c,d⟩:=id bB;exact⟨u,rfl,yk e c d (by decide) ⟨x,H,I1,ru,⟨rfl,λys hy=>by rw[I.jz hy hq];exact hx⟩,bB,λb hb=>(hf b hb).1⟩⟩
 done:=by
  intro X hP hw hK hc i ae s σ H E I hf st hg;subst hP hw hK;obtain⟨xs,hq,hx⟩:=hg;obtain⟨ai,rv,p,hz⟩:=I.list hq;obtain⟨f0,f1,f2,f3,f4,f5⟩:=hf it (by simp)
  have hl:=rv.length;exact wpAny_pyNext_list_end (I.ok.hd hc) st p.isList (by simp;lia) λh' eb=>⟨rfl,I.turned (λb o hb e=>eb b o hb e) f0 f1 f3 f4 f5⟩
 self:=λ_ _ _ _ _ st h=>wpAny_pyIter_listiter st h
def wD{P:Program}{w:World}{K:W.Frag}{tg:Expr}(a it:Addr):Turn P w K tg (SQ K a) [it] it (λi h=>h.IsTupleIter it a i) where
 mem:=by simp
 obj:=λi h st b hb=>by
  have e:b=it:=by grind
  subst e;obtain⟨o,e,c,d⟩:=st;exact⟨o,e,λv z=>by grind⟩
 keep:=λi h h' st k=>st.at λo e=>k it (by simp) o e
 item:=by
  intro X hP hw hK hc i ae s σ H E I hf st hg;subst hP hw hK;obtain⟨xs,x,hq,hx⟩:=hg;obtain⟨ai,rv,p,hz⟩:=I.tuple hq;obtain⟨u,hu,ru⟩:=rv.get hx;obtain⟨f0,f1,f2,f3,f4,f5⟩:=hf it (by simp)
  refine wpAny_pyNext_tuple_item st (p) (by simpa using hu) λh' bB sb=>?_
  have I1:=I.turned (t':=s.toks) (λb o hb e=>(sb.2 b hb).trans e) f0 f1 f3 f4 f5
  obtain⟨o,e,c,d⟩:=id bB;exact⟨u,rfl,yk e c d (by decide) ⟨x,H,I1,ru,⟨rfl,λys hy=>by rw[I.iq hy hq];exact hx⟩,bB,λb hb=>(hf b hb).1⟩⟩
 done:=by
  intro X hP hw hK hc i ae s σ H E I hf st hg;subst hP hw hK;obtain⟨xs,hq,hx⟩:=hg;obtain⟨ai,rv,p,hz⟩:=I.tuple hq;obtain⟨f0,f1,f2,f3,f4,f5⟩:=hf it (by simp)
  have hl:=rv.length;exact wpAny_pyNext_tuple_end (I.ok.hd hc) st (p) (by simp;lia) λh' eb=>⟨rfl,I.turned (λb o hb e=>eb b o hb e) f0 f1 f3 f4 f5⟩
 self:=λ_ _ _ _ _ st h=>wpAny_pyIter_tupleiter st h
def wF{P:Program}{w:World}{K:W.Frag}{tg:Expr}(it:Addr)(lo:Int)(n:Nat):Turn P w K tg (Oc lo n) [it] it (λi h=>IsRangeIter h it (lo+(i:Nat)*1) ((n:Int)-(i:Nat)) 1) where
 mem:=by simp
 obj:=λi h st b hb=>by
  grind
 keep:=λi h h' st k=>k it (by simp) _ st
 item:=by
  intro X hP hw hK hc i ae s σ H E I hf st hg;subst hP hw hK;obtain⟨f0,f1,f2,f3,f4,f5⟩:=hf it (by simp)
  have W:=Walks.range (prog:=X.prog) (w:=X.w) (I.ok.hd hc) it lo 1 n;refine W.item i s _ _ hg st λv h' tk hv bB kk=>?_
  obtain⟨t,rfl⟩:=hv;have I1:Inv X ae σ H {s with heap:=h',toks:=tk}:=I.turned (λb o hb e=>kk b o (by grind) e) f0 f1 f3 f4 f5
  refine⟨_,rfl,yk bB rfl rfl (by decide) ⟨.int (lo+i),H,I1,⟨t,?_⟩,⟨rfl,rfl⟩,bB,λb hb=>(hf b hb).1⟩⟩
  rw[Int.mul_one]
 done:=by
  intro X hP hw hK hc i ae s σ H E I hf st hg;subst hP hw hK;obtain⟨f0,f1,f2,f3,f4,f5⟩:=hf it (by simp)
  exact wpAny_pyNext_range_end (I.ok.hd hc) st (by have:n<=i:=hg;lia) λh' eb=>⟨rfl,I.turned (λb o hb e=>eb b o hb e) f0 f1 f3 f4 f5⟩
 self:=λ_ _ _ _ _ st h=>wpAny_pyIter_rangeiter st h
section
variable {X:Cx} {tg:Expr}
def Od(K:W.Frag)(tl:TE):TI:=λσ H R=>tl σ H λx H1=>∃a,x=.ref a/\(∃xs,rG K H1 a xs)/\R (RC K a) H1
def SR(K:W.Frag)(tl:TE):TI:=λσ H R=>tl σ H λx H1=>∃a,x=.ref a/\(∃xs,ek K H1 a xs)/\R (SQ K a) H1
def yl{l:Expr}{tl:TE}(hl:PE X l tl):PI X tg l (Od X.K tl):=by
 intro ae s σ H R I h;refine thn (hl ae s σ H _ I h) λv s1 ⟨x,H1,I1,r1,q1⟩=>?_
 obtain⟨a,e,⟨xs,hq⟩,q⟩:=q1;subst e;cases r1;obtain⟨ai,rv,p,hz⟩:=I1.list hq;refine kh p.isList ?_;refine⟨s1.heap.objs.size,[s1.heap.objs.size],_,_,H1,rfl,I1.kept λb o e=>ax _ e,zN a _,⟨_,aU _ rfl,rfl,rfl⟩,λb hb=>?_,q⟩
 have e:b=s1.heap.objs.size:=by grind
 subst e;exact I1.rH (aq _) (I1.hok.fresh (aq _))
def Cr{l:Expr}{tl:TE}(hl:PE X l tl):PI X tg l (SR X.K tl):=by
 intro ae s σ H R I h;refine thn (hl ae s σ H _ I h) λv s1 ⟨x,H1,I1,r1,q1⟩=>?_
 obtain⟨a,e,⟨xs,hq⟩,q⟩:=q1;subst e;cases r1;obtain⟨ai,rv,p,hz⟩:=I1.tuple hq;refine vT (p) ?_;refine⟨s1.heap.objs.size,[s1.heap.objs.size],_,_,H1,rfl,I1.kept λb o e=>ax _ e,wD a _,⟨_,aU _ rfl,rfl,rfl⟩,λb hb=>?_,q⟩
 have e:b=s1.heap.objs.size:=by grind
 subst e;exact I1.rH (aq _) (I1.hok.fresh (aq _))
def tW{ae:List (Addr×Obj)}{σ:St}{H:Hp}{s:Shared}{R:It->Hp->Prop}{E:Value->Shared->Prop}{lo hi:Int}{t u v:Tok}{tk:Nat}(I:Inv X ae σ H s)(h1:-(2^62)<=lo)(h2:lo<2^62)(h3:-(2^62)<=hi)(h4:hi<2^62)
  (q:R (Oc lo (hi-lo).toNat) H):wpAny (model X.prog X.w) X.A (pyIter (.ref s.heap.objs.size)) (VM X ae σ tg R) E {s with heap:=s.heap.push {cls:=.type "range",data:=.fields #[.int lo t,.int hi u,.int 1 v]},toks:=tk}:=by
 refine wpAny_pyIter_range (IsRange.new ..) (small_one h1 h2 h3 h4) ?_;have I1:Inv X ae σ H {s with heap:=s.heap.push {cls:=.type "range",data:=.fields #[.int lo t,.int hi u,.int 1 v]},toks:=tk}:=I.kept λb o e=>ax _ e
 refine⟨(s.heap.push {cls:=.type "range",data:=.fields #[.int lo t,.int hi u,.int 1 v]}).objs.size,[(s.heap.push {cls:=.type "range",data:=.fields #[.int lo t,.int hi u,.int 1 v]}).objs.size],_,_,H,rfl,
  I1.kept λb o e=>ax _ e,wF _ lo (hi-lo).toNat,?_,λb hb=>?_,q⟩
 ·have e1:lo+(0:Nat)*1=lo:=by simp
  have e2:(((hi-lo).toNat:Nat):Int)-(0:Nat)=Builtin.Range.rangeSize lo hi 1:=by rw[rangeSize_one];split<;>lia
  rw[e1,e2];exact aU _ rfl
 ·have e:b=(s.heap.push {cls:=.type "range",data:=.fields #[.int lo t,.int hi u,.int 1 v]}).objs.size:=by grind
  subst e;exact I1.rH (aq _) (I1.hok.fresh (aq _))
def Oe(ta:TA):TI:=λσ H R=>ta σ H λvs H1=>∃j:Int,vs=[.int j] /\ -(2^62)<=j/\j<2^62/\R (Oc 0 j.toNat) H1
def Of(ta:TA):TI:=λσ H R=>ta σ H λvs H1=>∃i j:Int,vs=[.int i,.int j]/\(-(2^62)<=i/\i<2^62 /\ -(2^62)<=j/\j<2^62)/\R (Oc i (j-i).toNat) H1
def zO{a:Expr}{ta:TA}{p pos:Pos}(hg:Gl X "range")(hm:X.mg "range"=none)(ha:PA X [a] ta)(hs:starEach [a] X.env=[(false,eval a X.env)]:=by rfl):PI X tg (.Call (.Name "range" p) [a] [] pos) (Oe ta):=by
 intro ae s σ H R I h;refine Call_ (ld_blt I hg hm boot_range (dD (thn (ha pos ae s σ H _ I h) λus s1 ⟨vs,H1,I1,r1,q1⟩=>?_) hs rfl))
 obtain⟨j,e,q1,q2,q⟩:=q1;subst e;cases r1 with
 | cons r rr =>
  cases rr;obtain⟨t,rfl⟩:=r;exact call_range_1 (tW I1 (by lia) (by lia) q1 q2 (by grind))
def zP{a b:Expr}{ta:TA}{p pos:Pos}(hg:Gl X "range")(hm:X.mg "range"=none)(ha:PA X [a,b] ta)(hs:starEach [a,b] X.env=[(false,eval a X.env),(false,eval b X.env)]:=by rfl)(vx:starEach [b] X.env=[(false,eval b X.env)]:=by rfl) :
  PI X tg (.Call (.Name "range" p) [a,b] [] pos) (Of ta):=by
 intro ae s σ H R I h;refine Call_ (ld_blt I hg hm boot_range (dD (thn (ha pos ae s σ H _ I h) λus s1 ⟨vs,H1,I1,r1,q1⟩=>?_) (by grind) (by rw[vx];rfl)))
 obtain⟨i,j,e,⟨q1,q2,q3,q4⟩,q⟩:=q1;subst e;cases r1 with
 | cons r rr =>
  cases rr with
  | cons r' rr =>
   cases rr;obtain⟨t,rfl⟩:=r;obtain⟨t',rfl⟩:=r';exact call_range_2 (tW I1 q1 q2 q3 q4 q)
def SS(wi:TI)(g:TG)(tb:TS):TS:=λD σ H=>wi σ H λJ H1=>∃W:Nat->Nat->St->Hp->Prop,(∃m,W 0 m σ H1)/\∀i m σ H,W i m σ H ->
 (J.stop i H/\D.nx σ H)\/(J.go i H/\∃N:St->Hp->Prop,(∀bc H',N bc H'->∃m',m'<m/\W (i+1) m' bc H')/\∀x H',J.yld i H x H'->g x σ H' λym H2=>tb {D with nx:=N,ct:=N,bk:=D.nx} ym H2)
def mT(fp:List Addr)(h:Heap):List (Addr×Obj):=fp.filterMap λb=>(h.get? b).map λo=>(b,o)
def gj(hb:b∈fp)(e:h.get? b=some o):(b,o)∈mT fp h:=mv.mpr ⟨b,hb,by rw[e];rfl⟩
def zQ(hp:p∈mT fp h):p.1∈fp/\h.get? p.1=some p.2:=by
 obtain⟨b,hb,e⟩:=mv.mp hp;cases q:h.get? b with
 | none=>rw[q]at e;cases e
 | some o =>
  rw[q]at e;have e':=bz e;subst e';exact⟨hb,q⟩
def Inv.pinned{ae:List (Addr×Obj)}{σ:St}{H:Hp}{s:Shared}{fp:List Addr}(I:Inv X ae σ H s)(hf:∀b∈fp,mS X ae H b)(ho:∀b∈fp,∃o,s.heap.get? b=some o/\∀v,o.data≠.cell v):Inv X (ae++mT fp s.heap) σ H s :=
 I.jx λp hp=>(dH.mp hp).elim (λz=>I.pin p (dE _ z)) λz=>by
  obtain⟨hb,e⟩:=zQ z;obtain⟨f0,f1,f2,_⟩:=hf p.1 hb;obtain⟨o,e',d⟩:=ho p.1 hb;rw[e]at e';cases e';exact⟨e,f0,f1,f2,d⟩
def Inv.mU{ae pl:List (Addr×Obj)}{σ:St}{H:Hp}{s:Shared}(I:Inv X (ae++pl) σ H s):Inv X ae σ H s:=I.jx λp hp=>I.pin p (dE _ (mi _ hp))
def Ki(hp:PassesOwn (model X.prog X.w) X.A X.env X.xe)(hc:X.calm=true)(hi:PI X tg iter wi)(hg:PG X tg g)(hb:PSs X body tb)
  (hs:∀x,foldedSetIterable iter X.env x=pure x:=by intro _;rfl):PS X (.For tg iter body [] pos) (SS wi g tb):=by
 intro ae s σ H D I h;refine wpAny_For (thn (hi ae s σ H _ I h) λv s1 h1=>thn h1 λSO s2 h2=>?_) hs
 obtain⟨it,fp,tn,J,H2,e,I2,T,da,f2,W,⟨m0,w0⟩,mR⟩:=h2;subst e;have wG:∀{H':Hp},(∀b∈fp,H' b=none)->∀b∈fp,mS X ae H' b:=λhn b hb=>⟨hn b hb,(f2 b hb).2⟩
 refine codeAny_forLoop_any (λn s'=>∃i bc H',Inv X ae bc H' s'/\tn i s'.heap/\(∀b∈fp,H' b=none)/\W i n bc H') ?_ m0 ⟨0,σ,H2,I2,da,λb hb=>(f2 b hb).1,w0⟩
 rintro n s3 ⟨i,lA,H3,I3,FZ,VN,w3⟩
 rcases mR i n lA H3 w3 with⟨stop,qn⟩ | ⟨go,N,hN,step⟩
 ·refine iS hp (thn (T.done X rfl rfl rfl hc i ae s3 lA H3 X.xe I3 (wG VN) FZ stop) λr s4 ⟨hr,I4⟩=>?_)
  subst hr;exact qY ⟨lA,H3,I4,qn⟩
 ·refine iS hp (thn (T.item X rfl rfl rfl hc i ae s3 lA H3 X.xe I3 (wG VN) FZ go) λr s4 ⟨u,hr,h4⟩=>?_)
  subst hr;refine iS hp (thn h4 λ_ s5 z9=>?_)
  obtain⟨x,H5,I5,r5,y5,Kj,SU⟩:=z9;have SV:=I5.pinned (wG SU) (T.obj _ _ Kj);refine iS hp (thn (hg _ s5 lA H5 x u _ SV r5 (step x H5 y5)) λ_ s6 ⟨RD,H6,I6,q6⟩=>?_)
  refine iS hp (thn (hb _ s6 RD H6 _ I6 q6) λf s7 q7=>?_)
  have again:∀{Cs:St} {H7:Hp},Inv X (ae++mT fp s5.heap) Cs H7 s7->N Cs H7->∃m,m<n/\∃i bc H',Inv X ae bc H' s7/\tn i s7.heap/\(∀b∈fp,H' b=none)/\W i m bc H':=λ{Cs H7} I7 n7=>by
   obtain⟨m',hm,w7⟩:=hN Cs H7 n7;refine⟨m',hm,i+1,Cs,H7,I7.mU,T.keep _ _ _ Kj λb hb o e=>(I7.pin (b,o) (dE _ (dE _ (gj hb e)))).1,λb hb=>?_,w7⟩
   obtain⟨o,e,d⟩:=T.obj _ _ Kj b hb;exact(I7.pin (b,o) (dE _ (dE _ (gj hb e)))).2.1
  cases f with
  | next=>obtain⟨Cs,H7,I7,n7⟩:=q7;exact again I7 n7
  | cont=>obtain⟨Cs,H7,I7,n7⟩:=q7;exact again I7 n7
  | brk=>obtain⟨Cs,H7,I7,q7⟩:=q7;exact⟨Cs,H7,I7.mU,q7⟩
  | ret v=>obtain⟨x7,Cs,H7,I7,r7,q7⟩:=q7;exact⟨x7,Cs,H7,I7.mU,r7,q7⟩
end
abbrev R2:=V->V->Hp->VK->Prop
def OpR(X:Cx)(f:Value->Value->Sem Value)(r:R2):Prop :=
 ∀(ae:List (Addr×Obj)) (s:Shared) (σ:St) (H:Hp) (x y:V) (v u:Value) (Q:VK),Inv X ae σ H s->RelV x v->RelV y u->r x y H Q ->
  wpAny (model X.prog X.w) X.A (f v u) (EP X ae σ Q) X.xe s
def UnR(X:Cx)(f:Value->Sem Value)(r:V->Hp->VK->Prop):Prop :=
 ∀(ae:List (Addr×Obj)) (s:Shared) (σ:St) (H:Hp) (x:V) (v:Value) (Q:VK),Inv X ae σ H s->RelV x v->r x H Q ->
  wpAny (model X.prog X.w) X.A (f v) (EP X ae σ Q) X.xe s
def iG(X:Cx)(f:Value)(r:List V->Hp->VK->Prop):Prop :=
 ∀(ae:List (Addr×Obj)) (s:Shared) (σ:St) (H:Hp) (xs:List V) (us:List Value) (Q:VK),Inv X ae σ H s->Vals xs us->r xs H Q ->
  wpAny (model X.prog X.w) X.A (call f us) (EP X ae σ Q) X.xe s
def SW(X:Cx)(r:V->Hp->(Bool->Hp->Prop)->Prop):Prop :=
 ∀(ae:List (Addr×Obj)) (s:Shared) (σ:St) (H:Hp) (x:V) (v:Value) (Q:Bool->Hp->Prop),Inv X ae σ H s->RelV x v->r x H Q ->
  wpAny (model X.prog X.w) X.A (truthy v) (TP X ae σ Q) X.xe s
def Kk(r:R2)(ta tb:TE):TE:=λσ H Q=>ta σ H λx H1=>tb σ H1 λy H2=>r x y H2 Q
def Xl(r:V->Hp->VK->Prop)(ta:TE):TE:=λσ H Q=>ta σ H λx H1=>r x H1 Q
def rI(C:Int->Int->Prop)(g:Int->Int->V):R2:=λx y H Q=>∃i j,x=.int i/\y=.int j/\C i j/\Q (g i j) H
def Fe(g:Int->Int->V):R2:=λx y H Q=>∃i j,x=.int i/\y=.int j/\Q (g i j) H
def rU(g:Int->V):V->Hp->VK->Prop:=λx H Q=>∃i,x=.int i/\Q (g i) H
section
variable {X:Cx} {a b c:Expr} {ta tb tc:TE} {pos:Pos}
def F6(ha:PE X a ta)(hb:PE X b tb){ae:List (Addr×Obj)}{s:Shared}{σ:St}{H:Hp}{R:V->V->Hp->Prop}(I:Inv X ae σ H s)
  (h:ta σ H λx H1=>tb σ H1 λy H2=>R x y H2) {Q:Value->Shared->Prop} {f:Value->Value->Sem Value}
  (hf:∀v u s2 x y H2,Inv X ae σ H2 s2->RelV x v->RelV y u->R x y H2->wpAny (model X.prog X.w) X.A (f v u) Q X.xe s2) :
  wpAny (model X.prog X.w) X.A (eval a X.env) (λv s₁=>wpAny (model X.prog X.w) X.A (eval b X.env) (λu zM=>wpAny (model X.prog X.w) X.A (f v u) Q X.xe zM) X.xe s₁) X.xe s:=by
 refine thn (ha ae s σ H _ I h) λv s1 ⟨x,H1,I1,r1,q1⟩=>?_
 refine thn (hb ae s1 σ H1 _ I1 q1) λu s2 ⟨y,H2,I2,r2,q2⟩=>?_
 exact hf v u s2 x y H2 I2 r1 r2 q2
def IU(ho:OpR X (binaryOp op) r)(ha:PE X a ta)(hb:PE X b tb):PE X (.BinOp a op b pos) (Kk r ta tb):=by
 intro ae s σ H Q I h;exact wpAny_BinOp (F6 ha hb I h λv u s2 x y H2 I2 rx ry q=>ho ae s2 σ H2 x y v u Q I2 rx ry q)
def Og{r:V->Hp->VK->Prop}(ho:UnR X (unaryOp op) r)(ha:PE X a ta):PE X (.UnaryOp op a pos) (Xl r ta):=by
 intro ae s σ H Q I h;exact UnaryOp_ (thn (ha ae s σ H _ I h) (by rintro v s1 ⟨x,H1,I1,r1,q1⟩;exact ho ae s1 σ H1 x v Q I1 r1 q1))
def RE{f:Value->Value->Sem Value}{C:Int->Int->Prop}{g:Int->Int->Int}
  (rule:∀(i j:Int) (t u:Tok) (s:Shared) (Q:Value->Shared->Prop) (E:Value->Shared->Prop),C i j->Q (.int (g i j) s.toks) {s with toks:=s.toks+1}->wpAny (model X.prog X.w) X.A (f (.int i t) (.int j u)) Q E s) :
  OpR X f (rI C λi j=>.int (g i j)):=by
 intro ae s σ H x y v u Q I rx ry h;obtain⟨i,j,rfl,rfl,hc,q⟩:=h;obtain⟨t,rfl⟩:=rx;obtain⟨t',rfl⟩:=ry;exact rule i j t t' s _ _ hc ⟨.int (g i j),H,I.tok _,⟨_,rfl⟩,q⟩
def Kl{f:Value->Value->Sem Value}{g:Int->Int->Int}
  (rule:∀(i j:Int) (t u:Tok) (s:Shared) (Q:Value->Shared->Prop) (E:Value->Shared->Prop),Q (.int (g i j) s.toks) {s with toks:=s.toks+1}->wpAny (model X.prog X.w) X.A (f (.int i t) (.int j u)) Q E s) :
  OpR X f (Fe λi j=>.int (g i j)):=by
 intro ae s σ H x y v u Q I rx ry h;obtain⟨i,j,rfl,rfl,q⟩:=h;obtain⟨t,rfl⟩:=rx;obtain⟨t',rfl⟩:=ry;exact rule i j t t' s _ _ ⟨.int (g i j),H,I.tok _,⟨_,rfl⟩,q⟩
def F7{f:Value->Value->Sem Value}{g:Int->Int->Bool}
  (rule:∀(i j:Int) (t u:Tok) (s:Shared) (Q:Value->Shared->Prop) (E:Value->Shared->Prop),Q (.bool (g i j)) s->wpAny (model X.prog X.w) X.A (f (.int i t) (.int j u)) Q E s) :
  OpR X f (Fe λi j=>.bl (g i j)):=by
 intro ae s σ H x y v u Q I rx ry h;obtain⟨i,j,rfl,rfl,q⟩:=h;obtain⟨t,rfl⟩:=rx;obtain⟨t',rfl⟩:=ry;exact rule i j t t' s _ _ ⟨.bl (g i j),H,I,rfl,q⟩
def SX(i j:Int):Prop:=0<j/\j<1073741824
def SY(i j:Int):Prop:=0<=j/\j<=1000000/\i.natAbs<2^64
def Km(i j:Int):Prop:=(-(2^64)<i/\i<2^64)\/(-(2^64)<j/\j<2^64)
def Km.ok(h:Km i j):IntMulOk i j:=by
 rcases h with⟨h1,h2⟩ | ⟨h1,h2⟩
 ·exact .of_left (intBits_le_64 h1 h2)
 ·exact .of_right (intBits_le_64 h1 h2)
def Ko:OpR X (binaryOp .Add) (Fe λi j=>.int (i+j)):=Kl λ_ _ _ _ _ _ _ q=>add_int q
def Kp:OpR X (binaryOp .Sub) (Fe λi j=>.int (i-j)):=Kl λ_ _ _ _ _ _ _ q=>sub_int q
def Kq:OpR X (binaryOp .Mult) (rI Km λi j=>.int (i*j)):=RE λ_ _ _ _ _ _ _ hc q=>mul_int q hc.ok
def F8:OpR X (binaryOp .FloorDiv) (rI SX λi j=>.int (i/j)):=RE λi j _ _ _ _ _ hc q=>by
 have h1:=hc.1;have h2:=hc.2;exact floordiv_int (by lia) (by rw[Int.fdiv_eq_ediv_of_nonneg i (by lia)];exact q) (.inl (PyProof.noPylong_small (by lia)))
def Kr:OpR X (binaryOp .Mod) (rI (λ_ j=>0<j) λi j=>.int (i%j)):=RE λi j _ _ _ _ _ hc q=>by
 have h1:=hc;exact mod_int' (by lia) (by rw[Int.fmod_eq_emod_of_nonneg i (by lia)];exact q)
def Ks:OpR X (binaryOp .Pow) (rI SY λi j=>.int (i^j.toNat)):=RE λ_ _ _ _ _ _ _ hc q=>pow_int_small hc.1 hc.2.1 hc.2.2 q
def F9:OpR X (inplaceOp .Add) (Fe λi j=>.int (i+j)):=Kl λ_ _ _ _ _ _ _ q=>iadd_int q
def Xm{f:Value->Sem Value}{g:Int->Int}
  (rule:∀(i:Int) (t:Tok) (s:Shared) (Q:Value->Shared->Prop) (E:Value->Shared->Prop),Q (.int (g i) s.toks) {s with toks:=s.toks+1}->wpAny (model X.prog X.w) X.A (f (.int i t)) Q E s) :
  UnR X f (rU λi=>.int (g i)):=by
 intro ae s σ H x v Q I rx h;obtain⟨i,rfl,q⟩:=h;obtain⟨t,rfl⟩:=rx;exact rule i t s _ _ ⟨.int (g i),H,I.tok _,⟨_,rfl⟩,q⟩
def Kt:UnR X (unaryOp .USub) (rU λi=>.int (-i)):=Xm λ_ _ _ _ _ q=>neg_int q
end
section
variable {X:Cx} {a b c:Expr} {ta tb tc:TE} {pos:Pos}
def Ct{ae:List (Addr×Obj)}{σ:St}{H:Hp}{s:Shared}{Q:VK}{k k':Bool}(I:Inv X ae σ H s)(q:Q (.bl k) H)(e:k=k'):EP X ae σ Q (.bool k') s:=by
 subst e;exact⟨.bl k,H,I,rfl,q⟩
def Oh:OpR X (compareOp .Lt) (Fe λi j=>.bl (decide (i<j))):=F7 λ_ _ _ _ _ _ _ q=>lt_int q
def Oi:OpR X (compareOp .LtE) (Fe λi j=>.bl (decide (i<=j))):=F7 λ_ _ _ _ _ _ _ q=>le_int q
def Oj:OpR X (compareOp .Gt) (Fe λi j=>.bl (decide (j<i))):=F7 λ_ _ _ _ _ _ _ q=>gt_int q
def Ol:OpR X (compareOp .GtE) (Fe λi j=>.bl (decide (j<=i))):=F7 λ_ _ _ _ _ _ _ q=>ge_int q
def Ku:OpR X (compareOp .Is) (λx y H Q=>y=.aV/\Q (.bl (decide (x=.aV))) H):=by
 intro ae s σ H x y v u Q I rx ry h;obtain⟨rfl,q⟩:=h;cases ry;refine is_none_gen (Ct I q ?_);cases x<;>first
  | (cases rx;rfl)
  | (obtain⟨t,rfl⟩:=rx;rfl)
def Ga:OpR X (compareOp .IsNot) (λx y H Q=>y=.aV/\Q (.bl (!decide (x=.aV))) H):=by
 intro ae s σ H x y v u Q I rx ry h;obtain⟨rfl,q⟩:=h;cases ry;refine isnot_none_gen (Ct I q ?_);cases x<;>first
  | (cases rx;rfl)
  | (obtain⟨t,rfl⟩:=rx;rfl)
def yn(ho:OpR X (compareOp op) r)(ha:PE X a ta)(hb:PE X b tb)(hm:behindInMarks op b=false):PE X (.Compare a [op] [b] pos) (Kk r ta tb):=by
 intro ae s σ H Q I h;exact wpAny_Compare1 (F6 ha hb I h λv u s2 x y H2 I2 rx ry q=>ho ae s2 σ H2 x y v u Q I2 rx ry q) hm
def IV(t:TE):TT:=λσ H Q=>t σ H λx H'=>∃k,x=.bl k/\Q k H'
def yo(ho:OpR X (compareOp op) r)(ha:PE X a ta)(hb:PE X b tb)(hm:behindInMarks op b=false):PT X (.Compare a [op] [b] pos) (IV (Kk r ta tb)):=by
 intro ae s σ H Q I h;refine wpAny_isTrue_Compare1 (thn (ha ae s σ H _ I h) λv s1 ⟨x,H1,I1,r1,q1⟩=>thn (hb ae s1 σ H1 _ I1 q1) λu s2 ⟨y,H2,I2,r2,q2⟩ =>
  thn (ho ae s2 σ H2 x y v u _ I2 r1 r2 q2) λc s3 ⟨z,H3,I3,r3,k,e,q3⟩=>?_) hm
 subst e;cases r3;exact gO ⟨H3,I3,q3⟩
def wH(r r':R2)(ta tb tc:TE):TE:=λσ H Q=>ta σ H λx H1=>tb σ H1 λy H2=>r x y H2 λz H3=>∃k,z=.bl k /\
 (if k=true then tc σ H3 λw' H4=>r' y w' H4 Q else Q (.bl false) H3)
def Cu(ho:OpR X (compareOp op) r)(mP:OpR X (compareOp tj) r')(ha:PE X a ta)(hb:PE X b tb)(hc:PE X c tc)
  (hm:lastMarks [op,tj] [b,c]=false:=by with_unfolding_all rfl):PE X (.Compare a [op,tj] [b,c] pos) (wH r r' ta tb tc):=by
 intro ae s σ H Q I h;refine Compare_chain (thn (ha ae s σ H _ I h) λv s1 ⟨x,H1,I1,r1,q1⟩=>chain_link (thn (hb ae s1 σ H1 _ I1 q1) λu s2 ⟨y,H2,I2,r2,q2⟩ =>
  thn (ho ae s2 σ H2 x y v u _ I2 r1 r2 q2) λd s3 ⟨z,H3,I3,r3,k,e,q3⟩=>?_)) hm
 subst e;cases r3;refine gO ?_;cases k with
 | false=>exact ite_ff ⟨.bl false,H3,I3,rfl,q3⟩
 | true=>exact ite_tt (chain_last (thn (hc ae s3 σ H3 _ I3 q3) (by rintro w' s4 ⟨z',H4,I4,r4,q4⟩;exact mP ae s4 σ H4 y z' u w' Q I4 r2 r4 q4)))
def Cv(ho:OpR X (compareOp op) r)(mP:OpR X (compareOp tj) r')(ha:PE X a ta)(hb:PE X b tb)(hc:PE X c tc)
  (hm:lastMarks [op,tj] [b,c]=false:=by with_unfolding_all rfl):PT X (.Compare a [op,tj] [b,c] pos) (IV (wH r r' ta tb tc)):=by
 intro ae s σ H Q I h;refine isTrue_chain (thn (ha ae s σ H _ I h) λv s1 ⟨x,H1,I1,r1,q1⟩=>test_link (thn (hb ae s1 σ H1 _ I1 q1) λu s2 ⟨y,H2,I2,r2,q2⟩ =>
  thn (ho ae s2 σ H2 x y v u _ I2 r1 r2 q2) λd s3 ⟨z,H3,I3,r3,k,e,q3⟩=>?_)) hm
 subst e;cases r3;refine gO ?_;cases k with
 | false =>
  obtain⟨k',e',q'⟩:=q3;cases e';exact ite_ff ⟨H3,I3,q'⟩
 | true =>
  refine ite_tt (test_last (thn (hc ae s3 σ H3 _ I3 q3) λw' s4 ⟨z',H4,I4,r4,q4⟩=>thn (mP ae s4 σ H4 y z' u w' _ I4 r2 r4 q4) λd' s5 z9=>?_))
  obtain⟨z2,H5,I5,r5,k2,e2,q5⟩:=z9;subst e2;cases r5;exact gO ⟨H5,I5,q5⟩
def Gb(K:W.Frag)(x:V)(H:Hp)(k:Bool):Prop :=
 match x with
 | .aV=>k=false
 | .bl b=>k=b
 | .int i=>k=(i != 0)
 | .str y=>y.length<=sizeLine/\k=((y.length:Int) != 0)
 | .Nn y=>y.size<=sizeLine/\k=((y.size:Int) != 0)
 | .ref p=>(∃xs,rG K H p xs/\k = !xs.isEmpty)\/(∃xs,ek K H p xs/\k = !xs.isEmpty)\/∃kvs,H p=some (.dK kvs)/\k = !kvs.isEmpty
 | _=>False
def wI{κ:Type}{kvs:List (κ×V)}{vs:List (κ×Value)}(r:KV kvs vs):(!vs.isEmpty) = !kvs.isEmpty:=by
 cases r<;>rfl
def mV(r:Vals xs ai):(!ai.toArray.isEmpty) = !xs.isEmpty:=by
 cases r<;>simp
def iZ:(sizeLine:Nat)<2^63:=by rw[iX];decide
def Cw:SW X (λx H Q=>∃k,Gb X.K x H k/\Q k H):=by
 intro ae s σ H x v Q I rx h;obtain⟨k,e,q⟩:=h;have hl:=iZ;have hs:=iX;cases x with
 | aV =>
  cases rx;have e':=e;subst e';exact truthy_none ⟨H,I,q⟩
 | bl b =>
  cases rx;have e':=e;subst e';exact gO ⟨H,I,q⟩
 | int i =>
  obtain⟨t,rfl⟩:=rx;have e':=e;subst e';exact PySem.P.truthy_int ⟨H,I,q⟩
 | str y =>
  obtain⟨t,rfl⟩:=rx;obtain⟨hy,e'⟩:y.length<=sizeLine/\k=((y.length:Int) != 0):=e;subst e';exact PySem.P.truthy_str (by lia) ⟨H,I.tok _,q⟩
 | Nn y =>
  obtain⟨t,rfl⟩:=rx;obtain⟨hy,e'⟩:y.size<=sizeLine/\k=((y.size:Int) != 0):=e;subst e';exact W.truthy_bytes (by lia) ⟨H,I.tok _,q⟩
 | ref p =>
  cases rx;have e':=e;rcases e' with⟨xs,hx,e'⟩ | ⟨xs,hx,e'⟩ | ⟨kvs,hx,e'⟩
  ·subst e';obtain⟨ai,r,pl,hz⟩:=I.list hx;have cS:=r.length;exact wpAny_truthy_list pl.isList (by grind) ⟨H,I.tok _,by rw[mV r];exact q⟩
  ·subst e';obtain⟨ai,r,pl,hz⟩:=I.tuple hx;have cS:=r.length;exact truthy_tuple pl (by grind) ⟨H,I.tok _,by rw[mV r];exact q⟩
  ·subst e';obtain⟨hz,hS,vs,r,m⟩:kvs.length<=sizeLine/\(p==sysModules)=false/\∃vs,KV kvs vs/\s.heap.DictOf (bg X.prog X.w) p vs:=I.hok p _ hx
   have cS:=gQ r;exact wpAny_truthy_dict hS m (by lia) ⟨H,I.tok _,by rw[wI r];exact q⟩
 | _=>exact(e).elim
def Cy(ha:PE X a ta)(he:∀gw,isTrue a X.env gw=(do let v <-gw;standAt a.pos;holding [v] (truthy v))) :
  PT X a (λσ H Q=>ta σ H λx H'=>∃k,Gb X.K x H' k/\Q k H'):=by
 intro ae s σ H Q I h;exact isTrue_plain (thn (ha ae s σ H _ I h) (by rintro v s1 ⟨x,H1,I1,r1,q1⟩;exact Cw ae s1 σ H1 x v Q I1 r1 q1)) (he _)
def wJ:OpR X (binaryOp .Add) (λx y H Q=>∃i j,x=.str i/\y=.str j/\i.length+j.length<=sizeLine/\Q (.str (i++j)) H):=by
 intro ae s σ H x y v u Q I rx ry h;obtain⟨i,j,rfl,rfl,hz,q⟩:=h;obtain⟨t,rfl⟩:=rx;obtain⟨t',rfl⟩:=ry;exact add_str (λt' tk=>⟨.str (i++j),H,I.tok _,⟨_,rfl⟩,q⟩) hz
def gy(r:Vals [x] us):∃u,us=[u]/\RelV x u:=by
 cases r with
 | cons r1 r2=>cases r2;exact⟨_,rfl,r1⟩
def yp(r:Vals [x,y] us):∃u w',us=[u,w']/\RelV x u/\RelV y w':=by
 cases r with
 | cons r1 r2 =>
  cases r2 with
  | cons r3 r4=>cases r4;exact⟨_,_,rfl,r1,r3⟩
def px:iG X (.type "int") (λxs H Q=>(∃i,xs=[.int i]/\Q (.int i) H)\/∃k,xs=[.bl k]/\Q (.int (if k then 1 else 0)) H):=by
 intro ae s σ H xs us Q I r h;rcases h with⟨i,rfl,q⟩ | ⟨k,rfl,q⟩
 ·obtain⟨u,rfl,t,rfl⟩:=gy r;exact call_int_int ⟨.int i,H,I,⟨_,rfl⟩,q⟩
 ·obtain⟨u,rfl,r1⟩:=gy r;cases r1;exact call_int_bool ⟨.int (if k then 1 else 0),H,I.tok _,⟨_,rfl⟩,q⟩
def rJ:iG X (.type "str") (λxs H Q=>∃i,xs=[.int i]/\i.natAbs.log2<1920/\Q (.str (toString i)) H):=by
 intro ae s σ H xs us Q I r h;obtain⟨i,rfl,hz,q⟩:=h;obtain⟨u,rfl,t,rfl⟩:=gy r;exact PySem.P.str_of_int hz ⟨.str _,H,I.tok _,⟨_,rfl⟩,q⟩
end
structure zR (h:Heap) (x dx C:Addr) (mA:Str->Option Value):Prop where
 obj:h.get? x=some (W.instObj C dx)
 ns:h.Ns1 dx mA
 ne:dx≠x
def zS{h:Heap}{mA:Str->Option Value}(n:h.Ns1 dx mA):∃od,h.get? dx=some od/\∀name,W.lookIn name od=some (mA name):=by
 obtain⟨o,es,ep,ho,hd,hk,_,hm⟩:=n;refine⟨o,ho,λname=>?_⟩
 have e:=hm name;unfold nsFind findBy at e;rw[<-Array.find?_toList]at e;unfold W.lookIn;rw[hd];dsimp only
 split
 ·grind
 ·rename_i q;rw[q]at e;have a:es.toList.any (·.refKey)=false:=by
   rw[vV];intro y hy;obtain⟨z,t,Kv⟩:=hk y (Array.mem_toList_iff.mp hy);simp[DictEntry.refKey,Kv]
  have a':¬es.toList.any (·.refKey)=true:=by grind
  rw[if_neg a'];exact d9 some e
def zR.Gd(I:zR h x dx C mA):∃od,W.InstAt h x (W.instObj C dx) C (some od)/\∀name,W.lookIn name od=some (mA name) :=
 let ⟨od,ho,hl⟩:=zS I.ns
 ⟨od,⟨I.obj,rfl,rfl,ho⟩,hl⟩
section
variable {prog:Program} {w:World} {A:Around} {E:Value->Shared->Prop} {s:Shared} {K:W.Frag} {x dx C f:Addr} {mA:Str->Option Value} {name:Str} {v:Value}
def Ge(X:K.In s.heap)(I:zR s.heap x dx C mA)(hg:W.plainGet K C name=true)(hh:W.hasDictIn K C=true)
  (ha:W.findIn K (.ref C) name=some none) (hv:mA name=some v) (Kw:W.handedIn v=true) (h:Q v {s with toks:=s.toks+1}) :
  wpAny (model prog w) A (getAttr (.ref x) name expr) Q E s:=by
 obtain⟨od,J,hl⟩:=I.Gd;exact W.get_value X J (W.plainGet_of hg).1 (W.findObj_own hh ha rfl (by rw[hl,hv])) Kw h
def Gf(X:K.In s.heap)(I:zR s.heap x dx C mA)
  (hs:W.findIn K (.ref C) "__setattr__"=some (some (.builtin "object.__setattr__"))) (hp:W.plainOver K C=true) (ht:W.takerIn K C name=some none) (hh:W.hasDictIn K C=true)
  (hw:PySem.Within mA ns) (hsz:ns.length<=sizeLine)
  (h:∀h',zR h' x dx C (λy=>if y=name then some v else mA y)->Heap.SameBut dx s.heap h'->Q () {s with heap:=h',toks:=s.toks+2}) :
  wpAny (model prog w) A (setAttr (.ref x) name v) Q E s:=by
 obtain⟨od,J,hl⟩:=I.Gd;refine W.set_plain X J hs (W.osa_open X J hp ht λb=>?_)
 obtain⟨cd,hc,FK⟩:=W.any_some hh;have hx:=I.obj;refine af (ag (af (af (wpAny_loadPart hx (af (W.Looks.here (W.looks_clsIn X hc) ?_))))));rw[FK];refine ag (af (ag (af ?_)));refine wpAny_nsSet1 I.ns λh' Om vx=>?_
 obtain⟨oD,Y0,Y1,Xn,Xo,Xp⟩:=Om.count (PySem.Within.cons name v hw);refine af (wpAny_lookBehind Xn (by rw[Xo];exact pastItsLine_dict (aL Xp (by grind))) ?_)
 exact ag (h _ ⟨(vx.2 _ (bA I.ne)).trans I.obj,Om,I.ne⟩ vx)
def Cz(X:K.In s.heap)(hm:W.makesIn K C=true)
  (hi:W.findIn K (.ref C) "__init__"=some (some (.ref f))) (hf:W.typeIn K (.ref f)=some (.type "function"))
  (h:codeAny (model prog w) (A.under (.builtin "type.__call__" ⟨.ref C::vs,kw⟩)) (.call (.ref f) ⟨.ref (s.heap.objs.size+1)::vs,kw⟩) (W.InitBack (s.heap.objs.size+1) R)
   {s with heap:=(s.heap.push W.emptyDict).push (W.instObj C s.heap.objs.size)}) :
  codeAny (model prog w) A (.call (.ref C) ⟨vs,kw⟩) R s:=by
 obtain⟨hh,g,d,t,os⟩:=s;exact W.make_core (W.makes_of X hm) (W.looks_findIn X hi) (λself=>W.bind_fn X self hf) (.inl rfl) h
end
def fK(f:Str)(v:V):List (Str×V)->List (Str×V)
 | []=>[(f,v)]
 | (g,x)::r=>if g=f then(g,v)::r else(g,x)::fK f v r
theorem kX(f g:Str)(v:V):∀fs:List (Str×V),(fK f v fs).lookup g=if g=f then some v else fs.lookup g
 | []=>by
  show List.lookup g [(f,v)]=_;by_cases h:g=f
  ·grind
  ·grind
 | (k,x)::r=>by
  have ih:=kX f g v r;rw[show fK f v ((k,x)::r)=(if k=f then(k,v)::r else(k,x)::fK f v r)from rfl]
  by_cases hk:k=f
  ·grind
  ·grind
theorem kB(f:Str)(v:V):∀fs:List (Str×V),f∈(fK f v fs).map (·.1)/\∀g,g∈fs.map (·.1)->g∈(fK f v fs).map (·.1)
 | []=>⟨by simp[fK],λg h=>by simp at h⟩
 | (k,x)::r=>by
  obtain⟨i1,i2⟩:=kB f v r;rw[show fK f v ((k,x)::r)=(if k=f then(k,v)::r else(k,x)::fK f v r)from rfl]
  by_cases hk:k=f
  ·grind
  ·grind
theorem kY(f:Str)(v:V):∀fs:List (Str×V),(fK f v fs).length<=fs.length+1
 | []=>by simp[fK]
 | (k,x)::r=>by
  have ih:=kY f v r;rw[show fK f v ((k,x)::r)=(if k=f then(k,v)::r else(k,x)::fK f v r)from rfl]
  by_cases hk:k=f
  ·grind
  ·grind
def rD.Gg(r:rD (some v) o):∃u,o=some u/\RelV v u:=by
 cases o with
 | none=>exact(r).elim
 | some u=>exact⟨u,rfl,r⟩
def zU(r:RelV v u):W.handedIn u=true:=by
 cases v with
 | aV=>cases(r);rfl
 | bl b=>cases(r);rfl
 | int i=>obtain⟨t,e⟩:=(r);cases e;rfl
 | str x=>obtain⟨t,e⟩:=(r);cases e;rfl
 | Nn b=>obtain⟨t,e⟩:=(r);cases e;rfl
 | Rq b=>obtain⟨t,e⟩:=(r);cases e;rfl
 | ref a=>cases(r);rfl
 | ty n=>cases(r);rfl
section
variable {P:Program} {w:World} {H H':Hp} {h h':Heap} {a C dx:Addr} {fs Xe:List (Str×V)}
def yq(hok:jq P w H h)(e:H a=some (.ins C dx fs)):∃mA,zR h a dx C mA/\(∀f,rD (fs.lookup f) (mA f))/\PySem.Within mA (fs.map (·.1))/\fs.length<=1000/\H dx=some (.own a):=by
 obtain⟨d,z,ne,ob,mA,n,r,q⟩:=(hok a _ e);exact⟨mA,⟨ob,n,ne⟩,r,q,z,d⟩
end
def zz.get{K:W.Frag}{C:Addr}(c:zz K C)(f:Str):W.plainGet K C f=true:=c.pg
def gg.Oo{K:W.Frag}{C:Addr}{f:Str}(n:gg K C f):W.takerIn K C f=some none:=by
 unfold W.takerIn;rw[show W.findIn K (.ref C) f=some none from n]
 rfl
section
variable {X:Cx} {ae:List (Addr×Obj)} {σ:St} {H:Hp} {s:Shared} {a C dx:Addr} {fs:List (Str×V)} {f:Str} {v:V} {A:Around} {E:Value->Shared->Prop}
def wK(I:Inv X ae σ H s)(e:H a=some (.ins C dx fs))(c:zz X.K C)(n:gg X.K C f)(l:fs.lookup f=some v)
  (h:∀u s',Inv X ae σ H s'->RelV v u->Q u s'):wpAny (model X.prog X.w) A (getAttr (.ref a) f b) Q E s:=by
 obtain⟨mA,O,r,_,_,_⟩:=yq I.hok e;obtain⟨u,hu,ru⟩:=rD.Gg (by rw[<-l];exact r f)
 exact Ge I.mO O (c.get f) c.hd n hu (zU ru) (h u _ (I.tok _) ru)
def wL(I:Inv X ae σ H s)(e:H a=some (.ins C dx fs))(c:zz X.K C)(n:gg X.K C f)(hl:fs.length<1000)(ry:RelV y u)
  (h:∀s',Inv X ae σ (bS H a (.ins C dx (fK f y fs))) s'->Q () s'):wpAny (model X.prog X.w) A (setAttr (.ref a) f u) Q E s:=by
 obtain⟨mA,O,r,wi,_,ho⟩:=yq I.hok e;have hz:(fs.map (·.1)).length<=sizeLine:=by rw[ah,iX];lia
 refine Gf I.mO O c.sa c.po n.Oo c.hd wi hz λh' O' sb=>h _ ?_
 have hd:∃o,h'.get? dx=some o:=let ⟨o,_,_,e',_⟩:=O'.ns;⟨o,e'⟩
 refine I.write (by rw[e];exact True.intro) (.inr ho) (λb q hb z=>(sb.2 b hb).trans z) hd ?_
 refine⟨by rw[aF O.ne];exact ho,?_,O.ne,O'.obj,_,O'.ns,λg=>?_,λg hg=>?_⟩
 ·have:=kY f y fs;lia
 ·rw[kX];by_cases q:g=f
  ·rw[if_pos q,if_pos q];exact ry
  ·rw[if_neg q,if_neg q];exact r g
 ·by_cases q:g=f
  ·rw[q];exact(kB f y fs).1
  ·refine(kB f y fs).2 g (wi g λz=>hg ?_)
   show(if g=f then some u else mA g)=none
   rw[if_neg q];exact z
def Inv.made(I:Inv X ae σ H s):Inv X ae σ (bS (bS H s.heap.objs.size (.own (s.heap.objs.size+1))) (s.heap.objs.size+1) (.ins C s.heap.objs.size []))
  {s with heap:=(s.heap.push W.emptyDict).push (W.instObj C s.heap.objs.size)}:=by
 have e1:(s.heap.push W.emptyDict).get? s.heap.objs.size=some W.emptyDict:=aU s.heap rfl;have e2:((s.heap.push W.emptyDict).push (W.instObj C s.heap.objs.size)).get? (s.heap.objs.size+1)=some (W.instObj C s.heap.objs.size):=by
  have:=aU (s.heap.push W.emptyDict) (o:=W.instObj C s.heap.objs.size) rfl
  rwa [cy]at this
 have e3:(s.heap.push W.emptyDict).Ns s.heap.objs.size (λ_=>none):=⟨W.emptyDict,#[],_,e1,rfl,(λe he=>absurd he (by simp)),λ_=>rfl⟩
 have I1:=I.laid (o:=.own (s.heap.objs.size+1)) (t':=s.toks) (λb u q=>ax _ q) (aq _) ⟨_,e1⟩
 refine I1.laid (t':=s.toks) (λb u q=>ax _ q) (gR (cy _ _)) ?_
 have ne:s.heap.objs.size≠s.heap.objs.size+1:=by grind
 refine⟨by rw[aF ne,ar],eN _,ne,e2,λ_=>none,(Heap.Ns1.of_empty e3).at λo q=>ax _ q,λ_=>True.intro,λy hy=>absurd rfl hy⟩
def Gh(hb:attributeBase e f env (eval e env)=eval e env)
  (h:wpAny (model prog w) A (eval e env) (λo s₁=>wpAny (model prog w) A (getAttr o f true) Q E s₁) E s):wpAny (model prog w) A (eval (.Attribute e f pos) env) Q E s :=
 Attribute_any_ h (by rw[arm_eval_Attribute,hb])
end
def S0(K:W.Frag)(ta:TE)(f:Str):TE:=λσ H Q=>ta σ H λx H1=>∃a C dx fs v,x=.ref a/\H1 a=some (.ins C dx fs)/\zz K C/\gg K C f/\fs.lookup f=some v/\Q v H1
def S2(K:W.Frag)(ta tv:TE)(f:Str):TS:=λD σ H=>tv σ H λy H1=>ta σ H1 λx H2=>∃a C dx fs,x=.ref a/\H2 a=some (.ins C dx fs)/\zz K C/\gg K C f/\fs.length<1000 /\
 D.nx σ (bS H2 a (.ins C dx (fK f y fs)))
section
variable {X:Cx} {o e value:Expr} {f:Str} {pos oF zV:Pos} {ta tv:TE}
def Kx(he:PE X e ta)(hb:attributeBase e f X.env (eval e X.env)=eval e X.env):PE X (.Attribute e f pos) (S0 X.K ta f):=by
 intro ae s σ H Q I h;refine Gh hb (thn (he ae s σ H _ I h) λu s1 z9=>?_)
 obtain⟨x,H1,I1,rx,a,C,dx,fs,v,ex,ea,c,n,l,q⟩:=z9;subst ex;obtain rfl:u=Value.ref a:=rx;exact wK I1 ea c n l λu' s2 I2 ru=>⟨v,H1,I2,ru,q⟩
def Kz(ha:PE X o ta)(hv:PE X value tv)(hs:swapsWith value (some (.Attribute o f oF)) pos.line X.env=pure false):PS X (.Assign [.Attribute o f oF] value pos) (S2 X.K ta tv f):=by
 intro ae s σ H D I h;refine plainObj_wpAny_Assign_Attribute (thn (hv ae s σ H _ I h) λu s1 ⟨y,H1,I1,ry,q⟩=>thn (ha ae s1 σ H1 _ I1 q) λov s2 z9=>?_) hs
 obtain⟨x,H2,I2,rx,a,C,dx,fs,ex,ea,c,n,l,q2⟩:=z9;subst ex;obtain rfl:ov=Value.ref a:=rx;exact wL I2 ea c n l ry λs3 I3=>⟨σ,_,I3,q2⟩
end
structure dw (k:Nat) (A:Around):Prop where
 hd:A.handled=none
 dp:A.depth+3*k+5<recursionLimit
 un:A.units+16*k+1200<cLine
def dw.mono(r:dw k A)(h:j<=k):dw j A:=⟨r.hd,by have:=r.dp;lia,by have:=r.un;lia⟩
def dw.deeper(r:dw (k+1) A)(env:Env):dw k (A.deeper env) :=
 ⟨r.hd,by have:=r.dp;show A.depth+1+3*k+5<_;lia,by have:=r.un;show A.units+3+16*k+1200<_;lia⟩
def wM{A:Around}:(A.under (.builtin "type.__call__" ⟨.ref C::us,kw⟩)).depth=A.depth+1:=by
 first | rfl | simp[Around.under,Code.weight,Code.isCreation,Code.isGuard,Code.isCaller,Code.frames,Code.isFrame,guardIds]
def wN{A:Around}:(A.under (.builtin "type.__call__" ⟨.ref C::us,kw⟩)).units=A.units+1:=by
 first | rfl | simp[Around.under,Code.cUnits,Code.frames,Code.isFrame]
def dw.make(r:dw (k+1) A)(C:Addr)(us:List Value)(kw:List (Str×Value)):dw k (A.under (.builtin "type.__call__" ⟨.ref C::us,kw⟩)) :=
 ⟨r.hd,by have:=r.dp;rw[wM];lia,by have:=r.un;rw[wN];lia⟩
def dw.depth(r:dw k A):A.depth<recursionLimit:=by have:=r.dp;lia
def S3:TA:=λ_ H Q=>Q [] H
def Oq(ta:TE)(tr:TA):TA:=λσ H Q=>ta σ H λx H1=>tr σ H1 λxs H2=>Q (x::xs) H2
section
variable {X:Cx} {e:Expr} {es:List Expr} {te:TE} {t:TA} {pos:Pos}
def mW:PA X [] S3:=λ_ _ _ _ H Q I h=>Calls.spliced_nil ⟨[],H,I,.nil,h⟩
def fx(ha:PE X e te)(hr:PA X es t)(hs:starEach (e::es) X.env=(false,eval e X.env)::starEach es X.env:=by rfl):PA X (e::es) (Oq te t):=by
 intro pos ae s σ H Q I h;rw[hs];refine Calls.spliced_cons (thn (ha ae s σ H _ I h) λu s1 ⟨x,H1,I1,r1,q1⟩=>?_)
 exact thn (hr pos ae s1 σ H1 _ I1 q1) (by rintro us s2 ⟨xs,H2,I2,r2,q2⟩;exact⟨x::xs,H2,I2,.cons r1 r2,q2⟩)
def S4(t:TA):TE:=λσ H Q=>t σ H λxs H1=>xs.length<=sizeLine/\∀p,H1 p=none->Q (.ref p) (bS H1 p (.ak xs))
def S5(t:TA):TE:=λσ H Q=>t σ H λxs H1=>xs.length<=sizeLine/\∀p,H1 p=none->Q (.ref p) (bS H1 p (.lst xs))
def KA{x1}(h:PA X es t):PE X (.Tuple es x1 pos) (S4 t):=by
 intro ae s σ H Q I hq;refine wpAny_Tuple_spliced (thn (h pos ae s σ H _ I hq) λus s1 ⟨xs,H1,I1,r,z,q⟩=>⟨by rw[<-r.length];exact z,?_⟩)
 have hf:=I1.hok.fresh (aq _);refine⟨.ref s1.heap.objs.size,bS H1 s1.heap.objs.size (.ak xs),I1.laid (λb u e=>ax _ e) (aq _) ?_,rfl,q _ hf⟩
 exact⟨z,us,r,lx.new _ _⟩
def CA(h:PA X es t):PE X (.List es pos) (S5 t):=by
 intro ae s σ H Q I hq;refine wpAny_List_spliced (thn (h pos ae s σ H _ I hq) λus s1 ⟨xs,H1,I1,r,z,q⟩=>⟨by rw[<-r.length];exact z,?_⟩)
 have hf:=I1.hok.fresh (aq _);refine⟨.ref s1.heap.objs.size,bS H1 s1.heap.objs.size (.lst xs),I1.laid (λb u e=>ax _ e) (aq _) ?_,rfl,q _ hf⟩
 exact⟨z,us,0,r,aU _ rfl⟩
end
abbrev Sp:=List V->Hp->VK->XK->Prop
abbrev BO:=List Env->Hp->Shared->XK->Value->Shared->Prop
structure Env0 (P:Program) (w:World) (K:W.Frag) (mg:Str->Option Value) (base:Heap) (A:Around) (aB:List Env) (s:Shared) (H:Hp):Prop where
 frames:A.frames=some aB
 mod:Mod K mg base
 bs:∀b o,base.get? b=some o->s.heap.get? b=some o/\H b=none
 bsz:base.objs.size<=s.heap.objs.size
 funs:s.heap.FunFrames base aB
 frf:∀b∈jw aB,H b=none
 hok:jq P w H s.heap
 bare:AllBare s.gens
 tabs:mN K H
def CE(aB:List Env)(P:Program)(w:World)(H:Hp)(s:Shared)(Q:VK)(u:Value)(s':Shared):Prop :=
 ∃v H',s'.os=s.os/\AllBare s'.gens/\Un (jw aB) [] H H' s.heap s'.heap/\jq P w H' s'.heap/\RelV v u/\Q v H'
def CR(CX:BO)(aB:List Env)(P:Program)(w:World)(H:Hp)(s:Shared)(Q:VK)(E:XK)(r:Result)(s':Shared):Prop :=
 match r with
 | .ok (.ret u)=>CE aB P w H s Q u s'
 | .ok _=>False
 | .error e=>CX aB H s E e s'
structure FnOk (P:Program) (w:World) (K:W.Frag) (mg:Str->Option Value) (base:Heap) (CX:BO) (k:Nat) (f:Addr) (fd:FuncData) (ps:List Str) (sp:Sp):Prop where
 len:∀vs H Q E,sp vs H Q E->vs.length=ps.length
 run:∀(A:Around) (aB:List Env) (s:Shared) (H:Hp) (args:Args) (us:List Value) (vs:List V) (Q:VK) (E:XK),dw k A->Env0 P w K mg base A aB s H->BindsTo s fd args (ps.zip us)->Vals vs us->sp vs H Q E ->
  codeAny (model P w) A (.call (.ref f) args) (CR CX aB P w H s Q E) s
def Env0.make{P:Program}{w:World}{K:W.Frag}{mg:Str->Option Value}{base:Heap}{A:Around}{aB:List Env}{s:Shared}{H:Hp}(e:Env0 P w K mg base A aB s H)(C:Addr)(us:List Value)(kw:List (Str×Value)) :
  Env0 P w K mg base (A.under (.builtin "type.__call__" ⟨.ref C::us,kw⟩)) aB s H:=⟨by first | exact e.frames | (simpa[Around.under,Code.envs,Code.isFrame,pushEnvs]using e.frames),e.mod,e.bs,e.bsz,e.funs,e.frf,e.hok,e.bare,e.tabs⟩
section
variable {X:Cx} {ae:List (Addr×Obj)} {σ:St} {H:Hp} {s s':Shared}
def Inv.Ot(I:Inv X ae σ H s):Env0 X.prog X.w X.K X.mg X.base X.A X.stack s H :=
 ⟨I.ok.frames,I.ok.mod,I.bs,aL I.ok.bsz I.sz,I.stack,I.rF,I.hok,I.bare,I.tabs⟩
def Inv.after(I:Inv X ae σ H s)(h:CE X.stack X.prog X.w H s Q u s'):EP X ae σ Q u s':=by
 obtain⟨v,H',os,bare,un,hok,r,q⟩:=h;obtain⟨hh,g,d,t,Gi⟩:=s';obtain rfl:Gi=s.os:=os;exact⟨v,H',I.call un hok bare (λb z=>absurd z (by simp)),r,q⟩
end
def IW(C:Addr)(sp:Sp)(IJ:List V)(E:XK)(t:TA):TE:=λσ H Q=>t σ H λvs H1=>∀x dx,H1 x=none->H1 dx=none->dx≠x ->
 sp (.ref x::(vs++IJ)) (bS (bS H1 dx (.own x)) x (.ins C dx [])) (λv H2=>v=.aV/\Q (.ref x) H2) E
def eO(K:W.Frag)(fd:FuncData)(ps:List Str)(ds:List Value):Prop :=
 ∀(s:Shared) (us:List Value),K.In s.heap->(us++ds).length=ps.length->BindsTo s fd ⟨us,[]⟩ (ps.zip (us++ds))
def eO.all{K:W.Frag}{fd:FuncData}{ps:List Str}(h:∀us:List Value,us.length=ps.length->bindArgs fd ⟨us,[]⟩=pure (ps.zip us)):eO K fd ps []:=λs us _ hl=>by
 rw[eI]at hl ⊢;exact .of_eq (h us hl)
def wO(CX:BO)(X:Cx)(E:XK):Prop:=∀(ae:List (Addr×Obj)) (σ:St) (H:Hp) (s:Shared) (e:Value) (s':Shared),Inv X ae σ H s->CX X.stack H s E e s'->X.xe e s'
section
variable {X:Cx} {CX:BO} {k:Nat} {f C:Addr} {fd:FuncData} {ps:List Str} {sp:Sp} {IJ:List V} {ds:List Value} {E:XK} {x m:Str} {p pos ju:Pos} {e o:Expr} {es:List Expr} {ta:TE} {t:TA}
def CB{ae:List (Addr×Obj)}{σ:St}{H:Hp}{s:Shared}{Q:VK}{us:List Value}{vs:List V}(M:Mk X.K C f)(F:FnOk X.prog X.w X.K X.mg X.base CX k f fd ps sp)(hr:dw (k+1) X.A)(hb:eO X.K fd ps ds)(hd:Vals IJ ds)
  (hx:wO CX X E) (I:Inv X ae σ H s) (r:Vals vs us)
  (h:∀x dx,H x=none->H dx=none->dx≠x->sp (.ref x::(vs++IJ)) (bS (bS H dx (.own x)) x (.ins C dx [])) (λv H2=>v=.aV/\Q (.ref x) H2) E) :
  wpAny (model X.prog X.w) X.A (call (.ref C) us) (EP X ae σ Q) X.xe s:=by
 have hq:=h (s.heap.objs.size+1) s.heap.objs.size (I.hok.fresh (Nat.le_succ _)) (I.hok.fresh (aq _)) (aJ (kj _));have I2:=Inv.made (C:=C) I;have r2:Vals (V.ref (s.heap.objs.size+1)::(vs++IJ)) (Value.ref (s.heap.objs.size+1)::(us++ds)):=.cons rfl (r.append hd);have hl:(Value.ref (s.heap.objs.size+1)::us++ds).length=ps.length:=by
  have e:=r2.length;rw[F.len _ _ _ _ hq]at e;exact e.symm
 refine wpAny_call (Cz I.mO M.makes M.init (beq_iff_eq.mp M.fn) (ku (F.run _ X.stack _ _ ⟨Value.ref (s.heap.objs.size+1)::us,[]⟩ (Value.ref (s.heap.objs.size+1)::(us++ds)) _ _ E (hr.make C us [])
  (I2.Ot.make C us []) (hb _ (Value.ref (s.heap.objs.size+1)::us) I2.mO hl) r2 hq) λr s' IX=>?_))
 cases r with
 | error e=>exact hx ae σ _ _ e s' I2 IX
 | ok fl =>
  cases fl with
  | ret u =>
   obtain⟨v,H',I3,rv,ev,q3⟩:=I2.after IX;subst ev;exact⟨rv,⟨V.ref (s.heap.objs.size+1),H',I3,rfl,q3⟩⟩
  | next=>exact False.elim IX
  | brk=>exact False.elim IX
  | cont=>exact False.elim IX
def Gj(M:Mk X.K C f)(F:FnOk X.prog X.w X.K X.mg X.base CX k f fd ps sp)(hr:dw (k+1) X.A)(hg:Gl X x)(hm:X.mg x=some (.ref C))(hb:eO X.K fd ps ds)(hd:Vals IJ ds)(hx:wO CX X E)
  (ha:PA X (e::es) t) (yr:(x==("__debug__":Str))=false:=by decide) (he:starEach (e::es) X.env=(false,eval e X.env)::starEach es X.env:=by rfl) (jA:(backTo pos (starEach es X.env)).any (·.1)=false:=by rfl) :
  PE X (.Call (.Name x p) (e::es) [] pos) (IW C sp IJ E t):=by
 intro ae s σ H Q I h;refine gN (ld_glob I hg hm ?_ yr);refine W.callWith_K I.ok.mod.kin M.kp (thn (ha pos ae s σ H _ I h) λus s1 ⟨vs,H1,I1,r,q⟩=>⟨I1.mO,?_⟩) he jA
 exact CB M F hr hb hd hx I1 r q
end
theorem pz{kindOf:Str->Option NameKind}:∀{tY:List (Str×Value)} {m:Str->Option Value},(∀v,(x,v)∉tY)->bindL kindOf tY m x=m x
 | [],_,_=>rfl
 | (n,v)::r,m,h=>by
  unfold bindL;rw[pz λw hw=>h w (bW _ hw)]
  split
  ·grind
  ·rfl
theorem pA{kindOf:Str->Option NameKind}:∀{tY:List (Str×Value)} {m:Str->Option Value},(∀v,(x,v)∉tY)->bindC kindOf tY m x=m x
 | [],_,_=>rfl
 | (n,v)::r,m,h=>by
  unfold bindC;rw[pA λw hw=>h w (bW _ hw)]
  split
  ·rfl
  ·grind
theorem pB{kindOf:Str->Option NameKind}:∀{P:List Str} {vs:List Value} {i:Nat} {m:Str->Option Value},P.Nodup->P[i]?=some x->vs[i]?=some v->kindOf x=some .local ->
  bindL kindOf (P.zip vs) m x=some v
 | [],_,_,_,_,h,_,_=>by simp at h
 | _::_,[],_,_,_,_,h,_=>by simp at h
 | p::P,w::vs,0,m,nd,h1,h2,hk=>by
  simp at h1 h2;subst h1;subst h2;show bindL kindOf ((p,w)::P.zip vs) m p=_;unfold bindL;rw[pz λv hv=>(eL.mp nd).1 (qX hv).1,if_pos hk]
  simp
 | p::P,w::vs,i+1,m,nd,h1,h2,hk=>by
  unfold bindL;exact pB (eL.mp nd).2 (by simpa using h1) (by grind) hk
theorem pC{kindOf:Str->Option NameKind}:∀{P:List Str} {vs:List Value} {i:Nat} {m:Str->Option Value},P.Nodup->P[i]?=some x->vs[i]?=some v->kindOf x≠some .local ->
  bindC kindOf (P.zip vs) m x=some v
 | [],_,_,_,_,h,_,_=>by simp at h
 | _::_,[],_,_,_,_,h,_=>by simp at h
 | p::P,w::vs,0,m,nd,h1,h2,hk=>by
  simp at h1 h2;subst h1;subst h2;show bindC kindOf ((p,w)::P.zip vs) m p=_;unfold bindC;rw[pA λv hv=>(eL.mp nd).1 (qX hv).1,if_neg hk]
  simp
 | p::P,w::vs,i+1,m,nd,h1,h2,hk=>by
  unfold bindC;exact pC (eL.mp nd).2 (by simpa using h1) (by grind) hk
def start(N:List Str)(vs:List V):St:=vs.map some++List.replicate (N.length-vs.length) none
def eQ(CX:BO)(P:Program)(w:World)(K:W.Frag)(mg:Str->Option Value)(base:Heap)(N:List Str)(qual:Str)(scope:Scope)(f:Addr)(cd:Value)(A:Around)(aB:List Env)(s:Shared)(H:Hp)(E:XK):Cx where
 prog:=P
 w:=w
 K:=K
 mg:=mg
 base:=base
 A:=A.deeper (envOfC qual scope s.heap.objs.size f cd)
 N:=N
 s₀:=s
 aa:=H
 env:=envOfC qual scope s.heap.objs.size f cd
 aB:=aB
 stack:=envOfC qual scope s.heap.objs.size f cd::aB
 ex:=[]
 calm:=true
 fn:=λ_=>true
 pn:=[]
 xe:=λe s'=>wpAny (model P w) (A.deeper (envOfC qual scope s.heap.objs.size f cd)) (leaving (envOfC qual scope s.heap.objs.size f cd) e) (λ_ KC=>CX aB H s E e KC) (λe' KC=>CX aB H s E e' KC) s'
def tZ{sc:Scope}(h:sc.names.lookup x=some .cell):∃c,(cellsFrom n sc.names []).lookup x=some c:=by
 have q:=W.cellsFrom_some sc.names n [] (.inl h);exact Option.isSome_iff_exists.mp q
def zW{CX:BO}{P:Program}{w:World}{K:W.Frag}{mg:Str->Option Value}{base:Heap}{N ps:List Str}{qual:Str}{scope:Scope}{f:Addr}{cd:Value}{A:Around}{aB:List Env}{s s1:Shared}{H:Hp}{E:XK}{us:List Value}{vs:List V}
  (S:cQ N ps scope) (hd:A.handled=none) (e0:Env0 P w K mg base A aB s H) (hl:vs.length=ps.length) (r:Vals vs us)
  (x:InCallC s s.heap.objs.size (bindL (envOfC qual scope s.heap.objs.size f cd).kindOf (ps.zip us) λ_=>none) (cellsFrom (s.heap.objs.size+1) scope.names []) (bindC (envOfC qual scope s.heap.objs.size f cd).kindOf (ps.zip us) λ_=>none) s1) :
  Inv (eQ CX P w K mg base N qual scope f cd A aB s H E) [] (start N vs) H s1:=by
 have jA:ps.length<=N.length:=by have:=d9 List.length S.pre;rw[km]at this;lia
 obtain⟨h1,tk,rfl,hk⟩:=x.done;have noA:∀b:Addr,b∉(eQ CX P w K mg base N qual scope f cd A aB s H E).ex:=λb z=>absurd (show b∈([]:List Addr)from z) (by simp)
 refine⟨⟨e0.mod,S.kind,rfl,rfl,aq _,λy z c h1 h2=>?_,λy hy=>?_,λy c _ h=>?_,λ_=>hd,Around.frames_deeper e0.frames,.inr ⟨rfl,rfl⟩,λb z=>absurd z (noA b),e0.bs,e0.bsz,λb _ _=>noA b,λb z=>absurd z (noA b),e0.funs,e0.frf,e0.tabs⟩,
  rfl,e0.bare,Un.kept hk,⟨_,x.toInCall.ns,λi y v h1 h2 h3=>?_⟩,λy c h=>⟨_,x.cell y c h⟩,e0.hok.fresh (aq _),λy c h=>?_,λp hp=>absurd (show p∈([]:List (Addr×Obj))from hp) (by simp),e0.hok.kept hk,?_⟩
 ·exact name_of_addr x.apart (dF h1) (dF h2)
 ·have hy:=hy;rcases hy with hy | hy
  ·exact tZ hy
  ·exact absurd rfl (S.nofree _ (dF hy))
 ·exact rm (x.above y c (dF h))
 ·have hi:i<vs.length:=by
   unfold start at h2;by_cases hi:i<vs.length
   ·exact hi
   ·grind
  have ha:vs[i]?=some v:=by
   unfold start at h2;rw[ma (by grind),bu]at h2
   cases e:vs[i]? with
   | none=>rw[e]at h2;cases h2
   | some a=>rw[e]at h2;cases h2;rfl
  obtain⟨u,hu,rv⟩:=r.get ha;have hp:ps[i]?=some y:=by
   rw[<-S.pre,List.getElem?_take_of_lt (by lia)];exact h1
  have VO:ps.Nodup:=by rw[<-S.pre];exact S.nd.sublist (mx _ _)
  refine⟨u,rv,?_⟩;rcases S.par y (mj hp)with k | k
  ·exact .inl ⟨k,pB VO hp hu k⟩
  ·obtain⟨c,e⟩:=tZ k;refine .inr ⟨.inl k,c,e,?_⟩;have q:=x.cell y c e;rw[pC VO hp hu (by show scope.names.lookup y≠_;rw[k];decide)]at q
   exact q
 ·exact e0.hok.fresh (rm (x.above y c (dF h)))
 ·unfold start;show _=N.length;rw[cG,ah,List.length_replicate]
  lia
def Ou{CX:BO}{P:Program}{w:World}{K:W.Frag}{mg:Str->Option Value}{base:Heap}{k:Nat}{f:Addr}{name qual:Str}{pq9:Arguments}{body:List Stmt}{scope:Scope}{dV kV doc pm dQ ct oc:Value}{an od:Option Addr}
  {vw:Array (Option Value)} {N ps:List Str} {sp:Sp} (lk:K.lookup f=some ⟨oc,od,.func (W.fnOf name qual pq9 body scope dV kV doc pm an dQ ct),vw⟩) (Bx:W.codeIn K dQ qual=true) (S:cQ N ps scope)
  (len:∀vs H Q E,sp vs H Q E->vs.length=ps.length)
  (hbody:∀(A:Around) (aB:List Env) (s:Shared) (H:Hp) (vs:List V) (Q:VK) (E:XK),dw k (A.deeper (envOfC qual scope s.heap.objs.size f dQ))->sp vs H Q E ->
   ∃t,PSs (eQ CX P w K mg base N qual scope f dQ A aB s H E) body t/\t {nx:=λ_ H'=>Q .aV H',rt:=Q} (start N vs) H) :
  FnOk P w K mg base CX (k+1) f (W.fnOf name qual pq9 body scope dV kV doc pm an dQ ct) ps sp:=by
 refine⟨len,λA aB s H args us vs Q E hr e0 hb r Nv=>?_⟩
 have hl:=len _ _ _ _ Nv;have KX:=e0.mod.kin.keeps λb o e=>(e0.bs b o e).1
 have Xq:=e0.mod.nolimit.keeps λb o e=>(e0.bs b o e).1
 have Ov:∀y∈ps.zip us,scope.names.lookup y.1=some .local\/(scope.names.lookup y.1=some .cell/\((cellsFrom (s.heap.objs.size+1) scope.names []).lookup y.1).isSome=true):=by
  rintro⟨n,v⟩ hy
  rcases S.par n (qX hy).1 with q | q
  ·grind
  ·exact .inr ⟨q,W.cellsFrom_some _ _ _ (.inl q)⟩
 refine codeAny_call_function hr.depth (KX _ _ lk) rfl S.co S.gen rfl (W.codeRec_of KX Bx) (hb _ _ _ _ ?_);refine wpAny_newFunctionEnv_cells S.kind Ov λenv he s1 x=>?_
 subst he;refine⟨Xq.keeps x.toInCall.keep,codeAny_func ?_⟩;obtain⟨t,ht,hq⟩:=hbody A aB s H vs Q E (hr.deeper _) Nv;have I:Inv (eQ CX P w K mg base N qual scope f dQ A aB s H E) [] (start N vs) H s1:=zW S hr.hd e0 hl r x;refine mL (ht [] s1 (start N vs) H _ I hq) (λfl s' hs=>?_) λe s' hs=>hs
 have gT:∀{bc:St} {H':Hp} {v:V} {u:Value},Inv (eQ CX P w K mg base N qual scope f dQ A aB s H E) [] bc H' s'->RelV v u->Q v H'->CE aB P w H s Q u s' :=
  λ{bc H' v u} J rv q=>⟨v,H',J.os,J.bare,J.base,J.hok,rv,q⟩
 cases fl with
 | ret u =>
  obtain⟨v,bc,H',J,rv,q⟩:=hs;exact gT J rv q
 | next =>
  obtain⟨bc,H',J,q⟩:=hs;exact gT (v:=V.aV) J rfl q
 | brk =>
  obtain⟨_,_,_,q⟩:=hs;exact False.elim q
 | cont =>
  obtain⟨_,_,_,q⟩:=hs;exact False.elim q
section
variable {X:Cx} {x:Str} {p pos:Pos} {e:Expr} {es:List Expr} {t:TA} {id T:String} {r:List V->Hp->VK->Prop}
def S6(r:List V->Hp->VK->Prop)(t:TA):TE:=λσ H Q=>t σ H λvs H1=>r vs H1 Q
def gU(hc:iG X (.builtin id) r)(hg:Gl X x)(hm:X.mg x=none)(hv:bootBuiltins x=some (.builtin id))(ha:PA X (e::es) t)(hn:x≠"__name__":=by decide)(yr:(x==("__debug__":Str))=false:=by decide)
  (he:starEach (e::es) X.env=(false,eval e X.env)::starEach es X.env:=by rfl) (jA:(backTo pos (starEach es X.env)).any (·.1)=false:=by rfl):PE X (.Call (.Name x p) (e::es) [] pos) (S6 r t):=by
 intro ae s σ H Q I h;refine gN (ld_blt I hg hm hv ?_ hn yr);exact BF (thn (ha pos ae s σ H _ I h) (by rintro us s1 ⟨vs,H1,I1,r1,q1⟩;exact hc ae s1 σ H1 vs us Q I1 r1 q1)) he jA
def kC(hc:iG X (.type T) r)(hg:Gl X x)(hm:X.mg x=none)(hv:bootBuiltins x=some (.type T))(ha:PA X (e::es) t)(hn:x≠"__name__":=by decide)(yr:(x==("__debug__":Str))=false:=by decide)
  (he:starEach (e::es) X.env=(false,eval e X.env)::starEach es X.env:=by rfl) (jA:(backTo pos (starEach es X.env)).any (·.1)=false:=by rfl):PE X (.Call (.Name x p) (e::es) [] pos) (S6 r t):=by
 intro ae s σ H Q I h;refine gN (ld_blt I hg hm hv ?_ hn yr);exact dD (thn (ha pos ae s σ H _ I h) (by rintro us s1 ⟨vs,H1,I1,r1,q1⟩;exact hc ae s1 σ H1 vs us Q I1 r1 q1)) he jA
end
end L2
namespace HT
open PySem PyProof.Rows
section
variable {prog:Program} {w:World} {A:Around} {E:Value->Shared->Prop} {s:Shared}
def yt(ht:IsTup s.heap t vs.toArray)(hb:IsTup s.heap b ws.toArray)(hv:vs≠[])
  (h1:ws=[]->Q (.ref t) s) (h2:ws≠[]->Q (.ref s.heap.objs.size) {s with heap:=s.heap.push {cls:=.type "tuple",data:=.seq (vs++ws).toArray}})
  (hsz:vs.length+ws.length<=sizeLine):wpAny (model prog w) A (binaryOp .Add (.ref t) (.ref b)) Q E s:=by
 obtain⟨⟨cls,dd,data,sl⟩,ho,hc,n,hd⟩:=id ht;obtain⟨⟨S7,RF,Ow,RG⟩,KD,Ox,n2,Oy⟩:=id hb;simp only at hc hd Ox Oy;subst hc hd Ox Oy;have e:vs.toArray++ws.toArray=(vs++ws).toArray:=by simp
 by_cases hw:ws=[]
 ·exact concat_meets ⟨_,ho,rfl⟩ ⟨_,KD,rfl⟩ v9 seq_tuple_add vK vJ (vC _ _)
   (tuple_addW1 t b vs.toArray ws.toArray n n2 dd RF sl RG (by grind) (by simp[hw])) ⟨ho,KD,h1 hw⟩
 ·refine concat_meets ⟨_,ho,rfl⟩ ⟨_,KD,rfl⟩ v9 seq_tuple_add vK vJ (vC _ _)
   (tuple_addW2 t b vs.toArray ws.toArray n n2 dd RF sl RG (by grind) (by grind) (by grind)) ⟨ho,KD,?_⟩
  rw[e];exact h2 hw
def cZ(n d:Nat):Option Int->Nat
 | none=>d
 | some v=>if v<0 then(v+(n:Int)).toNat else min v.toNat n
def mX(n d:Nat):cZ n d none=d:=rfl
def yu(n d k:Nat):cZ n d (some (k:Int))=min k n:=by
 show(if(k:Int)<0 then((k:Int)+(n:Int)).toNat else min (k:Int).toNat n)=min k n
 rw[if_neg (by lia),ki]
def KH(n d:Nat)(hd:d<=n)(o:Option Int):cZ n d o<=n:=by
 cases o with
 | none=>exact hd
 | some v =>
  show(if v<0 then(v+(n:Int)).toNat else min v.toNat n)<=n
  by_cases hv:v<0
  ·grind
  ·grind
def yv(v:Int)(n d:Nat):(if v<0 then max (v+(n:Int)) 0 else min v (n:Int))=((cZ n d (some v):Nat):Int):=by
 show(if v<0 then max (v+(n:Int)) 0 else min v (n:Int))=(((if v<0 then(v+(n:Int)).toNat else min v.toNat n):Nat):Int)
 by_cases hv:v<0
 ·grind
 ·grind
def wQ(lo hi:Option Int)(n:Nat):Builtin.Slice.sliceAdjust lo hi 1 (n:Int)=(((cZ n 0 lo:Nat):Int),((cZ n n hi:Nat):Int)):=by
 have h1:¬(1<0):=by lia
 unfold Builtin.Slice.sliceAdjust;simp only[h1,cB];refine Prod.ext ?_ ?_
 ·cases lo with
  | none=>rfl
  | some v=>exact yv v n 0
 ·cases hi with
  | none=>rfl
  | some v=>exact yv v n n
def wR(i j:Nat):Builtin.Slice.slicePlaces (i:Int) (j:Int) 1=j-i:=by
 unfold Builtin.Slice.slicePlaces;have h1:1>0:=by lia
 simp only[h1,ee,Int.ediv_one];split<;>lia
def mY(p:IsPart v o)(h:Q o s):wpAny (model prog w) A (Builtin.Slice.slicePartIndex v) Q E s:=by
 cases p with
 | none=>exact slicePart_none h
 | int i t=>exact slicePart_int h
def fL{vl vu:Value}{lo hi:Option Int}{n:Nat}{Q:Int×Int×Nat->Shared->Prop}(hs:s.heap.IsSliceOf sl vl vu .none)(pl:IsPart vl lo)(pu:IsPart vu hi)
  (h:Q (((cZ n 0 lo:Nat):Int),1,cZ n n hi-cZ n 0 lo) s):wpAny (model prog w) A (Builtin.Slice.sliceApplied (.ref sl) (pure (n:Int))) Q E s:=by
 obtain⟨os,Ff,RH,IY⟩:=id hs;unfold Builtin.Slice.sliceApplied Builtin.Slice.sliceFields;refine af (af (bR Ff IY rfl (af (bR Ff IY rfl (af (bR Ff IY rfl (ag ?_)))))));refine af (slicePart_none ?_);rw[if_neg (by decide)]
 refine af (mY pl (af (mY pu (af (ag ?_)))));show wpAny _ _ (match Builtin.Slice.sliceAdjust lo hi 1 (n:Int)with | (lo,hi)=>pure (lo,(1:Int),Builtin.Slice.slicePlaces lo hi 1)) _ _ s
 rw[wQ lo hi n];show wpAny _ _ (pure (((cZ n 0 lo:Nat):Int),(1:Int),Builtin.Slice.slicePlaces ((cZ n 0 lo:Nat):Int) ((cZ n n hi:Nat):Int) 1)) _ _ s;rw[wR];exact ag h
def CD(xs:Array Value)(i k:Nat):((List.range k).filterMap fun(m:Nat)=>xs[((i:Int)+(m:Int)*1).toNat]?).toArray=((xs.toList.drop i).take k).toArray:=by
 have e:(fun(m:Nat)=>xs[(i+(m:Int)*1).toNat]?)=λm=>xs[i+m]?:=by
  grind
 rw[e];have:=pick_run xs i k;rw[List.filterMap_map]at this;have e2:((λx=>xs[x]?) ∘ λx=>i+x)=λm=>xs[i+m]?:=rfl
 rw[e2]at this;rw[this]
def jB{items:Array Value}{vl vu:Value}{lo hi:Option Int}{Q:Value->Shared->Prop}(ht:IsTup s.heap t items)(hs:s.heap.IsSliceOf sl vl vu .none)(pl:IsPart vl lo)(pu:IsPart vu hi)
  (hw:¬(cZ items.size 0 lo=0/\cZ items.size items.size hi=items.size))
  (h:Q (.ref s.heap.objs.size) {s with heap:=s.heap.push {cls:=.type "tuple",data:=.seq ((items.toList.drop (cZ items.size 0 lo)).take (cZ items.size items.size hi-cZ items.size 0 lo)).toArray}})
  (hsz:items.size<=sizeLine):wpAny (model prog w) A (getItem (.ref t) (.ref sl)) Q E s:=by
 have yw:sizeOk (.seq ((items.toList.drop (cZ items.size 0 lo)).take (cZ items.size items.size hi-cZ items.size 0 lo)).toArray):=by
  show((items.toList.drop (cZ items.size 0 lo)).take (cZ items.size items.size hi-cZ items.size 0 lo)).toArray.size<=sizeLine;rw[bK,km,qS,kd]
  lia
 have hj:cZ items.size items.size hi<=items.size:=KH _ _ (aq _) hi;obtain⟨os,Ff,RH,IY⟩:=id hs;have Xr:s.TypeIs (.ref sl) "slice":=⟨os,Ff,RH⟩;unfold getItem
 try with_reducible refine cz ?_
 first | refine af (ag ?_) | skip
 refine af (wpAny_sequenceKey ht.typeIs (by decide) ?_)
 refine af (d0 ht.typeIs j8
  (d7 j8 ht.typeIs entry_tuple_getitem ?_ (args_tuple_getitem _ _)))
 show wpAny _ _ (Builtin.Tuple.tupleItemsOf (.ref t) >>= _) _ _ s;refine af (tupleItemsOf_ ht ?_);refine af (iW Xr ?_);rw[if_pos (by decide)]
 refine af (fL hs pl pu ?_);have S8:¬((((cZ items.size 0 lo:Nat):Int)==0&&(1:Int)==1&&(cZ items.size items.size hi-cZ items.size 0 lo)==items.size)=true):=by
  grind
 show wpAny _ _ (if(((cZ items.size 0 lo:Nat):Int)==0&&(1:Int)==1&&(cZ items.size items.size hi-cZ items.size 0 lo)==items.size)=true then _ else _) _ _ s
 rw[if_neg S8,CD]
 first
  | exact af (m:=Builtin.Tuple.tupleExact _) (iN (ag ⟨_,rfl,ag h⟩) yw)
  | exact af (m:=Builtin.Tuple.tupleExact _) (iN (af (ag (ag ⟨_,rfl,ag h⟩))) yw)
  | exact af (af (m:=Builtin.Tuple.tupleExact _) (iN (ag (ag ⟨_,rfl,ag h⟩)) yw))
  | exact af (af (m:=Builtin.Tuple.tupleExact _) (iN (ag ⟨_,rfl,ag h⟩) yw))
end
end HT
namespace L2
open PySem PySem.Spec PyProof.Rows
abbrev TO:=St->Hp->(Option Int->Hp->Prop)->Prop
def PO(X:Cx)(e:Option Expr)(t:TO):Prop :=
 ∀(ae:List (Addr×Obj)) (s:Shared) (σ:St) (H:Hp) (Q:Option Int->Hp->Prop),Inv X ae σ H s->t σ H Q ->
  wpAny (model X.prog X.w) X.A (evalPart e X.env) (λu s'=>∃o H',Inv X ae σ H' s'/\IsPart u o/\Q o H') X.xe s
def Gk:TO:=λ_ H Q=>Q none H
def Oz(t:TE):TO:=λσ H Q=>t σ H λx H1=>∃i,x=.int i/\Q (some i) H1
def wU:∀{us:List Value},Vals (ns.map V.int) us->IntsAre us ns:=by
 induction ns with
 | nil=>intro us r;rw[bH]at r;cases r;exact .nil
 | cons n ns ih =>
  intro us r;rw[aA]at r;cases r with
  | cons r1 r2 =>
   obtain⟨t,e⟩:=r1;subst e;exact .cons n t (ih r2)
section
variable {X:Cx} {e:Expr} {te:TE} {lo hi:Option Expr} {tl th:TO} {pos p2:Pos}
def Gn:PO X none Gk:=by
 intro ae s σ H Q I h;rw[evalPart_none];exact ag ⟨none,H,I,.none,h⟩
def Gp(h:PE X e te):PO X (some e) (Oz te):=by
 intro ae s σ H Q I hw;rw[evalPart_some];refine thn (h ae s σ H _ I hw) λu s1 ⟨x,H1,I1,r1,q1⟩=>?_
 obtain⟨i,rfl,q⟩:=q1;obtain⟨t,rfl⟩:=r1;exact⟨some i,H1,I1,.int i t,q⟩
def RI(X:Cx)(r:V->Option Int->Option Int->Hp->VK->Prop):Prop :=
 ∀(ae:List (Addr×Obj)) (s:Shared) (σ:St) (H:Hp) (x:V) (v vl vu:Value) (lo hi:Option Int) (sl:Addr) (Q:VK),Inv X ae σ H s->RelV x v->s.heap.IsSliceOf sl vl vu .none->IsPart vl lo->IsPart vu hi->r x lo hi H Q ->
  ∃T id,typeLookup (.type T) "__getitem__"=pure (some (.builtin id))/\s.TypeIs v T/\wpAny (model X.prog X.w) X.A (getItem v (.ref sl)) (EP X ae σ Q) X.xe s
def VP(r:V->Option Int->Option Int->Hp->VK->Prop)(te:TE)(tl th:TO):TE:=λσ H Q=>te σ H λx H1=>tl σ H1 λl H2=>th σ H2 λu H3=>r x l u H3 Q
def CF{r:V->Option Int->Option Int->Hp->VK->Prop}(hr:RI X r)(he:PE X e te)(hl:PO X lo tl)(hu:PO X hi th):PE X (.Subscript e (.Slice lo hi none p2) pos) (VP r te tl th):=by
 intro ae s σ H Q I h;refine Subscript_ (thn (he ae s σ H _ I h) λv s1 ⟨x,H1,I1,r1,q1⟩=>?_)
 refine wpAny_Slice (thn (hl ae s1 σ H1 _ I1 q1) λvl s2 ⟨l,H2,I2,pl,q2⟩=>thn (hu ae s2 σ H2 _ I2 q2) λvu s3 ⟨u,H3,I3,pu,q3⟩=>?_)
 rw[evalPart_none];refine ag ?_;have I4:Inv X ae σ H3 {s3 with heap:=s3.heap.push {cls:=.type "slice",data:=.fields #[vl,vu,.none]}}:=I3.kept λb ob q=>ax _ q
 obtain⟨T,id,hT,ht,hg⟩:=hr ae {s3 with heap:=s3.heap.push {cls:=.type "slice",data:=.fields #[vl,vu,.none]}} σ H3 x v vl vu l u s3.heap.objs.size Q I4 r1 (Heap.IsSliceOf.new ..) pl pu q3
 show wpAny (model X.prog X.w) X.A (subscriptTail e (.Slice lo hi none p2) v (.ref s3.heap.objs.size)) (EP X ae σ Q) X.xe {s3 with heap:=s3.heap.push {cls:=.type "slice",data:=.fields #[vl,vu,.none]}}
 exact kz ht hT hg (by with_unfolding_all rfl)
def t5(xs:List V)(lo hi:Option Int):List V:=(xs.drop (HT.cZ xs.length 0 lo)).take (HT.cZ xs.length xs.length hi-HT.cZ xs.length 0 lo)
def kZ(xs:List V)(lo hi:Option Int):(t5 xs lo hi).length<=xs.length:=by
 unfold t5;rw[km,qS]
 lia
def S9(K:W.Frag):V->Option Int->Option Int->Hp->VK->Prop:=λx lo hi H Q=>∃a xs,x=.ref a/\ek K H a xs /\
 ¬(HT.cZ xs.length 0 lo=0/\HT.cZ xs.length xs.length hi=xs.length)/\∀p,H p=none->Q (.ref p) (bS H p (.ak (t5 xs lo hi)))
def KI:RI X (S9 X.K):=by
 intro ae s σ H x v vl vu lo hi sl Q I rx hs pl pu h;obtain⟨a,xs,rfl,hx,hw,q⟩:=h;cases rx;obtain⟨ai,r,ht,hz⟩:=I.tuple hx;have cS:ai.toArray.size=xs.length:=by rw[bK];exact r.length.symm
 refine⟨"tuple",_,j8.lookup,ht.typeIs,?_⟩;refine HT.jB ht hs pl pu (by grind) ?_ (by grind)
 rw[cS];refine⟨.ref s.heap.objs.size,_,I.laid (λb ob q=>ax _ q) (aq _) ?_,rfl,q _ (I.hok.fresh (aq _))⟩
 exact⟨aL (kZ xs lo hi) hz,_,(r.drop (HT.cZ xs.length 0 lo)).take (HT.cZ xs.length xs.length hi-HT.cZ xs.length 0 lo),lx.new _ _⟩
def OA(K:W.Frag):R2:=λx y H Q=>∃a b xs ys,x=.ref a/\y=.ref b/\ek K H a xs/\ek K H b ys/\xs≠[]/\xs.length+ys.length<=sizeLine /\
 (ys=[]->Q (.ref a) H)/\(ys≠[]->∀p,H p=none->Q (.ref p) (bS H p (.ak (xs++ys))))
def Vals.jC(r:Vals xs us):us=[]↔xs=[]:=by
 cases r with
 | nil=>simp
 | cons _ _=>simp
def Gq:OpR X (binaryOp .Add) (OA X.K):=by
 intro ae s σ H x y v u Q I rx ry h;obtain⟨a,b,xs,ys,rfl,rfl,ha,hb,hx,hz,q1,q2⟩:=h;cases rx;cases ry;obtain⟨ai,r1,p1,_⟩:=I.tuple ha;obtain⟨b9,r2,p2,_⟩:=I.tuple hb;refine HT.yt p1 p2 (λz=>hx (r1.jC.mp z)) (λz=>⟨.ref a,H,I,rfl,q1 (r2.jC.mp z)⟩) (λz=>?_) (by rw[<-r1.length,<-r2.length];exact hz)
 refine⟨.ref s.heap.objs.size,_,I.laid (λb ob q=>ax _ q) (aq _) ?_,rfl,q2 (λw=>z (r2.jC.mpr w)) _ (I.hok.fresh (aq _))⟩
 exact⟨by grind,_,r1.append r2,lx.new _ _⟩
end
def Fg(n:Nat)(i:Int):Option Nat:=if 0<=i then(if i<n then some i.toNat else none)else if -(n:Int)<=i then some (i+n).toNat else none
def mZ{α:Type}(xs:List α)(i:Int):Option α:=(Fg xs.length i).bind λj=>xs[j]?
def yx(h:Fg n i=some j):seqIndex? i n=some j/\j<n /\ -(n:Int)<=i/\i<n:=by
 unfold Fg at h;by_cases h0:0<=i
 ·rw[if_pos h0]at h;by_cases h1:i<n
  ·rw[if_pos h1]at h;have e:=bz h;exact⟨by rw[seqIndex_of h0 h1,e],by lia,by lia,h1⟩
  ·grind
 ·rw[if_neg h0]at h;by_cases h1:-n<=i
  ·rw[if_pos h1]at h;have e:=bz h;exact⟨by rw[seqIndex_neg (by lia) h1,e],by lia,h1,by lia⟩
  ·grind
def rK{α:Type}{xs:List α}{i:Int}{v:α}(h:mZ xs i=some v):∃j,seqIndex? i xs.length=some j/\xs[j]?=some v/\j<xs.length /\ -(xs.length:Int)<=i/\i<xs.length:=by
 unfold mZ at h;cases e:Fg xs.length i with
 | none=>rw[e]at h;cases h
 | some j =>
  rw[e]at h;obtain⟨h1,h2,h3,h4⟩:=yx e;exact⟨j,h1,h,h2,h3,h4⟩
def atI_nat{α:Type}{xs:List α}{j:Nat}{v:α}(h:xs[j]?=some v):mZ xs (j:Int)=some v:=by
 have hj:=(cw.mp h).1;have e:Fg xs.length j=some j:=by
  unfold Fg;rw[if_pos (by lia),if_pos (by lia)];simp
 unfold mZ;rw[e];exact h
def jD(b:Expr):Prop:=∀o i,subscripted b false o i=operate [o,i] (getItem o i)
def Nw(X:Cx)(r:R2):Prop :=
 ∀(value slice:Expr) (ae:List (Addr×Obj)) (s:Shared) (σ:St) (H:Hp) (x y:V) (v u:Value) (Q:VK),Inv X ae σ H s->RelV x v->RelV y u->r x y H Q ->
  subscripted slice false v u=operate [v,u] (getItem v u)->wpAny (model X.prog X.w) X.A (subscriptTail value slice v u) (EP X ae σ Q) X.xe s
def KJ(X:Cx)(id:String)(r:V->List V->Hp->VK->Prop):Prop :=
 ∀(ae:List (Addr×Obj)) (s:Shared) (σ:St) (H:Hp) (x:V) (xs:List V) (v:Value) (us:List Value) (Q:VK),Inv X ae σ H s->RelV x v->Vals xs us->r x xs H Q ->
  wpAny (model X.prog X.w) X.A (call (.builtin id) (v::us)) (EP X ae σ Q) X.xe s
section
variable {X:Cx} {a b:Expr} {ta tb:TE} {pos:Pos}
def CG(hr:Nw X r)(ha:PE X a ta)(hb:PE X b tb)(hs:jD b):PE X (.Subscript a b pos) (Kk r ta tb):=by
 intro ae s σ H Q I h;exact Subscript_ (F6 ha hb I h λv u s2 x y H2 I2 rx ry q=>hr a b ae s2 σ H2 x y v u Q I2 rx ry q (hs _ _))
def Ta(K:W.Frag):R2:=λx y H Q=>∃p xs i v,x=.ref p/\y=.int i/\rG K H p xs/\mZ xs i=some v/\Q v H
def Tb(K:W.Frag):R2:=λx y H Q=>∃p xs i v,x=.ref p/\y=.int i/\ek K H p xs/\mZ xs i=some v/\Q v H
def Tc:R2:=λx y H Q=>∃z i c,x=.str z/\y=.int i/\z.length<=sizeLine/\mZ z.cps.toList i=some c/\Q (.str ⟨#[c]⟩) H
def Gs:Nw X (Ta X.K):=by
 intro value slice ae s σ H x y v u Q I rx ry h hs;obtain⟨p,xs,i,z,rfl,rfl,hq,he,q⟩:=h;cases rx;obtain⟨t,rfl⟩:=ry;obtain⟨ai,r,pl,hz⟩:=I.list hq;obtain⟨j,h1,h2,h3,h4,h5⟩:=rK he;obtain⟨w,ew,Gu⟩:=r.get h2;have hl:=r.length;have hn:=iZ;have gT:EP X ae σ Q w s:=⟨z,H,I,Gu,q⟩;by_cases h0:0<=i
 ·have hj:i.toNat=j:=by
   rw[seqIndex_of h0 h5]at h1;exact bz h1
  exact item_listR pl.isList h0 (by lia) (by grind) gT hs
 ·have hj:(i+(ai.toArray.size:Int)).toNat=j:=by
   rw[seqIndex_neg (by lia) h4]at h1
   rw[bK,<-hl];exact bz h1
  exact subscriptTail_builtinR pl.isList.typeIs slot_list_getitem.lookup
   (wpAny_getItem_list_neg pl.isList (by lia) (by grind) (by lia) (by grind) ⟨rfl,gT⟩) hs
def KL:Nw X (Tb X.K):=by
 intro value slice ae s σ H x y v u Q I rx ry h hs;obtain⟨p,xs,i,z,rfl,rfl,hq,he,q⟩:=h;cases rx;obtain⟨t,rfl⟩:=ry;obtain⟨ai,r,pl,hz⟩:=I.tuple hq;obtain⟨j,h1,h2,h3,h4,h5⟩:=rK he;obtain⟨w,ew,Gu⟩:=r.get h2;have hl:=r.length;have hn:=iZ;have gT:EP X ae σ Q w s:=⟨z,H,I,Gu,q⟩;exact subscriptTail_builtinR pl.typeIs slot_tuple_getitem.lookup
  (getItem_tuple pl (by lia) (by lia) (by rw[bK,<-hl];exact h1) (by grind) ⟨rfl,gT⟩) hs
def KN:Nw X Tc:=by
 intro value slice ae s σ H x y v u Q I rx ry h hs;obtain⟨z,i,c,rfl,rfl,hz,he,q⟩:=h;obtain⟨t,rfl⟩:=rx;obtain⟨t',rfl⟩:=ry;obtain⟨j,h1,h2,h3,h4,h5⟩:=rK he;have hl:z.cps.toList.length=z.length:=by simp[Str.length]
 rw[hl]at h1 h4 h5;have hn:=iZ;exact kz (typeIs_str s z t) slot_str_getitem.lookup (getItem_str (by
  grind) (by grind) ⟨.str ⟨#[c]⟩,H,I.tok _,⟨_,rfl⟩,q⟩) hs
def wV(ai:List Value)(n j:Nat)(u:Value):Obj.mapSeq (·.setIfInBounds j u) {cls:=.type "list",data:=.seq ai.toArray n}={cls:=.type "list",data:=.seq (ai.set j u).toArray n}:=by
 simp[Obj.mapSeq]
def Inv.lst{ae:List (Addr×Obj)}{σ:St}{H:Hp}{s:Shared}{p:Addr}{xs:List V}(I:Inv X ae σ H s)(h:H p=some (.lst xs)) :
  ∃(ai:List Value) (n:Nat),Vals xs ai/\s.heap.get? p=some {cls:=.type "list",data:=.seq ai.toArray n}/\xs.length<=sizeLine:=by
 obtain⟨z,ai,n,r,e⟩:=I.hok p _ h;exact⟨ai,n,r,e,z⟩
def Inv.KO{ae:List (Addr×Obj)}{σ:St}{H:Hp}{s:Shared}{p:Addr}{xs ys:List V}{ai ly:List Value}{n n':Nat}{f:Obj->Obj}(I:Inv X ae σ H s)(h:H p=some (.lst xs))
  (ho:s.heap.get? p=some {cls:=.type "list",data:=.seq ai.toArray n}) (hf:f {cls:=.type "list",data:=.seq ai.toArray n}={cls:=.type "list",data:=.seq ly.toArray n'}) (r:Vals ys ly) (hz:ys.length<=sizeLine) (t:Nat) :
  Inv X ae σ (bS H p (.lst ys)) {s with heap:=s.heap.update p f,toks:=t}:=by
 have e:(s.heap.update p f).get? p=some {cls:=.type "list",data:=.seq ly.toArray n'}:=by
  rw[gL f ho (by rw[hf]<;>rfl),hf]
 refine I.write (by rw[h];trivial) (.inl rfl) (λb u hb q=>(gK _ _ (bA hb)).trans q) ⟨_,e⟩ ?_
 exact⟨hz,ly,n',r,e⟩
def OB:V->V->V->Hp->(Hp->Prop)->Prop:=λo i v H Q=>∃p xs k j,o=.ref p/\i=.int k/\H p=some (.lst xs)/\Fg xs.length k=some j/\Q (bS H p (.lst (xs.set j v)))
def CH:Cn X OB:=by
 intro ae s σ H o i v ov iv u Q I ro ri rv h;obtain⟨p,xs,k,j,rfl,rfl,hp,hj,q⟩:=h;cases ro;obtain⟨t,rfl⟩:=ri;obtain⟨ai,n,r,ho,hz⟩:=I.lst hp;obtain⟨h1,h2,h3,h4⟩:=yx hj;have hl:=r.length;have hn:=iZ;have I':Inv X ae σ (bS H p (.lst (xs.set j v))) {s with heap:=s.heap.update p (Obj.mapSeq (·.setIfInBounds j u))} :=
  I.KO hp ho (wV ai n j u) (r.set rv j) (by grind) s.toks
 by_cases h0:0<=k
 ·have hk:k.toNat=j:=by
   rw[seqIndex_of h0 h4]at h1;exact bz h1
  exact W.ki_setAt ho h0 (by lia) (by grind) (by grind)
 ·have hk:(k+(ai.toArray.size:Int)).toNat=j:=by
   rw[seqIndex_neg (by lia) h3]at h1
   rw[bK,<-hl];exact bz h1
  exact W.ki_setBack ho (by lia) (by grind) (by lia) (by grind)
def rL(lo hi:Option Int)(n:Nat):(sliceBounds lo hi none n).1=((HT.cZ n 0 lo:Nat):Int)/\(sliceBounds lo hi none n).2.1=((HT.cZ n n hi:Nat):Int)/\(sliceBounds lo hi none n).2.2=1:=by
 refine⟨?_,?_,rfl⟩
 ·cases lo with
  | none=>simp[sliceBounds,HT.cZ]
  | some i =>
   simp only[sliceBounds,HT.cZ,wb,show 1>0 by decide,ee]
   by_cases h:i<0
   ·grind
   ·grind
 ·cases hi with
  | none=>simp[sliceBounds,HT.cZ]
  | some i =>
   simp only[sliceBounds,HT.cZ,wb,show 1>0 by decide,ee]
   by_cases h:i<0
   ·grind
   ·grind
def oG(ai:List Value)(lo hi:Option Int):slicePick ai.toArray lo hi none=((ai.drop (HT.cZ ai.length 0 lo)).take (HT.cZ ai.length ai.length hi-HT.cZ ai.length 0 lo)).toArray:=by
 obtain⟨h1,h2,h3⟩:=rL lo hi ai.toArray.size;unfold slicePick;rw[h1,h2,h3];simp only[sliceRange_one,pick_run,bK]<;>rfl
def Td(K:W.Frag):V->Option Int->Option Int->Hp->VK->Prop:=λx lo hi H Q=>∃a xs,x=.ref a/\rG K H a xs/\∀p,H p=none->Q (.ref p) (bS H p (.lst (t5 xs lo hi)))
def Gv:RI X (Td X.K):=by
 intro ae s σ H x v vl vu lo hi sl Q I rx hs pl pu h;obtain⟨a,xs,rfl,hx,q⟩:=h;cases rx;obtain⟨ai,r,ht,hz⟩:=I.list hx;have cS:=r.length;refine⟨"list",_,slot_list_getitem.lookup,ht.isList.typeIs,?_⟩;refine wpAny_getItem_list_slice ht.isList hs pl pu .none (by simp) ?_ (by grind)
 rw[oG,<-cS];refine⟨.ref s.heap.objs.size,_,I.laid (λb ob q=>ax _ q) (aq _) ?_,rfl,q _ (I.hok.fresh (aq _))⟩
 exact⟨aL (kZ xs lo hi) hz,_,0,(r.drop (HT.cZ xs.length 0 lo)).take (HT.cZ xs.length xs.length hi-HT.cZ xs.length 0 lo),aU _ rfl⟩
def jE:iG X (.builtin "len") (λxs H Q=>∃p ys,xs=[.ref p]/\(rG X.K H p ys\/ek X.K H p ys)/\Q (.int ys.length) H):=by
 intro ae s σ H xs us Q I r h;obtain⟨p,ys,rfl,hq,q⟩:=h;obtain⟨u,rfl,rx⟩:=gy r;cases rx;have hn:=iZ;rcases hq with hq | hq
 ·obtain⟨ai,r',pl,hz⟩:=I.list hq;have cS:=r'.length;exact Calls.call_len_list pl.isList (by grind) ⟨.int ys.length,H,I.tok _,⟨s.toks+1,by grind⟩,q⟩
 ·obtain⟨ai,r',pl,hz⟩:=I.tuple hq;have cS:=r'.length;exact len_tuple pl (by grind) ⟨.int ys.length,H,I.tok _,⟨s.toks+1,by grind⟩,q⟩
def rM:iG X (.builtin "len") (λxs H Q=>∃z,xs=[.str z]/\z.length<=sizeLine/\Q (.int z.length) H):=by
 intro ae s σ H xs us Q I r h;obtain⟨z,rfl,hz,q⟩:=h;obtain⟨u,rfl,t,rfl⟩:=gy r;have hn:=iZ;exact len_str (by lia) ⟨.int z.length,H,I.tok _,⟨_,rfl⟩,q⟩
def iH:iG X (.type "tuple") (λxs H Q=>∃p ys,xs=[.ref p]/\((rG X.K H p ys/\∀l,H l=none->Q (.ref l) (bS H l (.ak ys)))\/(ek X.K H p ys/\Q (.ref p) H))):=by
 intro ae s σ H xs us Q I r h;obtain⟨p,ys,rfl,h⟩:=h;obtain⟨u,rfl,rx⟩:=gy r;cases rx;rcases h with⟨hq,q⟩ | ⟨hq,q⟩
 ·obtain⟨ai,r',pl,hz⟩:=I.list hq;have cS:=r'.length;refine call_tuple_list pl.isList (λh' kp=>?_) (by grind)
  have I1:=I.kept (t':=s.toks) kp;have I2:Inv X ae σ (bS H h'.objs.size (.ak ys)) {s with heap:=h'.push {cls:=.type "tuple",data:=.seq ai.toArray}} :=
   I1.laid (λb o e=>ax _ e) (aq _) (⟨hz,ai,r',lx.new _ _⟩)
  exact⟨.ref h'.objs.size,_,I2,rfl,q _ (I1.hok.fresh (aq _))⟩
 ·obtain⟨ai,r',pl,hz⟩:=I.tuple hq;exact call_tuple_same pl ⟨.ref p,H,I,rfl,q⟩
def tyV(K:W.Frag)(T:String)(x:V)(H:Hp):Prop:=match x with
 | .str _=>T="str"
 | .int _=>T="int"
 | .ref p=>(T="list"/\∃xs,rG K H p xs)\/(T="tuple"/\∃o,K.lookup p=some o/\o.cls=.type "tuple"/\o.dict=none) \/
   (T="dict"/\((∃kvs,H p=some (.dK kvs))\/∃kvs,H p=some (.dT kvs)))\/(T="set"/\∃S n,H p=some (.set S n))
 | _=>False
def CI{ae:List (Addr×Obj)}{σ:St}{H:Hp}{s:Shared}{T:String}{x:V}{v:Value}(I:Inv X ae σ H s)(r:RelV x v)(ty:tyV X.K T x H) :
  s.TypeIs v T/\∀a,v=.ref a->∃ob,s.heap.get? a=some ob/\ob.dict=none:=by
 cases x with
 | str z =>
  obtain⟨t,rfl⟩:=r;cases(ty);exact⟨typeIs_str s z t,λ_ e=>nomatch e⟩
 | int i =>
  obtain⟨t,rfl⟩:=r;cases(ty);exact⟨mK s i t,λ_ e=>nomatch e⟩
 | ref p =>
  cases r;rcases ty with⟨rfl,xs,hq⟩ | ⟨rfl,o,hk,hc,hd⟩ | ⟨rfl,hk⟩ | ⟨rfl,S,n,hk⟩
  ·obtain⟨ai,_,pl,_⟩:=I.list hq;refine⟨pl.isList.typeIs,λa e=>?_⟩
   cases e;obtain⟨o,n,e,c,hd,_⟩:=pl;exact⟨o,e,hd⟩
  ·refine⟨⟨o,I.mO p o hk,hc⟩,λa e=>?_⟩
   cases e;exact⟨o,I.mO _ o hk,hd⟩
  ·have z:∃o,s.heap.get? p=some o/\o.ExactDict:=by
    rcases hk with⟨kvs,hk⟩ | ⟨kvs,hk⟩
    ·obtain⟨_,_,_,_,o,_,_,e,ex,_⟩:=I.hok p _ hk;exact⟨o,e,ex⟩
    ·obtain⟨_,_,o,_,_,e,ex,_⟩:=(I.hok p _ hk);exact⟨o,e,ex⟩
   obtain⟨o,e,ex⟩:=z;refine⟨⟨o,e,ex.1⟩,λa e2=>?_⟩
   cases e2;exact⟨o,e,ex.2.1⟩
  ·obtain⟨o,_,_,_,e,ex,_⟩:=I.hok p _ hk;refine⟨⟨o,e,ex.1⟩,λa e2=>?_⟩
   cases e2;exact⟨o,e,ex.2.1⟩
 | _=>exact False.elim ty
def OC(K:W.Frag)(T:String)(r:V->List V->Hp->VK->Prop)(to:TE):TE:=λσ H Q=>to σ H λx H1=>tyV K T x H1/\r x [] H1 Q
def VQ(K:W.Frag)(T:String)(r:V->List V->Hp->VK->Prop)(to:TE)(t:TA):TE:=λσ H Q=>to σ H λx H1=>tyV K T x H1/\t σ H1 λxs H2=>r x xs H2 Q
variable {o e:Expr} {es:List Expr} {to:TE} {t:TA} {name:Str} {ju fq:Pos} {T id:String} {r:V->List V->Hp->VK->Prop}
def CJ(pa:PlainAttrs T)(slot:Slot T name id)(Tf:typeOf (.builtin id)=pure (.type "method_descriptor"))(hm:KJ X id r)(ho:PE X o to)
  (fy:attributeBase o name X.env (eval o X.env)=eval o X.env:=by rfl) (er:(ju.endLine==fq.line)=true:=by rfl):PE X (.Call (.Attribute o name ju) [] [] fq) (OC X.K T r to):=by
 intro ae s σ H Q I h;refine wpAny_Call_method0_late fy er (thn (ho ae s σ H _ I h) λv s1 z9=>?_)
 obtain⟨x,H1,I1,r1,ty,q1⟩:=z9;obtain⟨h1,h2⟩:=CI I1 r1 ty;exact⟨T,id,pa,slot,Tf,h1,h2,Calls.callWith_builtin rfl (PySem.evalArgs_none (hm ae s1 σ H1 x [] v [] Q I1 r1 .nil q1))⟩
def m4(pa:PlainAttrs T)(slot:Slot T name id)(Tf:typeOf (.builtin id)=pure (.type "method_descriptor"))(hm:KJ X id r)(ho:PE X o to)(ha:PA X (e::es) t)
  (fy:attributeBase o name X.env (eval o X.env)=eval o X.env:=by rfl)
  (oH:((backTo fq (starEach (e::es) X.env)).all (λx=>!x.1)&&(backToKw fq (keywordEach [] X.env)).all (λx=>x.1.isSome)
   && decide ((e::es).length+([]:List Keyword).length+(if([]:List Keyword).isEmpty then 0 else 1)<30))=true:=by rfl)
  (er:(ju.endLine==fq.line)=true:=by rfl) (hs:starEach (e::es) X.env=(false,eval e X.env)::starEach es X.env:=by rfl) (Th:(backTo fq (starEach es X.env)).any (·.1)=false:=by rfl) :
  PE X (.Call (.Attribute o name ju) (e::es) [] fq) (VQ X.K T r to t):=by
 intro ae s σ H Q I h;refine wpAny_Call_method_late fy oH er rfl (thn (ho ae s σ H _ I h) λv s1 z9=>?_)
 obtain⟨x,H1,I1,r1,ty,q1⟩:=z9;obtain⟨h1,h2⟩:=CI I1 r1 ty;refine⟨T,id,pa,slot,Tf,h1,h2,?_⟩;have hA:=ha fq ae s1 σ H1 _ I1 q1;rw[hs]at hA ⊢;refine Calls.callWith_builtin (by grind) (Calls.evalArgs_plain ?_)
 exact thn hA (by rintro us s2 ⟨vs,H2,I2,r2,q2⟩;exact hm ae s2 σ H2 x vs v us Q I2 r1 r2 q2)
end
def RJ(X:Cx)(id:String)(r:V->List V->Hp->VK->Prop):Prop :=
 ∀(ae:List (Addr×Obj)) (s:Shared) (σ:St) (H:Hp) (x:V) (xs:List V) (v:Value) (us:List Value) (Q:VK),Inv X ae σ H s->RelV x v->Vals xs us->r x xs H Q ->
  wpAny (model X.prog X.w) X.A (call (.builtin id) (v::us)) (EP X ae σ Q) X.xe s
theorem Vals.one:∀{x:V} {us:List Value},Vals [x] us->∃u,us=[u]/\RelV x u
 | _,_,.cons r .nil=>⟨_,rfl,r⟩
def Vals.two{x y:V}{us:List Value}(h:Vals [x,y] us):∃u v,us=[u,v]/\RelV x u/\RelV y v:=by
 cases h with
 | cons r h=>cases h with
  | cons q h=>cases h;exact⟨_,_,rfl,r,q⟩
theorem Vals.zero:∀{us:List Value},Vals [] us->us=[]
 | _,.nil=>rfl
theorem Vals.eraseIdx:∀{xs:List V} {us:List Value} (i:Nat),Vals xs us->Vals (xs.eraseIdx i) (us.eraseIdx i)
 | _,_,_,.nil=>.nil
 | _,_,0,.cons _ t=>t
 | _,_,i+1,.cons r t=>.cons r (Vals.eraseIdx i t)
def Vals.reverse(h:Vals xs us):Vals xs.reverse us.reverse:=by
 induction h with
 | nil=>exact .nil
 | cons r t ih=>rw[qP,qP];exact Vals.append ih (.cons r .nil)
section
variable {X:Cx} {ae:List (Addr×Obj)} {σ:St} {H:Hp} {s:Shared} {l b:Addr} {xs ys zs:List V}
def Inv.Gw{ai ly:List Value}{n:Nat}{f:Array Value->Array Value}{t':Nat}(I:Inv X ae σ H s)(hH:H l=some (.lst xs))
  (e:s.heap.get? l=some {cls:=.type "list",data:=.seq ai.toArray n}) (hf:f ai.toArray=ly.toArray) (hv:Vals ys ly) (hz:ys.length<=sizeLine) :
  Inv X ae σ (bS H l (.lst ys)) {s with heap:=s.heap.update l (Obj.mapSeq f),toks:=t'}:=by
 have q:=PySem.IsL.update e f;rw[hf]at q;refine I.write (by rw[hH];exact trivial) (.inl rfl) (λb' u hb hu=>(gK s.heap (Obj.mapSeq f) (bA hb)).trans hu) ⟨_,q⟩ ?_
 exact⟨hz,ly,_,hv,q⟩
def Inv.KP(I:Inv X ae σ H s)(hv:Vals ys ai)(hz:ys.length<=sizeLine) :
  Inv X ae σ (bS H s.heap.objs.size (.lst ys)) {s with heap:=s.heap.push {cls:=.type "list",data:=.seq ai.toArray},toks:=t'} :=
 I.laid (λ_ _ q=>ax _ q) (aq _) ⟨hz,ai,0,hv,aU _ rfl⟩
def Inv.fresh(I:Inv X ae σ H s):H s.heap.objs.size=none:=I.hok.fresh (aq _)
def Inv.gV(I:Inv X ae σ H s)(hH:H l=some (.lst xs)):xs.length<=sizeLine/\∃(ai:List Value) (n:Nat),Vals xs ai/\xs.length=ai.length/\s.heap.get? l=some {cls:=.type "list",data:=.seq ai.toArray n}:=by
 obtain⟨z,ai,n,r,e⟩:=I.hok l _ hH;exact⟨z,ai,n,r,r.length,e⟩
def t6(h:n<=sizeLine):Builtin.List.listTooLong n=false:=by
 unfold Builtin.List.listTooLong;exact bf (by lia)
end
section
variable {X:Cx}
def yy:V->List V->Hp->VK->Prop:=λx vs H Q=>∃l xs y,x=.ref l/\vs=[y]/\H l=some (.lst xs)/\xs.length<sizeLine/\Q .aV (bS H l (.lst (xs++[y])))
def zX:RJ X "list.append" yy:=by
 intro ae s σ H x vs v us Q I rx rv h;obtain⟨l,xs,y,rfl,rfl,hH,hz,q⟩:=h;cases rx;obtain⟨u,rfl,ru⟩:=rv.one;obtain⟨z,ai,n,r,hl,e⟩:=I.gV hH;refine dh F.slot_list_append ⟨_,e,rfl⟩ F.entry_list_append (F.args_list_append_2 _ _) (PySem.list_append l ai.toArray n u (by grind)) ⟨e,?_⟩
 refine⟨.aV,_,I.Gw hH e (by simp) (r.append (.cons ru .nil)) ?_,rfl,q⟩
 rw[cG,List.length_singleton]
 lia
def t7:V->List V->Hp->VK->Prop:=λx vs H Q=>∃l xs,x=.ref l/\vs=[]/\H l=some (.lst xs)/\Q .aV (bS H l (.lst xs.reverse))
def wW:RJ X "list.reverse" t7:=by
 intro ae s σ H x vs v us Q I rx rv h;obtain⟨l,xs,rfl,rfl,hH,q⟩:=h;cases rx;have Ti:=rv.zero;subst Ti;obtain⟨z,ai,n,r,hl,e⟩:=I.gV hH;refine dh F.slot_list_reverse ⟨_,e,rfl⟩ F.entry_list_reverse (F.args_list_reverse_1 _) (AutoSeq1.list_reverse_list_0 l ai.toArray n (by grind)) ⟨e,?_⟩
 refine⟨.aV,_,I.Gw hH e (by simp) r.reverse ?_,rfl,q⟩
 rw[List.length_reverse]
 lia
end
end L2
namespace VR
open PySem PySem.W PySem.Calls PyProof.Rows
def lB:∀(ns:List Int) (vs:List Value),WellAll P h vs (ns.map WData.int)->IntsAre vs ns:=by
 intro ns;induction ns with
 | nil =>
  intro vs w;rw[bH]at w;cases w;exact .nil
 | cons n ns ih =>
  intro vs w;rw[aA]at w;cases w with
  | cons a b =>
   cases a;exact .cons _ _ (ih _ b)
def zY{l:OpenLaw}(hn:l.most=some n) 
  (Gy:l.row.toRowW.claim.pre args=true) (Tj:WellAll P h OD args) :
  ∃a vs ns,OD=[Value.ref a]/\args=[WData.list (ns.map WData.int)]/\h.get? a=some {cls:=.type "list",data:=.seq vs.toArray}/\IntsAre vs ns/\ns.length<=n:=by
 have Xs:=(pre_splitW Gy).1;have hc:l.pre.holds [] {args:=args}=true:=(pre_splitW Gy).2
 obtain⟨d,r,rfl,h1,h2⟩:=hasAllW_cons Xs;obtain rfl:=hasAllW_nil h2;obtain⟨xs,rfl,h3⟩:=hasW_list h1;obtain⟨ns,rfl⟩:=items_int h3;have cS:ns.length<=n:=by
  unfold OpenLaw.pre at hc;have h4:(WTm.not (.lt (.lit (.int n)) (.len (.arg 0)))).holds [] {args:=[.list (ns.map .int)]}=true:=by
   have h4:=(holds_andW hc).1;rw[hn]at h4;exact h4
  have h5:=condW_of h4 (w_not (w_lt w_lit (w_len_list (w_arg rfl))));rw[ah]at h5;refine v5 λq=>?_
  have q':n<(ns.length:Nat):=by lia
  first
   | (rw[aW q']at h5;exact absurd h5 (by decide))
   | (simp at h5;lia)
 cases Tj with
 | cons w1 w2 =>
  cases w2;cases w1 with
  | list ho t8=>exact⟨_,_,ns,rfl,rfl,ho,lB ns _ t8,cS⟩
def zZ(l:OpenLaw)(args:List WData):l.row.toRowW.claim.post args (.bool true) args=true :=
 postW_of
  (show WShape.has [] (.bool true) .bool=true by first | rfl | decide | simp[WShape.has,WShape.arms,WShape.armsAll])
  (w_eq_bool (w_res rfl) w_lit) rfl
def t9{l:OpenLaw}{n:Nat}{loose:List Str}{XP:(Str->Option Value)->Heap->Prop}{YP:World->Heap->Prop}{d:DefRec}
  (hn:l.most=some n) (Tn:d.params.defaults=[])
  (call:∀(w:World) (s₀ s₁:Shared) (mg mb:Str->Option Value) (fa:Addr) (o:Obj) (pm cd doc:Value) (a:Addr) (vs:List Value) (ns:List Int),
   Ground q loose [] XP w s₀ mg mb s₁.heap->YP w s₁.heap ->
   s₁.heap.get? fa=some o->o.data=.func (docDef d.name d.params d.body d.scope pm cd doc)->s₁.heap.CodeRec cd d.name->mg d.name=some (.ref fa) ->
   s₁.heap.get? a=some {cls:=.type "list",data:=.seq vs.toArray}->IntsAre vs ns->ns.length<=n->s₁.gens=#[] ->
   codeAny (model l.prog w) callerA (.call (.ref fa) ⟨[.ref a],[]⟩) (λr s'=>r=.ok (.ret (.bool true))/\OldK s₁.heap s'.heap/\s'.os=s₁.os/\AllBare s'.gens) s₁) :
  WalkO q loose XP YP l.row.toRowW d [] (λf vs=>PySem.call f vs):=by
 intro w s₀ s₁ mg mb G Y fa o pm cd doc dV kV ho hd Bx hD Bz hg args OD as Gy Xu Y2 Tj Y3;obtain rfl:dV=.none:=Dflts.none hD Tn;obtain rfl:kV=.none:=Dflts.noKw hD;obtain⟨a,vs,ns,rfl,rfl,CK,CL,cS⟩:=zY hn Gy Tj;refine enter_call (ku (call w s₀ s₁ mg mb fa o pm cd doc a vs ns G Y ho (fd_plain hd) Bx Bz CK CL cS hg) λr s' hq=>?_)
 obtain⟨rfl,h2,h3,h4⟩:=hq;exact⟨.inl ⟨.bool true,.bool true,[],rfl,λ_=>rfl,.bool true,zZ l _,λ_=>⟨List.Pairwise.nil,λ_ hm=>(nomatch hm)⟩⟩,h2,h3,h4⟩
end VR
namespace L2
open PySem PySem.Spec PyProof.Rows
theorem pE:∀{vs:List Value} {ns:List Int},IntsAre vs ns->Vals (ns.map V.int) vs
 | _,_,.nil=>.nil
 | _,_,.cons n t h=>.cons ⟨t,rfl⟩ (pE h)
def Aa{P:Program}{w:World}{K:W.Frag}{mg mb:Str->Option Value}{CX:BO}{k:Nat}{fa a:Addr}{fd:FuncData}{x:Str}{sp:Sp}{s₁:Shared}{vs:List Value}{ns:List Int}{tabs:List (Addr×Str)}
  (KX:K.In s₁.heap) (Gz:s₁.heap.Ns mainGlobals mg) (hb:s₁.heap.Ns builtinsNs mb) (RK:∀x:Str,x≠"__name__"->mb x=bootBuiltins x) (wX:s₁.heap.NoLimit) (hg:s₁.gens=#[])
  (hT:∀b q,tabs.lookup b=some q->s₁.heap.get? b=some {cls:=.none,data:=.fields #[]}/\isCodeTable s₁.heap b/\K.lookup b=none) (hTI:∀H:Hp,(∀b q,tabs.lookup b=some q->H b=some (.jn q))->mN K H)
  (ha:s₁.heap.get? a=some {cls:=.type "list",data:=.seq vs.toArray}) (hi:IntsAre vs ns) (hl:ns.length<=sizeLine) (hr:dw k callerA)
  (F:∀base:Heap,K.In base->base.Ns mainGlobals mg->FnOk P w K mg base CX k fa fd [x] sp) (OE:∀(s:Shared) (u:Value),BindsTo s fd ⟨[u],[]⟩ [(x,u)])
  (Nv:∀H:Hp,fJ K H a (ns.map V.int)->sp [.ref a] H (λv _=>v=.bl true) λ_ _ _=>False) (Xv:∀H e s',CX [] H s₁ (λ_ _ _=>False) e s'->False) :
  codeAny (model P w) callerA (.call (.ref fa) ⟨[.ref a],[]⟩) (λr s'=>r=.ok (.ret (.bool true))/\OldK s₁.heap s'.heap/\s'.os=s₁.os/\AllBare s'.gens) s₁:=by
 have rv:=pE hi;have jF:=hi.length
 let oa:Obj:={cls:=.type "list",data:=.seq vs.toArray}
 let H:Hp:=λb=>if b=a/\K.lookup a=none then some (.tx oa (.lst (ns.map V.int)))else(tabs.lookup b).map HO.jn
 have To:∀b,H b=if b=a/\K.lookup a=none then some (.tx oa (.lst (ns.map V.int)))else(tabs.lookup b).map HO.jn:=λ_=>rfl
 have Xw:∀b q,tabs.lookup b=some q->H b=some (.jn q):=λb q e=>by
  grind
 have hH:∀b u,H b=some u->(b=a/\K.lookup a=none/\u=.tx oa (.lst (ns.map V.int)))\/∃q,tabs.lookup b=some q/\u=.jn q:=λb u e=>by
  rw[To]at e;by_cases h:b=a/\K.lookup a=none
  ·grind
  ·rw[if_neg h]at e;cases z:tabs.lookup b with
   | none=>rw[z]at e;cases e
   | some q=>rw[z]at e;cases e;exact .inr ⟨q,rfl,rfl⟩
 have hS:fJ K H a (ns.map V.int):=by
  cases hk:K.lookup a with
  | some o =>
   have e:=KX a o hk;rw[ha]at e;cases e;exact .inr ⟨vs,_,hk,by grind,rv⟩
  | none=>exact .inl (.inr ⟨oa,by grind⟩)
 have hok:jq P w H s₁.heap:=λb u e=>by
  rcases hH b u e with⟨rfl,_,rfl⟩ | ⟨q,hq,rfl⟩
  ·exact⟨ha,by grind,vs,_,rv,ha⟩
  ·exact⟨#[],(hT b q hq).1,trivial,λpos cv z=>by cases z⟩
 have Xx:∀{b:Addr} {o:Obj} {es:Array DictEntry} {ep:Nat},s₁.heap.get? b=some o->o.data=.dict es ep->H b=none:=λ{b o es ep} e d=>by
  cases q:H b with
  | none=>rfl
  | some u =>
   rcases hH b u q with⟨rfl,_,_⟩ | ⟨t,ht,_⟩
   ·grind
   ·grind
 have RL:∀{b:Addr} {m:Str->Option Value},s₁.heap.Ns b m->(tO s₁.heap H).Ns b m:=λ{b m} ⟨o,es,ep,e,d,r⟩=>⟨o,es,ep,hidT_get e (Xx e d),d,r⟩
 have VS:K.In (tO s₁.heap H):=λb o e=>hidT_get (KX b o e) (by
  cases q:H b with
  | none=>rfl
  | some u =>
   rcases hH b u q with⟨rfl,z,_⟩ | ⟨t,ht,_⟩
   ·grind
   ·rw[(hT b t ht).2.2]at e;cases e)
 have hM:Mod K mg (tO s₁.heap H):=⟨VS,RL Gz,⟨mb,RL hb,RK⟩,let ⟨mc,h1,h2⟩:=wX;⟨mc,RL h1,h2⟩⟩
 have e0:Env0 P w K mg (tO s₁.heap H) callerA [] s₁ H:=⟨rfl,hM,λb o e=>of_hidT e,gR (zL _ _),trivial,λb hb=>absurd (show b∈([]:List Addr)from hb) (by simp),hok,.of_eq hg,hTI H Xw⟩
 refine ku ((F _ VS (RL Gz)).run callerA [] s₁ H ⟨[.ref a],[]⟩ [.ref a] [.ref a] _ _ hr e0 (OE s₁ (.ref a)) (.cons rfl .nil) (Nv H hS)) λr s' h=>?_
 cases r with
 | error e=>exact(Xv H e s' h).elim
 | ok fl =>
  cases fl with
  | next=>exact False.elim h
  | brk=>exact False.elim h
  | cont=>exact False.elim h
  | ret u =>
   obtain⟨v,H',os,bare,un,OF,r',q⟩:=h;have q':=q;subst q';obtain rfl:u=Value.bool true:=r';have Xy:∀b:Addr,b∉jw []:=λb z=>absurd (show b∈([]:List Addr)from z) (by simp)
   refine⟨rfl,⟨λb o e=>?_,λb o e=>un.there b o e (by simp)⟩,os,bare⟩
   cases q:H b with
   | none=>exact .inl (un.keep b o e q (Xy b) (by simp))
   | some u =>
    rcases hH b u q with⟨rfl,_,rfl⟩ | ⟨t,ht,rfl⟩
    ·obtain⟨e2,_⟩:=OF b _ (un.frzs b _ _ q);rw[ha]at e;cases e;exact .inl e2
    ·obtain⟨h1,h2,_⟩:=hT b t ht;obtain⟨ps,e2,_⟩:=(OF b _ (un.tbls b _ q));rw[h1]at e;cases e;exact .inr (.inl ⟨h2,rfl,#[],ps,rfl,by grind⟩)
abbrev E0:XK:=λ_ _ _=>False
def bQ(H H':Hp):Prop:=∀b o,H b=some o->H' b=some o
def bQ.refl(H:Hp):bQ H H:=λ_ _ h=>h
def bQ.trans(a:bQ H H1)(b:bQ H1 H2):bQ H H2:=λc o h=>b c o (a c o h)
def bQ.free(e:bQ H H')(h:H' l=Option.none):H l=Option.none:=by
 cases q:H l with
 | none=>rfl
 | some o =>
  rw[e l o q]at h;cases h
def bQ.seq{K:W.Frag}{H H':Hp}{a:Addr}{xs:List V}(e:bQ H H')(h:rG K H a xs):rG K H' a xs:=by
 rcases h with(h | ⟨o,h⟩) | h
 ·exact .inl (.inl (e _ _ h))
 ·exact .inl (.inr ⟨o,e _ _ h⟩)
 ·exact .inr h
section
variable {κ:Type} [DecidableEq κ]
def fu(kvs:List (κ×V))(k:κ):Option V:=(kvs.find? λkv=>decide (kv.1=k)).map (·.2)
def putK(kvs:List (κ×V))(k:κ)(v:V):List (κ×V) :=
 if(kvs.any λkv=>decide (kv.1=k))=true then kvs.map (λkv=>if kv.1=k then(kv.1,v)else kv)else kvs++[(k,v)]
def jG{p:κ×V}{r:List (κ×V)}{k:κ}(e:p.1=k):fu (p::r) k=some p.2:=by simp[fu,mF,e]
def jH{p:κ×V}{r:List (κ×V)}{k:κ}(e:¬p.1=k):fu (p::r) k=fu r k:=by simp[fu,mF,e]
theorem m5(k:κ):∀kvs:List (κ×V),(kvs.any λkv=>decide (kv.1=k))=(fu kvs k).isSome
 | []=>rfl
 | p::r=>by
  rw[ko];by_cases e:p.1=k
  ·simp only[jG e,aW e,Bool.true_or,Option.isSome_some]
  ·rw[jH e,bf e,Bool.false_or];exact m5 k r
def CM{kvs:List (κ×V)}{k:κ}(v:V)(h:fu kvs k=none):putK kvs k v=kvs++[(k,v)]:=by
 unfold putK;rw[m5,h];exact if_neg (by decide)
def rD.pF{o:Option V}{u:Option Value}(r:rD o u):o.isSome=u.isSome:=by
 cases o with
 | none=>cases u with
  | none=>rfl
  | some _=>exact(show False from r).elim
 | some _=>cases u with
  | none=>exact(show False from r).elim
  | some _=>rfl
def KV.val{kvs:List (κ×V)}{vs:List (κ×Value)}(r:KV kvs vs)(k:κ):rD (fu kvs k) (valueAt vs k):=by
 unfold KV at r;induction r with
 | nil=>exact True.intro
 | @cons p q ps qs h t ih =>
  obtain⟨h1,h2⟩:=h;by_cases e:p.1=k
  ·have e':q.1=k:=by grind
   have b:valueAt (q::qs) k=some q.2:=by simp[valueAt,mF,e']
   rw[jG e,b];exact h2
  ·have e':¬q.1=k:=by grind
   have b:valueAt (q::qs) k=valueAt qs k:=by simp[valueAt,mF,e']
   rw[jH e,b];exact ih
def KV.any{kvs:List (κ×V)}{vs:List (κ×Value)}(r:KV kvs vs)(k:κ):(kvs.any λkv=>decide (kv.1=k))=vs.any λkv=>decide (kv.1=k):=by
 unfold KV at r;induction r with
 | nil=>rfl
 | cons h t ih=>rw[ko,ko,ih,h.1]
def KV.Tp{kvs:List (κ×V)}{vs:List (κ×Value)}(r:KV kvs vs)(k:κ){y:V}{u:Value}(ry:RelV y u) :
  KV (kvs.map λkv=>if kv.1=k then(kv.1,y)else kv) (vs.map λkv=>if kv.1=k then(kv.1,u)else kv):=by
 unfold KV at r ⊢;induction r with
 | nil=>exact .nil
 | @cons p q ps qs h t ih =>
  rw[aA,aA];refine .cons ?_ ih;obtain⟨h1,h2⟩:=h;by_cases e:p.1=k
  ·grind
  ·grind
def KV.put{kvs:List (κ×V)}{vs:List (κ×Value)}(r:KV kvs vs)(k:κ){y:V}{u:Value}(ry:RelV y u):KV (putK kvs k y) (stored vs k u):=by
 unfold putK stored;rw[r.any k];by_cases e:(vs.any λkv=>decide (kv.1=k))=true
 ·rw[if_pos e,if_pos e];exact r.Tp k ry
 ·rw[if_neg e,if_neg e];exact Paired.snoc r ⟨rfl,ry⟩
theorem KV.length{kvs:List (κ×V)}{vs:List (κ×Value)}(r:KV kvs vs):kvs.length=vs.length:=gQ r
end
def k6{P:Program}{w:World}{k:b8}{u:Value}(r:RelV (kV k) u):(bg P w).is k u=true:=by
 cases k with
 | inl i=>obtain⟨t,e⟩:=(show ∃t,u=Value.int i t from r);subst e;exact tK P w i t
 | inr x=>obtain⟨t,e⟩:=(show ∃t,u=Value.str x t from r);subst e;exact tM P w x t
theorem pH{P:Program}{w:World}:∀{ks:List b8} {us:List Value},Vals (ks.map kV) us->ItemsAre (bg P w) ks us
 | [],_,r=>by rw[bH]at r;cases r;exact .nil
 | k::ks,_,r=>by
  rw[aA]at r;cases r with
  | cons h t=>exact .cons (k6 h) (pH t)
section
variable {P:Program} {w:World} {H:Hp} {h:Heap} {a:Addr}
def IZ{u:HO}(ok:jq P w H h)(e:Rd H a u):dS P w H h a u:=e.ok ok
def yz{kvs:List (b8×V)}(ok:jq P w H h)(e:Rd H a (.dK kvs)):kvs.length<=sizeLine/\(a==sysModules)=false/\∃vs,KV kvs vs/\h.DictOf (bg P w) a vs :=
 show dS P w H h a (.dK kvs)from IZ ok e
def CN{kvs:List (b8×V)}(ok:jq P w H h)(e:H a=some (.dK kvs)):kvs.length<=sizeLine/\(a==sysModules)=false/\∃vs,KV kvs vs/\h.DictOf (bg P w) a vs:=yz ok (.inl e)
end
section
variable {X:Cx} {ae:List (Addr×Obj)} {σ:St} {H:Hp} {s:Shared} {a b:Addr} {k:List b8} {v:V} {r:Value} {A:Around} {E:Value->Shared->Prop} {xs:List (List b8×Addr×Value)}
def key_is(I:Inv X ae σ H s)(e:ek X.K H a (k.map kV)):(tupleKind (bg X.prog X.w)).is s.heap k a:=by
 obtain⟨ai,r,⟨o,h1,h2,n,h3⟩,_⟩:=I.tuple e;exact⟨o,ai.toArray,n,h1,h2,h3,by simpa using pH r⟩
def pK(I:Inv X ae σ H s)(e:Rd H a (.dT xs))(hk:dM X.K H xs):xs.length<=sizeLine/\(a==sysModules)=false/\s.heap.DictOfH (tupleKind (bg X.prog X.w)) a xs:=by
 obtain⟨z,y,o,es,ep,h1,h2,h3,h4,h5⟩:=(show dS X.prog X.w H s.heap a (.dT xs)from IZ I.hok e)
 exact⟨z,y,o,es,ep,h1,h2,h3,h4,λx hx=>key_is I (hk x hx),h5⟩
def OG{Q:Value->Shared->Prop}(hu:A.units+1<cLine)(I:Inv X ae σ H s)(e:Rd H a (.dT xs))(hk:dM X.K H xs)(eb:ek X.K H b (k.map kV))(h:∀s',Inv X ae σ H s'->Q (.bool (atKey xs k).isSome) s') :
  wpAny (model X.prog X.w) A (compareOp .In (.ref b) (.ref a)) Q E s:=by
 obtain⟨_,hd,dd⟩:=pK I e hk;exact wpAny_in_heap (mr hu) (key_is I eb) hd dd (h _ (I.tok _))
def OH{Q:Value->Shared->Prop}(hu:A.units+1<cLine)(I:Inv X ae σ H s)(e:Rd H a (.dT xs))(hk:dM X.K H xs)(eb:ek X.K H b (k.map kV)) (h:∀s',Inv X ae σ H s'->Q (.bool (!(atKey xs k).isSome)) s') :
  wpAny (model X.prog X.w) A (compareOp .NotIn (.ref b) (.ref a)) Q E s:=by
 obtain⟨_,hd,dd⟩:=pK I e hk;exact wpAny_notIn_heap (mr hu) (key_is I eb) hd dd (h _ (I.tok _))
def OI{Q:Value->Shared->Prop}{p:Addr×Value}(hu:A.units+1<cLine)(I:Inv X ae σ H s)(e:Rd H a (.dT xs))(hk:dM X.K H xs)(eb:ek X.K H b (k.map kV))(hp:atKey xs k=some p)(h:∀s',Inv X ae σ H s'->Q p.2 s') :
  wpAny (model X.prog X.w) A (getItem (.ref a) (.ref b)) Q E s:=by
 obtain⟨_,hd,dd⟩:=pK I e hk;exact wpAny_getItem_heap (mr hu) (key_is I eb) dd hp (h _ (I.tok _))
def wY{κ:Type} [DecidableEq κ] (xs:List (κ×Addr×Value)) (k:κ) (a:Addr) (v:Value):(storedH xs k a v).length<=xs.length+1:=by
 unfold storedH;split
 ·grind
 ·grind
def KQ{Q:Unit->Shared->Prop}(hu:A.units+1<cLine)(I:Inv X ae σ H s)(e:H a=some (.dT xs))(hk:dM X.K H xs)(eb:ek X.K H b (k.map kV))(hl:xs.length<sizeLine)
  (h:∀s',Inv X ae σ (bS H a (.dT (storedH xs k b r))) s'->Q () s'):wpAny (model X.prog X.w) A (setItem (.ref a) (.ref b) r) Q E s:=by
 obtain⟨_,hd,dd⟩:=pK I (.inl e) hk;refine wpAny_setItem_heap (hsz:=rm hl) (mr hu) (key_is I eb) dd λh' KR hs=>h _ ?_
 obtain⟨q,es,ep,hq,h2,h3,h4,_,h5⟩:=KR;exact I.write (x:=a) (e:=a) (by rw[e];exact True.intro) (.inl rfl) (λc q' hc z=>(hs.2 c hc).trans z) ⟨q,hq⟩ ⟨(by have:=wY xs k b r;lia),hd,q,es,ep,hq,h2,h3,h4,h5⟩
def gW(I:Inv X ae σ H s):sysModules<s.heap.objs.size:=gf (by decide) (show mainGlobals<s.heap.objs.size from(I.mod.glob.keeps I.bk).lt)
def I0(o:HO):TE:=λ_ H Q=>∀p,H p=none->Q (.ref p) (bS H p o)
def GA{pos:Pos}:PE X (.Dict [] [] pos) (I0 (.dT [])):=λae s σ H Q I h =>
 wpAny_Dict_empty ⟨.ref s.heap.objs.size,_,I.laid (a:=s.heap.objs.size) (o:=.dT []) (t':=s.toks) (λ_ _ q=>ax _ q) (aq _)
  ⟨eN _,gM.mpr (bA (aJ (gW I))),_,#[],0,aU _ rfl,⟨rfl,rfl,rfl⟩,rfl,rfl,rg⟩,rfl,h _ (I.hok.fresh (aq _))⟩
def Ab{κ:Type} [DecidableEq κ] (xs:List (κ×Addr×Value)) (k:κ):(atKey xs k).isSome=(xs.map (·.1)).any λj=>decide (j=k):=by
 unfold atKey;rw[Option.isSome_map,List.any_map,List.isSome_find?];rfl
end
def CO(mg:Str->Option Value)(base:Heap):Prop:=∃bm o,mg "__builtins__"=some (.ref bm)/\bm≠builtinsNs/\bm≠mainGlobals/\base.get? bm=some o/\o.cls=.type "module"/\o.dict=some builtinsNs/\o.data=.plain
end L2
namespace L2.U
open PySem PySem.Spec PyProof.Rows
def nw{α:Sort u}(a:α):∃x,x=a:=⟨_,rfl⟩
abbrev PV.lst (ps:List PV):PV:=.nd .lst ps
structure Gr (F F':Fz):Prop where
 s:bQ F.F F'.F
 m:∀(n:Nat) (a:Addr),F.μ[n]?=some a->F'.μ[n]?=some a
def Gr.refl(F:Fz):Gr F F:=⟨bQ.refl _,λ_ _ h=>h⟩
def Gr.trans(a:Gr F F1)(b:Gr F1 F2):Gr F F2:=⟨a.s.trans b.s,λn c h=>b.m n c (a.m n c h)⟩
def aO{K:W.Frag}(e:bQ H H')(h:ek K H a xs):ek K H' a xs:=by
 rcases h with(h | ⟨o,h⟩) | h
 ·exact .inl (.inl (e _ _ h))
 ·exact .inl (.inr ⟨o,e _ _ h⟩)
 ·exact .inr h
def GB(e:bQ H H')(h:Rd H a u):Rd H' a u:=h.imp (e _ _) (by rintro⟨o,q⟩;exact⟨o,e _ _ q⟩)
def fM{K:W.Frag}(e:bQ H H')(h:fJ K H a xs):fJ K H' a xs:=h.imp (GB e) id
def _root_.L2.fJ.of{K:W.Frag}(h:H a=some (.lst xs)):fJ K H a xs:=.inl (.inl h)
section
variable {K:W.Frag} {F F':Fz}
def iY.to(h:iY K G H a x k vs)(g:bQ G G')(e:∀o,H a=some o->H' a=some o)(hy:y=true->x=true):iY K G' H' a y k vs:=by
 have keys:∀{xs:List (List b8×Addr×Value)},dM K G xs->dM K G' xs:=λhk z hz=>aO g (hk z hz)
 match k,h with
 | .ak,⟨h1,h2⟩ =>
  refine⟨?_,?_⟩
  ·grind
  ·rcases h2 with(h2 | ⟨o,h2⟩) | h2
   ·exact .inl (.inl (e _ h2))
   ·exact .inl (.inr ⟨o,e _ h2⟩)
   ·exact .inr h2
 | .lst,h =>
  cases y with
  | true=>rw[hy rfl]at h;exact e _ h
  | false =>
   cases x with
   | true=>exact fJ.of (e _ h)
   | false =>
    rcases(h)with(h | ⟨o,h⟩) | h
    ·exact .inl (.inl (e _ h))
    ·exact .inl (.inr ⟨o,e _ h⟩)
    ·exact .inr h
 | .ins C ns,⟨Ca,dx,fs,h1,h2,h3,h4,h5⟩=>exact⟨Ca,dx,fs,h1,h2,h3,e _ h4,h5⟩
 | .dZ false ks,⟨kvs,h1,h2⟩=>exact⟨kvs,e _ h1,h2⟩
 | .dZ true ks,⟨xs,h1,h2,h3⟩=>exact⟨xs,e _ h1,keys h2,h3⟩
mutual
theorem aS.mono(e:Gr F F'):∀{p:PV} {v:V},aS K F p v->aS K F' p v
 | .aV,_,h=>by simpa only[aS]using h
 | .bl _,_,h=>by simpa only[aS]using h
 | .int _,_,h=>by simpa only[aS]using h
 | .str _,_,h=>by simpa only[aS]using h
 | .fn _,_,h=>by simpa only[aS]using h
 | .ref n,_,h=>by
  simp only[aS]at h ⊢;obtain⟨a,h1,h2⟩:=h;exact⟨a,e.m _ _ h1,h2⟩
 | .nd k ps,_,h=>by
  simp only[aS]at h ⊢;obtain⟨a,vs,h1,h2,h3⟩:=h;exact⟨a,vs,h1,h2.to e.s (λo q=>e.s _ _ q) id,ao.mono e h3⟩
theorem ao.mono(e:Gr F F'):∀{ps:List PV} {vs:List V},ao K F ps vs->ao K F' ps vs
 | [],_,h=>by simpa only[ao]using h
 | _::_,_,h=>by
  simp only[ao]at h ⊢;obtain⟨v,r,h1,h2,h3⟩:=h;exact⟨v,r,h1,h2.mono e,ao.mono e h3⟩
end
def ao.bh(h:ao K F (p::ps) vs):∃v r,vs=v::r/\aS K F p v/\ao K F ps r:=by
 simpa only[ao]using h
def ao.bC(h:ao K F [] vs):vs=[]:=by simpa only[ao]using h
theorem m6:∀{ps:List PV} {vs:List V},ao K F ps vs↔Paired (aS K F) ps vs
 | [],vs=>⟨λh=>by rw[h.bC];exact .nil,λh=>by cases h;exact .nil⟩
 | p::ps,vs=>⟨λh=>by obtain⟨v,r,rfl,h1,h2⟩:=h.bh;exact .cons h1 (m6.mp h2),λh=>by cases h with | cons h1 h2=>exact .cons h1 (m6.mpr h2)⟩
def ao.length(h:ao K F ps vs):ps.length=vs.length:=gQ (m6.mp h)
theorem ao.append:∀{ps qs:List PV} {vs ws:List V},ao K F ps vs->ao K F qs ws->ao K F (ps++qs) (vs++ws)
 | [],_,_,_,h,t=>by rw[h.bC];exact t
 | _::_,_,_,_,h,t=>by
  obtain⟨v,r,rfl,h1,h2⟩:=h.bh;exact .cons h1 (h2.append t)
theorem ao.get:∀{ps:List PV} {vs:List V} {i:Nat} {p:PV},ao K F ps vs->ps[i]?=some p->∃v,vs[i]?=some v/\aS K F p v
 | [],_,_,_,_,e=>by cases e
 | _::_,_,0,_,h,e=>by
  obtain⟨v,r,rfl,h1,_⟩:=h.bh;cases e;exact⟨v,rfl,h1⟩
 | _::_,_,_+1,_,h,e=>by
  obtain⟨v,r,rfl,_,h2⟩:=h.bh;exact h2.get e
theorem ao.take:∀{ps:List PV} {vs:List V} (n:Nat),ao K F ps vs->ao K F (ps.take n) (vs.take n)
 | _,_,0,_=>by simp only[List.take_zero];exact .nil
 | [],_,_+1,h=>by rw[h.bC];simp only[List.take_nil];exact .nil
 | _::_,_,n+1,h=>by
  obtain⟨v,r,rfl,h1,h2⟩:=h.bh;exact .cons h1 (h2.take n)
theorem ao.drop:∀{ps:List PV} {vs:List V} (n:Nat),ao K F ps vs->ao K F (ps.drop n) (vs.drop n)
 | _,_,0,h=>h
 | [],_,_+1,h=>by rw[h.bC];simp only[List.drop_nil];exact .nil
 | _::_,_,n+1,h=>by
  obtain⟨v,r,rfl,_,h2⟩:=h.bh;exact h2.drop n
theorem ao.set(r:aS K F p v):∀{ps:List PV} {vs:List V} (i:Nat),ao K F ps vs->ao K F (ps.set i p) (vs.set i v)
 | [],_,_,h=>by rw[h.bC];exact .nil
 | _::_,_,0,h=>by
  obtain⟨v,r',rfl,_,h2⟩:=h.bh;exact .cons r h2
 | _::_,_,i+1,h=>by
  obtain⟨v,r',rfl,h1,h2⟩:=h.bh;exact .cons h1 (h2.set r i)
theorem ao.reverse:∀{ps:List PV} {vs:List V},ao K F ps vs->ao K F ps.reverse vs.reverse
 | [],_,h=>by rw[h.bC];exact .nil
 | _::_,_,h=>by
  obtain⟨v,r,rfl,h1,h2⟩:=h.bh;rw[qP,qP];exact h2.reverse.append (.cons h1 .nil)
def cU:aS K F (.ref n) v↔∃a,F.μ[n]?=some a/\v=.ref a:=by simp only[aS]
def kD:aS K F (.fn x) v↔∃a,v=.ref a/\W.nsIn K mainGlobals x=some (some (.ref a)):=by simp only[aS]
def cg:aS K F (.lst ps) v↔∃a vs,v=.ref a/\fJ K F.F a vs/\ao K F ps vs:=gh
end
structure aj where
 k:Kd
 ps:List PV
structure bN where
 ρ:List (Option PV)
 h:List aj
def live(c:aj):Bool:=match c.k with | .ak=>false | _=>true
structure i3 (K:W.Frag) (aa:Hp) (ab F:Fz) (h:List aj) (H:Hp):Prop where
 sub:bQ F.F H
 keep:bQ aa H
 base:Gr ab F
 fresh:∀a o,F.F a=some o->ab.F a=some o\/aa a=none
 new:∀(n:Nat) (a:Addr),F.μ[n]?=some a->aa a=none/\∃o,H a=some o
 hl:h.length=F.μ.length
 nd:F.μ.Nodup
 cell:∀(n:Nat) (c:aj) (a:Addr),h[n]?=some c->F.μ[n]?=some a->live c=true->F.F a=none/\∃vs,iY K F.F H a true c.k vs/\ao K F c.ps vs
structure Lc (K:W.Frag) (F:Fz) (ρ:List (Option PV)) (σ:St):Prop where
 av:∀(i:Nat) (p:PV),ρ[i]?=some (some p)->∃v,σ[i]?=some (some v)/\aS K F p v
 len:ρ.length=σ.length
structure Rep (K:W.Frag) (aa:Hp) (ab F:Fz) (st:bN) (σ:St) (H:Hp):Prop where
 c:i3 K aa ab F st.h H
 l:Lc K F st.ρ σ
def c7(h:H p=none):bQ H (bS H p o):=λb u q=>by rw[aF (cf q h)];exact q
section
variable {K:W.Frag} {aa H H':Hp} {ab F F':Fz} {h:List aj} {st:bN} {σ:St}
def Lc.mono(L:Lc K F ρ σ)(e:Gr F F'):Lc K F' ρ σ:=⟨λi p z=>let ⟨v,h1,h2⟩:=L.av i p z;⟨v,h1,h2.mono e⟩,L.len⟩
def i3.after(R:i3 K aa ab F h H)(e:bQ H H')(f:bQ F.F F'.F)(m:F'.μ=F.μ)(s:bQ F'.F H')(n:∀a o,F'.F a=some o->F.F a=some o\/H a=none):i3 K aa ab F' h H' where
 sub:=s
 keep:=R.keep.trans e
 base:=R.base.trans ⟨f,λ_ _ q=>by rw[m];exact q⟩
 fresh:=λa o q=>by
  rcases n a o q with z | z
  ·exact R.fresh a o z
  ·exact .inr (R.keep.free z)
 new:=λn a q=>by rw[m]at q;obtain⟨h1,o,h2⟩:=R.new n a q;exact⟨h1,o,e _ _ h2⟩
 hl:=by rw[m];exact R.hl
 nd:=by rw[m];exact R.nd
 cell:=λi c a hc ha hk=>by
  rw[m]at ha;obtain⟨h1,vs,h2,h3⟩:=R.cell i c a hc ha hk;refine⟨?_,vs,h2.to f (λo q=>e _ _ q) id,h3.mono ⟨f,λ_ _ q=>by rw[m];exact q⟩⟩
  obtain⟨_,o,ho⟩:=R.new i a ha;cases q:F'.F a with
  | none=>rfl
  | some u =>
   rcases n a u q with z | z
   ·rw[h1]at z;cases z
   ·rw[ho]at z;cases z
def Rep.after(R:Rep K aa ab F st σ H)(e:bQ H H')(f:bQ F.F F'.F)(m:F'.μ=F.μ)(s:bQ F'.F H')(n:∀a o,F'.F a=some o->F.F a=some o\/H a=none):Rep K aa ab F' st σ H' :=
 ⟨R.c.after e f m s n,R.l.mono ⟨f,λ_ _ q=>by grind⟩⟩
def Rep.sub(R:Rep K aa ab F st σ H):bQ F.F H:=R.c.sub
def Rep.laid(R:Rep K aa ab F st σ H)(o:HO)(hp:H p=none):Rep K aa ab ⟨bS F.F p o,F.μ⟩ st σ (bS H p o)/\Gr F ⟨bS F.F p o,F.μ⟩:=by
 have fp:=R.sub.free hp;refine⟨R.after (c7 hp) (c7 fp) rfl (λb u q=>?_) (λb u q=>?_),c7 fp,λ_ _ q=>q⟩
 ·by_cases hb:b=p
  ·subst hb;rw[show(Fz.mk (bS F.F b o) F.μ).F b=bS F.F b o b from rfl,ar]at q;rw[ar];exact q
  ·rw[show(Fz.mk (bS F.F p o) F.μ).F b=bS F.F p o b from rfl,aF hb]at q;rw[aF hb];exact R.sub _ _ q
 ·by_cases hb:b=p
  ·grind
  ·rw[show(Fz.mk (bS F.F p o) F.μ).F b=bS F.F p o b from rfl,aF hb]at q;exact .inl q
def i3.alloc(R:i3 K aa ab F h H)(hp:H p=none)(hn:iY K F.F (bS H p o) p true c.k vs)(hb:ao K F c.ps vs) :
  i3 K aa ab ⟨F.F,F.μ++[p]⟩ (h++[c]) (bS H p o)/\Gr F ⟨F.F,F.μ++[p]⟩/\(F.μ++[p])[h.length]?=some p:=by
 have g:Gr F ⟨F.F,F.μ++[p]⟩:=⟨bQ.refl _,λn a q=>by
  grind⟩
 have VT:∀n a,(F.μ++[p])[n]?=some a->F.μ[n]?=some a\/n=F.μ.length/\a=p:=λn a q=>by
  grind
 have no:∀n a,F.μ[n]?=some a->a≠p:=λn a q z=>by
  subst z;obtain⟨_,o,ho⟩:=R.new n a q;rw[hp]at ho;cases ho
 refine⟨⟨λb u q=>by rw[aF (cf (R.sub _ _ q) hp)];exact R.sub _ _ q,R.keep.trans (c7 hp),R.base.trans g,R.fresh,λn a q=>?_,by simp[R.hl],?_,λn d a hd ha hk=>?_⟩,g,by rw[R.hl];simp⟩
 ·rcases VT n a q with z | ⟨_,rfl⟩
  ·obtain⟨h1,u,h2⟩:=R.new n a z;exact⟨h1,u,c7 hp _ _ h2⟩
  ·exact⟨R.keep.free hp,o,ar⟩
 ·rw[vY];refine⟨R.nd,by simp,λa ha b hb z=>?_⟩
  obtain⟨n,hn⟩:=qL.mp ha;rw[b6]at hb;exact no n a hn (z.trans hb)
 ·rcases VT n a ha with z | ⟨rfl,rfl⟩
  ·rw[ma (by rw[R.hl];exact(cw.mp z).1)]at hd
   obtain⟨h1,ws,h2,h3⟩:=R.cell n d a hd z hk;exact⟨h1,ws,h2.to (bQ.refl _) (λu q=>c7 hp _ _ q) id,h3.mono g⟩
  ·rw[<-R.hl,BK (aq _),Nat.sub_self]at hd;cases hd;exact⟨R.sub.free hp,vs,hn,hb.mono g⟩
def i3.write(R:i3 K aa ab F h H)(hc:h[n]?=some c)(hl:live c=true)(ha:F.μ[n]?=some a)(hn:iY K F.F (bS H a o) a true d.k vs)(hb:ao K F d.ps vs) :
  i3 K aa ab F (h.set n d) (bS H a o):=by
 obtain⟨hF,_⟩:=R.cell n c a hc ha hl;refine⟨λb u q=>by rw[aF (λz=>by grind)];exact R.sub _ _ q,λb u q=>?_,R.base,R.fresh,λm b q=>?_,by rw[qW];exact R.hl,R.nd,λm e b he ir hk=>?_⟩
 ·rw[aF (λz=>by subst z;rw[(R.new n b ha).1]at q;cases q)];exact R.keep _ _ q
 ·obtain⟨h1,u,h2⟩:=R.new m b q;refine⟨h1,?_⟩;by_cases hb:b=a
  ·subst hb;exact⟨o,ar⟩
  ·exact⟨u,by rw[aF hb];exact h2⟩
 ·by_cases hm:n=m
  ·grind
  ·rw[iK hm]at he;obtain⟨h1,ws,h2,h3⟩:=R.cell m e b he ir hk;have ne:b≠a:=λz=>by
    subst z;obtain⟨l1,e1⟩:=cw.mp ir;obtain⟨l2,e2⟩:=cw.mp ha;exact hm ((List.getElem_inj R.nd).mp (e2.trans e1.symm))
   exact⟨h1,ws,h2.to (bQ.refl _) (λu q=>by rw[aF ne];exact q) id,h3⟩
end
def _root_.L2.PE.imp(h:PE X e t)(hi:∀σ H Q,t' σ H Q->t σ H Q):PE X e t':=λae s σ H Q I hw=>h ae s σ H Q I (hi _ _ _ hw)
def _root_.L2.PT.imp(h:PT X e t)(hi:∀σ H Q,t' σ H Q->t σ H Q):PT X e t':=λae s σ H Q I hw=>h ae s σ H Q I (hi _ _ _ hw)
def _root_.L2.PW.imp(h:PW X e t)(hi:∀σ H Q,t' σ H Q->t σ H Q):PW X e t':=λw ae s σ H Q I hw=>h w ae s σ H Q I (hi _ _ _ hw)
def _root_.L2.PA.imp(h:PA X e t)(hi:∀σ H Q,t' σ H Q->t σ H Q):PA X e t':=λpos ae s σ H Q I hw=>h pos ae s σ H Q I (hi _ _ _ hw)
def _root_.L2.PS.imp{st:Stmt}(h:PS X st t)(hi:∀D σ H,t' D σ H->t D σ H):PS X st t':=λae s σ H D I hw=>h ae s σ H D I (hi _ _ _ hw)
def _root_.L2.PSs.imp{st:List Stmt}(h:PSs X st t)(hi:∀D σ H,t' D σ H->t D σ H):PSs X st t':=λae s σ H D I hw=>h ae s σ H D I (hi _ _ _ hw)
def _root_.L2.PG.imp(h:PG X e t)(hi:∀v σ H Q,t' v σ H Q->t v σ H Q):PG X e t':=λae s σ H v u Q I r hw=>h ae s σ H v u Q I r (hi _ _ _ _ hw)
def _root_.L2.PGs.imp(h:PGs X e t)(hi:∀v σ H Q,t' v σ H Q->t v σ H Q):PGs X e t':=λae s σ H v u Q I r hw=>h ae s σ H v u Q I r (hi _ _ _ _ hw)
def _root_.L2.PI.imp(h:PI X tg e t)(hi:∀σ H Q,t' σ H Q->t σ H Q):PI X tg e t':=λae s σ H R I hw=>h ae s σ H R I (hi _ _ _ hw)
inductive Rs (α:Type) where
 | ok (a:α) | ex (m:Bool) (C:Str)
abbrev Gx(α:Type):=bN->Option (Rs α×bN)
def OJ{α β:Type}(k:α->Gx β):Rs α×bN->Option (Rs β×bN)
 | (.ok a,st)=>k a st
 | (.ex m C,st)=>some (.ex m C,st)
def bnd{α β:Type}(f:Gx α)(k:α->Gx β):Gx β:=λst=>(f st).bind (OJ k)
def bP{α:Type}(a:α):Gx α:=λst=>some (.ok a,st)
def hp{α:Type}(g:List aj->Option α):Gx α:=λst=>(g st.h).map λa=>(.ok a,st)
def ez{α:Type}(o:Option α):Gx α:=λst=>o.map λa=>(.ok a,st)
def Dm(H H':Hp):Prop:=∀b o,H b=some o->∃o',H' b=some o'
def js(P:Program)(w:World):BO:=λaB H s E e s'=>∃a cls a0 B H',e=.ref a/\s'.os=s.os/\AllBare s'.gens/\Un (jw aB) [] H H' s.heap s'.heap/\jq P w H' s'.heap/\Dm H H'/\E cls none H' /\
 Heap.FlyingW B aB a cls a0 s'.heap/\(∀b o,H' b=some o->∃ob,B.get? b=some ob)/\∀b ob,s.heap.get? b=some ob->H b=none->b∉jw aB->B.get? b=some ob
def CP:wO (js P w) X E0:=(by rintro _ _ _ _ _ _ _ ⟨_,_,_,_,_,_,_,_,_,_,_,h,_⟩;exact h.elim)
def CQ(X:Cx)(aa:Hp)(ab F:Fz)(C:Str)(st:bN):Bool->Prop
 | true=>∀F' bc H' ae s h1 a cls vs,Rep X.K aa ab F' st bc H'->Gr F F'->Inv X ae bc H' s->ClsAt X.K C cls->Heap.MadeExcOf s.heap h1 a cls vs->X.xe (.ref a) {s with heap:=h1}
 | false=>∀bc ae H1 s1 e s',Inv X ae bc H1 s1->js X.prog X.w X.stack H1 s1 (λcls _ H2=>ClsAt X.K C cls/\∃F',Rep X.K aa ab F' st bc H2/\Gr F F') e s'->X.xe e s'
section
variable {X:Cx} {aa H:Hp} {ab F F1:Fz} {st aH:bN} {σ:St} {α β γ δ:Type}
def CQ.mono(h:CQ X aa ab F C st m)(s:Gr F F1):CQ X aa ab F1 C st m:=by
 cases m with
 | true=>exact λF' bc H' ae s1 h1 a cls vs R z=>h F' bc H' ae s1 h1 a cls vs R (s.trans z)
 | false =>
  rintro bc ae H1 s1 e s' I ⟨a,cls,a0,B,H',h1,h2,h3,h4,h5,h6,⟨c,F',R,z⟩,h8⟩
  exact h bc ae H1 s1 e s' I ⟨a,cls,a0,B,H',h1,h2,h3,h4,h5,h6,⟨c,F',R,s.trans z⟩,h8⟩
def CS(X:Cx)(aa:Hp)(ab F:Fz)(P:α->bN->Prop):Rs α×bN->Prop
 | (.ok a,st)=>P a st
 | (.ex m C,st)=>CQ X aa ab F C st m
def At(X:Cx)(aa:Hp)(ab F:Fz)(st:bN)(f:Gx α)(P:α->bN->Prop):Prop:=∃r,f st=some r/\CS X aa ab F P r
def CS.imp(h:CS X aa ab F P r)(g:Gr F F1)(i:∀a bB,P a bB->P' a bB):CS X aa ab F1 P' r:=by
 match r,h with
 | (.ok a,st),h=>exact i a st h
 | (.ex m C,st),h=>exact CQ.mono h g
def At.imp(h:At X aa ab F st f P)(g:Gr F F1)(i:∀a bB,P a bB->P' a bB):At X aa ab F1 st f P' :=
 let ⟨r,h1,h2⟩:=h;⟨r,h1,h2.imp g i⟩
def aD(h:o.bind f=some b):∃a,o=some a/\f a=some b:=by
 cases o with
 | none=>cases h
 | some a=>exact⟨a,rfl,h⟩
def aI(h:o.map f=some b):∃a,o=some a/\f a=b:=by
 simp_all
def At.bnd(h:At X aa ab F st (bnd f k) P):At X aa ab F st f (λa aH=>At X aa ab F aH (k a) P):=by
 obtain⟨r,h1,h2⟩:=h;obtain⟨q,e1,e2⟩:=aD h1;refine⟨q,e1,?_⟩
 match q,e2 with
 | (.ok a,s1),e2=>exact⟨r,e2,h2⟩
 | (.ex m C,s1),e2=>cases e2;exact h2
def At.bP(h:At X aa ab F st (bP a) P):P a st:=by
 obtain⟨r,h1,h2⟩:=h;cases h1;exact h2
def At.hp(h:At X aa ab F st (hp g) P):∃a,g st.h=some a/\P a st:=by
 obtain⟨r,h1,h2⟩:=h;obtain⟨a,e1,e2⟩:=aI h1;subst e2;exact⟨a,e1,h2⟩
def At.ez(h:At X aa ab F st (ez g) P):∃a,g=some a/\P a st:=by
 obtain⟨r,h1,h2⟩:=h;obtain⟨a,e1,e2⟩:=aI h1;subst e2;exact⟨a,e1,h2⟩
def Tx(X:Cx)(aa:Hp)(ab:Fz)(rl:Fz->α->β->Prop)(F:Fz)(st:bN)(f:Gx α)(σ:St)(Q:β->Hp->Prop):Prop :=
 At X aa ab F st f λa bB=>∀b H' F',Rep X.K aa ab F' bB σ H'->Gr F F'->rl F' a b->Q b H'
def tX(X:Cx)(aa:Hp)(ab:Fz)(rl:Fz->α->β->Prop)(f:Gx α):St->Hp->(β->Hp->Prop)->Prop:=λσ H Q=>∃F st,Rep X.K aa ab F st σ H/\Tx X aa ab rl F st f σ Q
def Tx.mono(h:Tx X aa ab rl F st f σ Q)(g:Gr F F1)(i:∀b H',Q b H'->Q' b H'):Tx X aa ab rl F1 st f σ Q' :=
 At.imp h g λa bB q b H' F' R s r=>i _ _ (q b H' F' R (g.trans s) r)
def Tx.bnd(h:Tx X aa ab Xz F st (bnd f k) σ Q)
  (i:∀a b F1 aH H1,Rep X.K aa ab F1 aH σ H1->Gr F F1->rl F1 a b->Tx X aa ab Xz F1 aH (k a) σ Q->Q' b H1):Tx X aa ab rl F st f σ Q' :=
 At.imp (At.bnd h) (Gr.refl F) λa aH q b H1 F1 R1 g1 r1=>i a b F1 aH H1 R1 g1 r1 (Tx.mono (q) g1 λ_ _ z=>z)
def Tx.bP(h:Tx X aa ab rl F st (bP a) σ Q):∀b H' F',Rep X.K aa ab F' st σ H'->Gr F F'->rl F' a b->Q b H':=At.bP h
def Tx.hp(h:Tx X aa ab rl F st (hp g) σ Q):∃a,g st.h=some a/\∀b H' F',Rep X.K aa ab F' st σ H'->Gr F F'->rl F' a b->Q b H':=At.hp h
def Tx.ez(h:Tx X aa ab rl F st (ez g) σ Q):∃a,g=some a/\∀b H' F',Rep X.K aa ab F' st σ H'->Gr F F'->rl F' a b->Q b H':=At.ez h
end
abbrev rB:Fz->Bool->Bool->Prop:=λ_ a b=>a=b
abbrev tE(X:Cx)(aa:Hp)(ab:Fz)(f:Gx PV):TE:=tX X aa ab (aS X.K) f
abbrev tT(X:Cx)(aa:Hp)(ab:Fz)(f:Gx Bool):TT:=tX X aa ab rB f
abbrev tA(X:Cx)(aa:Hp)(ab:Fz)(f:Gx (List PV)):TA:=tX X aa ab (ao X.K) f
section
variable {X:Cx} {aa:Hp} {ab:Fz} {a b c e:Expr} {es rest:List Expr} {fa fb fc:Gx PV} {ga gb:Gx Bool} {ts:Gx (List PV)} {pos:Pos}
def rd(i:Nat):Gx PV:=λst=>(st.ρ[i]?).join.map λp=>(.ok p,st)
def Ja(i:Nat)(h:PE X (.Name x pos) (J2 i)):PE X (.Name x pos) (tE X aa ab (rd i)):=h.imp <| by
 rintro σ H Q ⟨F,st,R,r,h1,h2⟩
 obtain⟨p,e1,e2⟩:=aI h1;subst e2;cases z:st.ρ[i]? with
 | none=>rw[z]at e1;cases e1
 | some o =>
  rw[z]at e1;cases o with
  | none=>cases e1
  | some p' =>
   cases e1;obtain⟨v,h3,h4⟩:=R.l.av i p z;exact⟨v,h3,h2 v H F R (Gr.refl F) h4⟩
def ua(h:PE X e (tC v))(hb:∀F,aS X.K F p v):PE X e (tE X aa ab (bP p)):=h.imp (by rintro σ H Q ⟨F,st,R,q⟩;exact q.bP v H F R (Gr.refl F) (hb F))
def OK{j pos}:PE X (.Constant (.int i) j pos) (tE X aa ab (bP (.int i))):=ua J3 λ_=>au.mpr rfl
def Tq{j pos}:PE X (.Constant (.bool i) j pos) (tE X aa ab (bP (.bl i))):=ua N4 λ_=>aN.mpr rfl
def OL{j pos}:PE X (.Constant .none j pos) (tE X aa ab (bP .aV)):=ua J4 λ_=>bZ.mpr rfl
def OM{j pos}:PE X (.Constant (.str i) j pos) (tE X aa ab (bP (.str i))):=ua J5 λ_=>aX.mpr rfl
abbrev G2:=List aj->PV->PV->Option PV
def rT(K:W.Frag)(g:G2):R2:=λx y H Q=>∃aa ab F st τ pa pb p,g st.h pa pb=some p/\Rep K aa ab F st τ H/\aS K F pa x/\aS K F pb y/\∀v H' F',Rep K aa ab F' st τ H'->Gr F F'->aS K F' p v->Q v H'
abbrev oA(X:Cx)(f:Value->Value->Sem Value)(g:G2):Prop:=OpR X f (rT X.K g)
def op2(g:G2)(fa fb:Gx PV):Gx PV:=bnd fa λx=>bnd fb λy=>hp λh=>g h x y
def lQ(h:tE X aa ab (op2 g fa fb) σ H Q):Kk (rT X.K g) (tE X aa ab fa) (tE X aa ab fb) σ H Q:=by
 obtain⟨F,st,R,h⟩:=h;refine⟨F,st,R,h.bnd λp v F1 aH H1 R1 g1 b1 h1=>⟨F1,aH,R1,h1.bnd λq w F2 da H2 R2 g2 b2 h2=>?_⟩⟩
 obtain⟨o,e,z⟩:=h2.hp;exact⟨aa,ab,F2,da,σ,p,q,o,e,R2,b1.mono g2,b2,z⟩
def Ts(ho:oA X (binaryOp op) g)(ha:PE X a (tE X aa ab fa))(hb:PE X b (tE X aa ab fb)):PE X (.BinOp a op b pos) (tE X aa ab (op2 g fa fb)):=(IU ho ha hb).imp λ_ _ _ h=>lQ h
def ON(ho:oA X (compareOp op) g)(ha:PE X a (tE X aa ab fa))(hb:PE X b (tE X aa ab fb))(hm:behindInMarks op b=false):PE X (.Compare a [op] [b] pos) (tE X aa ab (op2 g fa fb)):=(yn ho ha hb hm).imp λ_ _ _ h=>lQ h
def ub:PV->Option Bool | .bl b=>some b | _=>none
def i4{b:Bool}(h:ub p=some b):p=.bl b:=by
 cases p<;>first | (cases h;rfl) | cases h
def toB(f:Gx PV):Gx Bool:=bnd f λp=>ez (ub p)
def toB_imp(h:tT X aa ab (toB fa) σ H Q):tE X aa ab fa σ H λv H1=>∃k,v=.bl k/\Q k H1:=by
 obtain⟨F,st,R,h⟩:=h;refine⟨F,st,R,h.bnd λp v F1 aH H1 R1 g1 b1 h1=>?_⟩
 obtain⟨k,e,z⟩:=h1.ez;rw[i4 e]at b1;exact⟨k,aN.mp b1,z k H1 F1 R1 (Gr.refl _) rfl⟩
def OO(ho:oA X (compareOp op) g)(ha:PE X a (tE X aa ab fa))(hb:PE X b (tE X aa ab fb))(hm:behindInMarks op b=false):PT X (.Compare a [op] [b] pos) (tT X aa ab (toB (op2 g fa fb))) :=
 (yo ho ha hb hm).imp λ_ _ _ h=>lQ (toB_imp h)
def chain(g g':G2)(fa fb fc:Gx PV):Gx PV:=bnd fa λx=>bnd fb λy=>bnd (hp λh=>(g h x y).bind ub) λk=>if k=true then bnd fc λz=>hp λh=>g' h y z else bP (.bl false)
def pM(h:tE X aa ab (chain g g' fa fb fc) σ H Q):wH (rT X.K g) (rT X.K g') (tE X aa ab fa) (tE X aa ab fb) (tE X aa ab fc) σ H Q:=by
 obtain⟨F,st,R,h⟩:=h;refine⟨F,st,R,h.bnd λp v F1 aH H1 R1 g1 b1 h1=>⟨F1,aH,R1,h1.bnd λq w F2 da H2 R2 g2 b2 h2=>?_⟩⟩
 obtain⟨k,e,z⟩:=At.hp (At.bnd h2);obtain⟨o,e1,e2⟩:=aD e;rw[i4 e2]at e1;refine⟨aa,ab,F2,da,σ,p,q,_,e1,R2,b1.mono g2,b2,λu H3 F3 R3 g3 b3=>⟨k,aN.mp b3,?_⟩⟩
 cases k with
 | true =>
  have z:Tx X aa ab (aS X.K) F2 da (bnd fc λz=>hp λh=>g' h q z) σ Q:=z
  refine⟨F3,da,R3,(z.mono g3 λ_ _ y=>y).bnd λt o F4 Fh H4 R4 g4 b4 h4=>?_⟩
  obtain⟨o,e,z⟩:=h4.hp;exact⟨aa,ab,F4,Fh,σ,q,t,o,e,R4,b2.mono (g3.trans g4),b4,z⟩
 | false=>exact Tx.bP z _ H3 F3 R3 g3 (aN.mpr rfl)
def GD(ho:oA X (compareOp op) g)(mP:oA X (compareOp tj) g')(ha:PE X a (tE X aa ab fa))(hb:PE X b (tE X aa ab fb))(hc:PE X c (tE X aa ab fc))
  (hm:lastMarks [op,tj] [b,c]=false):PE X (.Compare a [op,tj] [b,c] pos) (tE X aa ab (chain g g' fa fb fc)):=(Cu ho mP ha hb hc hm).imp λ_ _ _ h=>pM h
end
def cX(h:List aj):PV->Option (Kd×List PV)
 | .nd k ps=>some (k,ps)
 | .ref n=>(h[n]?).bind λc=>if live c=true then some (c.k,c.ps)else none
 | _=>none
def bt{α:Type}{c:Prop} [Decidable c] {x:Option α} {y:α} (h:(if c then x else none)=some y):c/\x=some y:=by
 grind
def aw{α:Type}{c:Prop} [Decidable c] {x y:α} (h:(if c then some x else none)=some y):c/\x=y:=by
 grind
section
variable {K:W.Frag} {aa H:Hp} {ab F:Fz} {st:bN} {σ:St}
def Rep.at(R:Rep K aa ab F st σ H){p:PV}{k:Kd}{ps:List PV}{v:V}(e:cX st.h p=some (k,ps))(b:aS K F p v):∃a vs,v=.ref a/\iY K F.F H a false k vs/\ao K F ps vs:=by
 cases p with
 | nd k' tm =>
  cases e;obtain⟨a,vs,h1,h2,h3⟩:=gh.mp b;exact⟨a,vs,h1,h2.to (bQ.refl _) (λo q=>R.sub _ _ q) id,h3⟩
 | ref n =>
  obtain⟨c,e1,e2⟩:=aD e;obtain⟨hl,e3⟩:=aw e2;cases e3;obtain⟨a,h1,h2⟩:=cU.mp b;obtain⟨_,vs,h3,h4⟩:=R.c.cell n c a e1 h1 hl;exact⟨a,vs,h2,h3.to (bQ.refl _) (λo q=>q) (λz=>by cases z),h4⟩
 | _=>cases e
def CU(h:List aj)(p:PV):Option (List PV):=match cX h p with
 | some (.ak,ps)=>some ps
 | some (.lst,ps)=>some ps
 | _=>none
def Rep.seq(R:Rep K aa ab F st σ H){p:PV}{ps:List PV}{v:V}(e:CU st.h p=some ps)(b:aS K F p v):∃a vs,v=.ref a/\(ek K H a vs\/fJ K H a vs)/\ao K F ps vs:=by
 unfold CU at e;split at e
 ·rename_i z;cases e;obtain⟨a,vs,h1,h2,h3⟩:=R.at z b;exact⟨a,vs,h1,.inl h2.2,h3⟩
 ·rename_i z;cases e;obtain⟨a,vs,h1,h2,h3⟩:=R.at z b;exact⟨a,vs,h1,.inr h2,h3⟩
 ·cases e
def Ac(h:List aj):PV->Option Bool
 | .aV=>some false
 | .bl b=>some b
 | .int i=>some (i != 0)
 | p=>match cX h p with
  | some (.ak,ps)=>some !ps.isEmpty
  | some (.lst,ps)=>some !ps.isEmpty
  | some (.dZ false _,ps)=>some !ps.isEmpty
  | _=>none
def m7{ps:List PV}{vs:List V}(h:ao K F ps vs):ps.isEmpty=vs.isEmpty:=by
 cases ps with
 | nil=>rw[h.bC];rfl
 | cons p ps=>obtain⟨v,r,rfl,_,_⟩:=h.bh;rfl
def Rep.VU(R:Rep K aa ab F st σ H){p:PV}{k:Bool}{v:V}(e:Ac st.h p=some k)(b:aS K F p v):Gb K v H k:=by
 have more:(match cX st.h p with
  | some (.ak,ps)=>some !ps.isEmpty
  | some (.lst,ps)=>some !ps.isEmpty
  | some (.dZ false _,ps)=>some !ps.isEmpty
  | _=>none)=some k->Gb K v H k:=λe=>by
  split at e
  ·rename_i z;cases e;obtain⟨a,vs,rfl,h2,h3⟩:=R.at z b;exact .inr (.inl ⟨vs,h2.2,by rw[m7 h3]⟩)
  ·rename_i z;cases e;obtain⟨a,vs,rfl,h2,h3⟩:=R.at z b;exact .inl ⟨vs,fJ.sq h2,by rw[m7 h3]⟩
  ·rename_i z;cases e;obtain⟨a,vs,rfl,⟨kvs,h2,_,h4⟩,h3⟩:=R.at z b;refine .inr (.inr ⟨kvs,h2,?_⟩);rw[m7 h3,<-h4,mB]
  ·cases e
 cases p with
 | aV=>rw[bZ.mp b];exact(bz e).symm
 | bl c=>rw[aN.mp b];exact(bz e).symm
 | int i=>rw[au.mp b];exact(bz e).symm
 | str x=>exact more e
 | ref n=>exact more e
 | fn x=>exact more e
 | nd k ps=>exact more e
end
section
variable {X:Cx} {aa:Hp} {ab:Fz} {a b c e:Expr} {es rest:List Expr} {fa fb fc:Gx PV} {ga gb:Gx Bool} {ts:Gx (List PV)} {pos:Pos}
def uc(f:Gx PV):Gx Bool:=bnd f λp=>hp λh=>Ac h p
def OP(h:PE X e (tE X aa ab fa))(he:∀gw,isTrue e X.env gw=(do let v <-gw;standAt e.pos;holding [v] (truthy v))):PT X e (tT X aa ab (uc fa)) :=
 (Cy h he).imp λσ H Q ⟨F,st,R,h⟩=>⟨F,st,R,h.bnd λp v F1 aH H1 R1 g1 b1 h1=>by
  obtain⟨k,e,z⟩:=h1.hp;exact⟨k,R1.VU e b1,z k H1 F1 R1 (Gr.refl _) rfl⟩⟩
def GF{op tj:CmpOp}{g g':G2}(ho:oA X (compareOp op) g)(mP:oA X (compareOp tj) g')(ha:PE X a (tE X aa ab fa))(hb:PE X b (tE X aa ab fb))(hc:PE X c (tE X aa ab fc))
  (hm:lastMarks [op,tj] [b,c]=false):PT X (.Compare a [op,tj] [b,c] pos) (tT X aa ab (toB (chain g g' fa fb fc))):=(Cv ho mP ha hb hc hm).imp λ_ _ _ h=>pM (toB_imp h)
def gX{α:Type}(gc:Gx Bool)(f g:Gx α):Gx α:=bnd gc λx=>if x=true then f else g
def rN{α β:Type}{rl:Fz->α->β->Prop}{f g:Gx α}{σ:St}{H:Hp}{Q:β->Hp->Prop}(h:tX X aa ab rl (gX ga f g) σ H Q):tT X aa ab ga σ H λc H1=>if c=true then tX X aa ab rl f σ H1 Q else tX X aa ab rl g σ H1 Q:=by
 obtain⟨F,st,R,h⟩:=h;refine⟨F,st,R,h.bnd λx y F1 aH H1 R1 g1 b1 h1=>?_⟩
 cases b1;cases x with
 | true=>exact⟨F1,aH,R1,h1⟩
 | false=>exact⟨F1,aH,R1,h1⟩
def rO{α β:Type}{rl:Fz->α->β->Prop}{a:α}{b:β}{σ:St}{H:Hp}{Q:β->Hp->Prop}(h:tX X aa ab rl (bP a) σ H Q)(hb:∀F,rl F a b):Q b H:=by
 obtain⟨F,st,R,h⟩:=h;exact h.bP b H F R (Gr.refl _) (hb F)
def ud{P P' Q Q':Prop}{c:Bool}(h:if c=true then P else Q)(h1:P->P')(h2:Q->Q'):if c=true then P' else Q':=by
 grind
def yA{α β:Type}{rl:Fz->α->β->Prop}{f:Gx α}{σ:St}{H:Hp}{Q Q':β->Hp->Prop}(h:tX X aa ab rl f σ H Q)(i:∀b H',Q b H'->Q' b H'):tX X aa ab rl f σ H Q':=let ⟨F,st,R,h⟩:=h;⟨F,st,R,h.mono (Gr.refl _) i⟩
def OQ(ha:PT X a (tT X aa ab ga))(hb:PW X (.BoolOp .And (b::rest) pos) (tT X aa ab gb)):PW X (.BoolOp .And (a::b::rest) pos) (tT X aa ab (gX ga gb (bP false))) :=
 (J7 ha hb).imp λσ H Q h=>yA (rN h) λ_ _ z=>ud z id λz=>rO z λ_=>rfl
def Tt(ha:PT X a (tT X aa ab ga))(hb:PW X (.BoolOp .Or (b::rest) pos) (tT X aa ab gb)):PW X (.BoolOp .Or (a::b::rest) pos) (tT X aa ab (gX ga (bP true) gb)) :=
 (N5 ha hb).imp λσ H Q h=>yA (rN h) λ_ _ z=>ud z (λz=>rO z λ_=>rfl) id
def wZ(f:Gx Bool):Gx Bool:=bnd f λx=>bP !x
def OR(ha:PT X a (tT X aa ab ga)):PT X (.UnaryOp .Not a pos) (tT X aa ab (wZ ga)):=(J8 ha).imp λσ H Q ⟨F,st,R,h⟩=>⟨F,st,R,h.bnd λx y F1 aH H1 R1 g1 b1 h1=>by
 cases b1;exact h1.bP _ H1 F1 R1 (Gr.refl _) rfl⟩
def KS(fa fb:Gx PV):Gx PV:=bnd fa λx=>bnd (hp λh=>Ac h x) λk=>if k=true then fb else bP x
def Tu(fa fb:Gx PV):Gx PV:=bnd fa λx=>bnd (hp λh=>Ac h x) λk=>if k=true then bP x else fb
def CV{f g:PV->Gx PV}{ae:List (Addr×Obj)}{s:Shared}{σ:St}{H:Hp}{Q:VK}(ha:PE X a (tE X aa ab fa))(I:Inv X ae σ H s)
  (h:tE X aa ab (bnd fa λx=>bnd (hp λh=>Ac h x) λk=>if k=true then f x else g x) σ H Q) :
  wpAny (model X.prog X.w) X.A (eval a X.env) (λv s1=>wpAny (model X.prog X.w) X.A (truthy v) (λk s2=>∃p xv F1 aH H1,Inv X ae σ H1 s2/\RelV xv v/\Rep X.K aa ab F1 aH σ H1/\aS X.K F1 p xv/\Tx X aa ab (aS X.K) F1 aH (if k=true then f p else g p) σ Q) X.xe s1) X.xe s:=by
 obtain⟨F,st,R,h⟩:=h;refine thn (ha ae s σ H (λv H1=>∃F1 aH p,Rep X.K aa ab F1 aH σ H1/\aS X.K F1 p v/\Tx X aa ab (aS X.K) F1 aH (bnd (hp λh=>Ac h p) λk=>if k=true then f p else g p) σ Q) I
  ⟨F,st,R,h.bnd λp v F1 aH H1 R1 g1 b1 h1=>⟨F1,aH,p,R1,b1,h1⟩⟩) λv s1 ⟨xv,H1,I1,r1,F1,aH,p,R1,b1,h1⟩=>?_
 obtain⟨k,e,z⟩:=At.hp (At.bnd h1);exact thn (Cw ae s1 σ H1 xv v (λk' H'=>k'=k/\H'=H1) I1 r1 ⟨k,R1.VU e b1,rfl,rfl⟩) <| by
  rintro c s2 ⟨H2,I2,ec,eh⟩
  subst ec eh;exact⟨p,xv,F1,aH,H2,I2,r1,R1,b1,z⟩
def Tv(ha:PE X a (tE X aa ab fa))(hb:PE X (.BoolOp .Or (b::rest) pos) (tE X aa ab fb)):PE X (.BoolOp .Or (a::b::rest) pos) (tE X aa ab (Tu fa fb)):=λae s σ H Q I h =>
 BoolOp_or (thn (CV ha I h) λv s1 z=>thn z <| by
  rintro k s2 ⟨p,xv,F1,aH,H1,I1,r1,R1,b1,z⟩
  cases k with
  | true=>exact⟨xv,H1,I1,r1,Tx.bP (z) _ H1 F1 R1 (Gr.refl _) b1⟩
  | false=>exact hb ae s2 σ H1 Q I1 ⟨F1,aH,R1,z⟩)
def OS(ha:PE X a (tE X aa ab fa))(hb:PE X (.BoolOp .And (b::rest) pos) (tE X aa ab fb)):PE X (.BoolOp .And (a::b::rest) pos) (tE X aa ab (KS fa fb)):=λae s σ H Q I h =>
 BoolOp_and (thn (CV ha I h) λv s1 z=>thn z <| by
  rintro k s2 ⟨p,xv,F1,aH,H1,I1,r1,R1,b1,z⟩
  cases k with
  | false=>exact⟨xv,H1,I1,r1,Tx.bP (z) _ H1 F1 R1 (Gr.refl _) b1⟩
  | true=>exact hb ae s2 σ H1 Q I1 ⟨F1,aH,R1,z⟩)
def KU(fa:Gx PV):Gx PV:=bnd (toB fa) λx=>bP (.bl !x)
def OT(ha:PE X a (tE X aa ab fa)):PE X (.UnaryOp .Not a pos) (tE X aa ab (KU fa)):=(J9 ha).imp λσ H Q ⟨F,st,R,h⟩ =>
 toB_imp ⟨F,st,R,h.bnd λx y F1 aH H1 R1 g1 b1 h1=>by
  cases b1;exact h1.bP _ H1 F1 R1 (Gr.refl _) (aN.mpr rfl)⟩
def Tw(hc:PT X c (tT X aa ab ga))(ha:PE X a (tE X aa ab fa))(hb:PE X b (tE X aa ab fb)):PE X (.IfExp c a b pos) (tE X aa ab (gX ga fa fb)):=(Cg hc ha hb).imp λ_ _ _ h=>rN h
def et(f:Gx PV)(g:Gx (List PV)):Gx (List PV):=bnd f λx=>bnd g λxs=>bP (x::xs)
def OU:PA X [] (tA X aa ab (bP [])):=mW.imp λσ H Q h=>rO h λ_=>.nil
def KW(ha:PE X e (tE X aa ab fa))(hr:PA X es (tA X aa ab ts))(hs:starEach (e::es) X.env=(false,eval e X.env)::starEach es X.env:=by rfl):PA X (e::es) (tA X aa ab (et fa ts)) :=
 (fx ha hr hs).imp (by rintro σ H Q ⟨F,st,R,h⟩;exact⟨F,st,R,h.bnd λp v F1 aH H1 R1 g1 b1 h1=>⟨F1,aH,R1,h1.bnd λps vs F2 da H2 R2 g2 b2 h2=>h2.bP _ H2 F2 R2 (Gr.refl _) (.cons (b1.mono g2) b2)⟩⟩)
def gY:Nat:=4000000
def cL{n:Nat}(h:n<=gY):n<=sizeLine:=aL h (by decide)
def small(ps:List PV)(p:PV):Option PV:=if ps.length<=gY then some p else none
def Nx(k:Kd)(ts:Gx (List PV)):Gx PV:=bnd ts λps=>ez (small ps (.nd k ps))
def OW{x1}(h:PA X es (tA X aa ab ts)):PE X (.Tuple es x1 pos) (tE X aa ab (Nx .ak ts)):=(KA h).imp λσ H Q ⟨F,st,R,h⟩=>⟨F,st,R,h.bnd λps vs F1 aH H1 R1 g1 b1 h1=>by
 obtain⟨p,e,z⟩:=h1.ez;obtain⟨hl,rfl⟩:=aw e;refine⟨cL (by rw[<-b1.length];exact hl),λa hn=>?_⟩
 obtain⟨R2,s2⟩:=R1.laid (.ak vs) hn;exact z _ _ _ R2 s2 (aZ.mpr ⟨a,vs,rfl,ek.of ar,b1.mono s2⟩)⟩
def OX(h:PA X es (tA X aa ab ts)):PE X (.List es pos) (tE X aa ab (Nx .lst ts)):=(CA h).imp λσ H Q ⟨F,st,R,h⟩=>⟨F,st,R,h.bnd λps vs F1 aH H1 R1 g1 b1 h1=>by
 obtain⟨p,e,z⟩:=h1.ez;obtain⟨hl,rfl⟩:=aw e;refine⟨cL (by rw[<-b1.length];exact hl),λa hn=>?_⟩
 obtain⟨R2,s2⟩:=R1.laid (.lst vs) hn;exact z _ _ _ R2 s2 (cg.mpr ⟨a,vs,rfl,fJ.of ar,b1.mono s2⟩)⟩
def gC(c:aj):Gx PV:=λst=>some (.ok (.ref st.h.length),⟨st.ρ,st.h++[c]⟩)
def Tx.gC{c:aj}{F:Fz}{st:bN}{σ:St}{H:Hp}{Q:VK}{p:Addr}{o:HO}{vs:List V}(h:Tx X aa ab (aS X.K) F st (gC c) σ Q)(R:Rep X.K aa ab F st σ H)(hp:H p=none)
  (hn:iY X.K F.F (bS H p o) p true c.k vs) (hb:ao X.K F c.ps vs):Q (.ref p) (bS H p o):=by
 obtain⟨r,h1,h2⟩:=h;cases h1;obtain⟨C,g,hm⟩:=R.c.alloc hp hn hb;exact h2 _ _ _ ⟨C,R.l.mono g⟩ g (cU.mpr ⟨p,hm,rfl⟩)
def KY(ts:Gx (List PV)):Gx PV:=bnd ts λps=>bnd (ez (small ps .aV)) λ_=>gC ⟨.lst,ps⟩
def KZ(h:PA X es (tA X aa ab ts)):PE X (.List es pos) (tE X aa ab (KY ts)):=(CA h).imp λσ H Q ⟨F,st,R,h⟩=>⟨F,st,R,h.bnd λps vs F1 aH H1 R1 g1 b1 h1=>by
 obtain⟨p,e,z⟩:=At.ez (At.bnd h1);obtain⟨hl,rfl⟩:=aw e;exact⟨cL (by rw[<-b1.length];exact hl),λa hn=>Tx.gC z R1 hn ar b1⟩⟩
end
inductive dN where
 | nx | bk | ct | rt (p:PV)
def ue(X:Cx)(aa:Hp)(ab F:Fz)(D:tU):dN->bN->Prop
 | .nx,st=>∀F' bc H',Rep X.K aa ab F' st bc H'->Gr F F'->D.nx bc H'
 | .bk,st=>∀F' bc H',Rep X.K aa ab F' st bc H'->Gr F F'->D.bk bc H'
 | .ct,st=>∀F' bc H',Rep X.K aa ab F' st bc H'->Gr F F'->D.ct bc H'
 | .rt p,st=>∀v F' H',i3 X.K aa ab F' st.h H'->Gr F F'->aS X.K F' p v->D.rt v H'
def Sa(X:Cx)(aa:Hp)(ab F:Fz)(D:tU)(st:bN)(f:Gx dN):Prop:=At X aa ab F st f (ue X aa ab F D)
def tS(X:Cx)(aa:Hp)(ab:Fz)(f:Gx dN):TS:=λD σ H=>∃F st,Rep X.K aa ab F st σ H/\Sa X aa ab F D st f
section
variable {X:Cx} {aa:Hp} {ab F F1:Fz} {D:tU} {st:bN} {α β:Type}
theorem ue.mono(g:Gr F F1):∀(o:dN) (st:bN),ue X aa ab F D o st->ue X aa ab F1 D o st
 | .nx,_,h=>λF' bc H' R z=>h F' bc H' R (g.trans z)
 | .bk,_,h=>λF' bc H' R z=>h F' bc H' R (g.trans z)
 | .ct,_,h=>λF' bc H' R z=>h F' bc H' R (g.trans z)
 | .rt _,_,h=>λv F' H' R z=>h v F' H' R (g.trans z)
def Sa.mono(h:Sa X aa ab F D st f)(g:Gr F F1):Sa X aa ab F1 D st f:=At.imp h g (ue.mono g)
def Sa.bnd(h:Sa X aa ab F D st (bnd f k))
  (i:∀a b F1 aH H1,Rep X.K aa ab F1 aH σ H1->Gr F F1->rl F1 a b->Sa X aa ab F1 D aH (k a)->Q b H1):Tx X aa ab rl F st f σ Q :=
 At.imp (At.bnd h) (Gr.refl F) λa aH q b H1 F1 R1 g1 r1=>i a b F1 aH H1 R1 g1 r1 (Sa.mono q g1)
end
section
variable {X:Cx} {aa:Hp} {ab:Fz} {a b c e tg iter:Expr} {es:List Expr} {fe:Gx PV} {gc:Gx Bool} {pos:Pos} {s:Stmt} {ss body:List Stmt} {f g fb:Gx dN}
def XA(g:Gx dN):dN->Gx dN
 | .nx=>g
 | .bk=>bP .bk
 | .ct=>bP .ct
 | .rt p=>bP (.rt p)
def rP(f g:Gx dN):Gx dN:=bnd f (XA g)
def K1:PSs X [] (tS X aa ab (bP .nx)):=FO.imp (by rintro D σ H ⟨F,st,R,h⟩;exact At.bP h F σ H R (Gr.refl F))
def GG(h1:PS X s (tS X aa ab f))(h2:PSs X ss (tS X aa ab g)):PSs X (s::ss) (tS X aa ab (rP f g)):=(Cj h1 h2).imp λD σ H ⟨F,st,R,h⟩ =>
 ⟨F,st,R,At.imp (At.bnd h) (Gr.refl F) λo aH q=>match o,q with
  | .nx,q=>λF1 gi H1 R1 g1=>⟨F1,aH,R1,Sa.mono q g1⟩
  | .bk,q=>λF' bc H'=>At.bP q F' bc H'
  | .ct,q=>λF' bc H'=>At.bP q F' bc H'
  | .rt p,q=>λv F' H'=>At.bP q v F' H'⟩
def K2(h1:PS X s (tS X aa ab f)):PSs X [s] (tS X aa ab f):=FP h1
def K3:PS X (.Pass pos) (tS X aa ab (bP .nx)):=FQ.imp (by rintro D σ H ⟨F,st,R,h⟩;exact At.bP h F σ H R (Gr.refl F))
def GH:PS X (.Break pos) (tS X aa ab (bP .bk)):=Ck.imp (by rintro D σ H ⟨F,st,R,h⟩;exact At.bP h F σ H R (Gr.refl F))
def K4:PS X (.Continue pos) (tS X aa ab (bP .ct)):=tV.imp (by rintro D σ H ⟨F,st,R,h⟩;exact At.bP h F σ H R (Gr.refl F))
def Ad(fe:Gx PV):Gx dN:=bnd fe λp=>bP (.rt p)
def Jb(he:PE X e (tE X aa ab fe)):PS X (.Return (some e) pos) (tS X aa ab (Ad fe)):=(Kb he).imp (by rintro D σ H ⟨F,st,R,h⟩;exact⟨F,st,R,h.bnd λp v F1 aH H1 R1 g1 b1 h1=>At.bP h1 v F1 H1 R1.c (Gr.refl _) b1⟩)
def K5:PS X (.Return none pos) (tS X aa ab (bP (.rt .aV))):=FU.imp (by rintro D σ H ⟨F,st,R,h⟩;exact At.bP h _ F H R.c (Gr.refl _) (bZ.mpr rfl))
def Tz(hc:PT X c (tT X aa ab gc))(ha:PSs X p (tS X aa ab f))(hb:PSs X r (tS X aa ab g)):PS X (.If c p r pos) (tS X aa ab (gX gc f g)) :=
 (Oa hc ha hb).imp λD σ H ⟨F,st,R,h⟩=>⟨F,st,R,h.bnd λx y F1 aH H1 R1 g1 b1 h1=>by
  cases b1;cases x with
  | true=>exact⟨F1,aH,R1,h1⟩
  | false=>exact⟨F1,aH,R1,h1⟩⟩
def CW(fe:Gx PV):Gx dN:=bnd fe λ_=>bP .nx
def K6(he:PE X e (tE X aa ab fe))(hs:swapsWith e none pos.line X.env=pure false:=by rfl):PS X (.Expr e pos) (tS X aa ab (CW fe)):=(FT he hs).imp λD σ H ⟨F,st,R,h⟩ =>
 ⟨F,st,R,h.bnd λp v F1 aH H1 R1 g1 b1 h1=>At.bP h1 F1 σ H1 R1 (Gr.refl _)⟩
abbrev Tg:=PV->bN->Option bN
abbrev Ny:=List PV->bN->Option bN
def tG(K:W.Frag)(aa:Hp)(ab:Fz)(g:Tg):TG:=λv σ H Q=>∃F st p bB,Rep K aa ab F st σ H/\aS K F p v/\g p st=some bB/\∀bc H' F',Rep K aa ab F' bB bc H'->Gr F F'->Q bc H'
def OY(K:W.Frag)(aa:Hp)(ab:Fz)(g:Ny):IT:=λvs σ H Q=>∃F st ps bB,Rep K aa ab F st σ H/\ao K F ps vs/\g ps st=some bB/\∀bc H' F',Rep K aa ab F' bB bc H'->Gr F F'->Q bc H'
def cC(i:Nat):Tg:=λp st=>if i<st.ρ.length then some ⟨st.ρ.set i (some p),st.h⟩else none
def Lc.set{K:W.Frag}(L:Lc K F ρ σ)(hi:i<ρ.length)(hb:aS K F p v):Lc K F (ρ.set i (some p)) (σ.set i (some v)) where
 av:=λj q e=>by
  by_cases h:i=j
  ·subst h;rw[qK hi]at e;cases e;exact⟨v,qK (by rw[<-L.len];exact hi),hb⟩
  ·rw[iK h]at e;rw[iK h];exact L.av j q e
 len:=by rw[qW,qW];exact L.len
def K7(i:Nat)(h:PG X (.Name x pos) (gName i)):PG X (.Name x pos) (tG X.K aa ab (cC i)):=h.imp <| by
 rintro v σ H Q ⟨F,st,p,bB,R,hb,hf,q⟩
 obtain⟨hi,rfl⟩:=aw hf;exact q _ _ _ ⟨R.c,R.l.set hi hb⟩ (Gr.refl F)
def m8:Ny:=λps st=>match ps with | []=>some st | _=>none
def dk(g:Tg)(r:Ny):Ny:=λps st=>match ps with | p::ps=>(g p st).bind λbB=>r ps bB | []=>none
def K8:PGs X [] (OY X.K aa ab m8):=FW.imp <| by
 rintro vs σ H Q ⟨F,st,ps,bB,R,hb,hf,q⟩
 cases ps with
 | nil=>cases hf;exact⟨hb.bC,q _ _ _ R (Gr.refl F)⟩
 | cons _ _=>cases hf
def GI(h1:PG X e (tG X.K aa ab t))(h2:PGs X es (OY X.K aa ab u))(hs:(assignEach (e::es) X.env).map (·.2)=assign e X.env::(assignEach es X.env).map (·.2):=by rfl) :
  PGs X (e::es) (OY X.K aa ab (dk t u)):=(Co h1 h2 hs).imp <| by
 rintro vs σ H Q ⟨F,st,ps,bB,R,hb,hf,q⟩
 cases ps with
 | nil=>cases hf
 | cons p ps =>
  obtain⟨v,r,rfl,b1,b2⟩:=hb.bh;obtain⟨aH,e1,e2⟩:=aD hf;exact⟨v,r,rfl,F,st,p,aH,R,b1,e1,λgi H1 F1 R1 s1=>⟨F1,aH,ps,bB,R1,b2.mono s1,e2,λym H2 F2 R2 s2=>q ym H2 F2 R2 (s1.trans s2)⟩⟩
def _root_.L2.Inv.jI{s:Shared}{a:Addr}(I:Inv X ae σ H s)(h:fJ X.K H a xs):∃(ai:List Value) (n:Nat),Vals xs ai/\s.heap.get? a=some {cls:=.type "list",data:=.seq ai.toArray n}/\xs.length<=sizeLine:=by
 rcases h with h | ⟨ai,n,e,z,r⟩
 ·obtain⟨z,ai,n,r,e⟩:=h.ok I.hok;exact⟨ai,n,r,e,z⟩
 ·exact⟨ai,n,r,I.mO a _ e,by rw[r.length];exact z⟩
def K9{es:List Expr}{k:Nat}{t:IT}{n:Nat}(hc:X.calm=true)(h:PGs X es t)
 (hn:(assignEach es X.env).length=n:=by rfl) (jr:(assignEach es X.env).findIdx? (·.1)=none:=by rfl):PG X (.Tuple es k pos) (λv σ H Q=>∃a xs,v=.ref a/\fJ X.K H a xs/\xs.length=n/\t xs σ H Q):=by
 intro ae s σ H v u Q I r hw;obtain⟨a,xs,e1,hq,hl,hw⟩:=hw;subst e1;cases r;obtain⟨ai,m,rv,e,hz⟩:=I.jI hq;rw[PyProof.Rows.assign_Tuple];refine af (rh ?_);unfold unpack;rw[show(assignEach es X.env).length=ai.toArray.size by simp[hn,<-hl,rv.length],jr]
 refine af (cz (W.kun_itemsOf (I.ok.hd hc) ⟨_,e,rfl,_,rfl⟩ λh' hx=>?_))
 have I1:=I.kept (t':=s.toks) λb o e=>hx b o (aJ (az e)) e
 exact h ae _ σ H xs _ Q I1 (by grind) hw
def kE(n:Nat)(t:Ny):Tg:=λp st=>match p with | .nd .ak ps=>if ps.length=n then t ps st else none | .nd .lst ps=>if ps.length=n then t ps st else none | _=>none
def OZ(hc:X.calm=true)(h:PGs X es (OY X.K aa ab t))(hn:(assignEach es X.env).length=n:=by rfl)(jr:(assignEach es X.env).findIdx? (·.1)=none:=by rfl) :
  PG X (.Tuple es k pos) (tG X.K aa ab (kE n t)):=by
 rintro ae s σ H v u Q I r ⟨F,st,p,bB,R,hb,hf,q⟩
 unfold kE at hf;split at hf
 ·obtain⟨hl,hf⟩:=bt hf;obtain⟨a,vs,rfl,hs,rQ⟩:=aZ.mp hb;exact Kc hc h hn jr ae s σ H _ u Q I r ⟨a,vs,rfl,aO R.sub hs,by rw[<-rQ.length];exact hl,F,st,_,bB,R,rQ,hf,q⟩
 ·obtain⟨hl,hf⟩:=bt hf;obtain⟨a,vs,rfl,hs,rQ⟩:=cg.mp hb;exact K9 hc h hn jr ae s σ H _ u Q I r ⟨a,vs,rfl,fM R.sub hs,by rw[<-rQ.length];exact hl,F,st,_,bB,R,rQ,hf,q⟩
 ·cases hf
def stp(g:bN->Option bN):Gx dN:=λst=>(g st).map λbB=>(.ok .nx,bB)
def Sa.stp{st:bN}{g:bN->Option bN}(h:Sa X aa ab F D st (stp g)):∃bB,g st=some bB/\∀F' bc H',Rep X.K aa ab F' bB bc H'->Gr F F'->D.nx bc H':=by
 obtain⟨r,h1,h2⟩:=h;obtain⟨bB,e1,e2⟩:=aI h1;subst e2;exact⟨bB,e1,h2⟩
def m9(fe:Gx PV)(g:Tg):Gx dN:=bnd fe λp=>stp (g p)
def GJ{g:Tg}(h:tS X aa ab (m9 fe g) D σ H):FX (tE X aa ab fe) (tG X.K aa ab g) D σ H:=by
 obtain⟨F,st,R,h⟩:=h;refine⟨F,st,R,h.bnd λp v F1 aH H1 R1 g1 b1 h1=>?_⟩
 obtain⟨bB,e,z⟩:=h1.stp;exact⟨F1,aH,p,bB,R1,b1,e,λym H2 F2 R2 s2=>z F2 ym H2 R2 s2⟩
def O0{g:Tg}(he:PE X e (tE X aa ab fe))(hg:PG X tg (tG X.K aa ab g))(hs:swapsWithSole [tg] e pos.line X.env=pure false:=by rfl)(hw:swappedStores [tg] e X.env=pure none:=by rfl)
  (h1:(assignEach [tg] X.env).map (·.2)=[assign tg X.env]:=by rfl):PS X (.Assign [tg] e pos) (tS X aa ab (m9 fe g)):=(Cp he hg hs hw h1).imp λ_ _ _ h=>GJ h
def Walk(K:W.Frag)(F:Fz)(ps:List PV)(J:It):Prop:=∀(aa:Hp) (ab F':Fz) (st:bN) (σ:St) (H:Hp),Rep K aa ab F' st σ H->Gr F F'->∀i:Nat,
 (∀p,ps[i]?=some p->J.go i H/\∀x H',J.yld i H x H'->∃CY,Rep K aa ab CY st σ H'/\Gr F' CY/\aS K CY p x)/\(ps[i]?=none->J.stop i H)
abbrev tI(X:Cx)(aa:Hp)(ab:Fz)(f:Gx (List PV)):TI:=tX X aa ab (Walk X.K) f
def uf(r:Gx dN):dN->Gx dN
 | .nx=>r
 | .ct=>r
 | .bk=>bP .nx
 | .rt p=>bP (.rt p)
def ef(g:Tg)(body:Gx dN):List PV->Gx dN
 | []=>bP .nx
 | p::ps=>bnd (stp (g p)) λ_=>bnd body (uf (ef g body ps))
def Sa.mR{st:bN}(N:St->Hp->Prop)(hN:∀F1 aH gi H1,Rep X.K aa ab F1 aH gi H1->Gr F F1->Sa X aa ab F1 D aH r->N gi H1)(h:Sa X aa ab F D st (U.bnd fb (uf r))):Sa X aa ab F {D with nx:=N,ct:=N,bk:=D.nx} st fb :=
 At.imp (At.bnd h) (Gr.refl F) λo aH q=>match o,q with
  | .nx,q=>λF1 gi H1 R1 g1=>hN F1 aH gi H1 R1 g1 (Sa.mono q g1)
  | .ct,q=>λF1 gi H1 R1 g1=>hN F1 aH gi H1 R1 g1 (Sa.mono q g1)
  | .bk,q=>λF' bc H'=>At.bP q F' bc H'
  | .rt p,q=>λv F' H'=>At.bP q v F' H'
def kG(gc:Gx Bool)(body:Gx dN):Nat->Gx dN
 | 0=>λ_=>none
 | n+1=>bnd gc λc=>if c=true then bnd body (uf (kG gc body n))else bP .nx
def GL(n:Nat)(hp:PassesOwn (model X.prog X.w) X.A X.env X.xe)(hc:PT X c (tT X aa ab gc))(hb:PSs X body (tS X aa ab fb)):PS X (.While c body [] pos) (tS X aa ab (kG gc fb n)) :=
 (Cq hp hc hb).imp <| by
 rintro D σ H ⟨F,st,R,h⟩
 refine⟨λm bc H'=>∃F' bB,Rep X.K aa ab F' bB bc H'/\Sa X aa ab F' D bB (kG gc fb m),⟨n,F,st,R,h⟩,λm bc H' ⟨F',bB,R',h'⟩=>?_⟩
 cases m with
 | zero=>obtain⟨r,e,_⟩:=h';cases e
 | succ m =>
  refine⟨F',bB,R',Sa.bnd h' λx y F1 aH H1 R1 g1 b1 h1=>?_⟩
  cases b1;cases x with
  | false=>exact At.bP h1 F1 bc H1 R1 (Gr.refl _)
  | true=>exact⟨λym H2=>∃F2 da,Rep X.K aa ab F2 da ym H2/\Sa X aa ab F2 D da (kG gc fb m),λym H2 n2=>⟨m,kj m,n2⟩,F1,aH,R1,Sa.mR _ (λF4 Fh Jc H4 R4 g4 z=>⟨F4,Fh,R4,z⟩) h1⟩
end
def sizeOk(n:Nat)(p:PV):Option PV:=if n<=gY then some p else none
def gZ(h:sizeOk n p=some q):n<=sizeLine/\p=q:=by
 obtain⟨h1,h2⟩:=aw h;exact⟨cL h1,h2⟩
def kH(h:List aj)(p:PV):Option (List PV):=match cX h p with | some (.lst,ps)=>some ps | _=>none
def cV(e:kH h p=some ps):cX h p=some (.lst,ps):=by
 unfold kH at e;split at e
 ·grind
 ·cases e
def lC:G2:=λh p q=>match p,q with
 | .int i,.int j=>some (.int (i+j))
 | .str x,.str y=>sizeOk (x.length+y.length) (.str (x++y))
 | .nd .ak xs,.nd .ak ys=>sizeOk (xs.length+ys.length) (.ak (xs++ys))
 | p,q=>(kH h p).bind λxs=>(kH h q).bind λys=>sizeOk (xs.length+ys.length) (.lst (xs++ys))
def lD(c:Int->Int->Bool)(f:Int->Int->PV):G2:=λ_ p q=>match p,q with
 | .int i,.int j=>if c i j=true then some (f i j)else none
 | _,_=>none
def oI:Int:=18446744073709551616
def O1:G2:=lD (λ_ _=>true) λi j=>.int (i-j)
def La:G2:=lD (λi j=>decide ((-oI<i/\i<oI)\/(-oI<j/\j<oI))) λi j=>.int (i*j)
def yB:G2:=lD (λ_ j=>decide (0<j/\j<1073741824)) λi j=>.int (i/j)
def Ae:G2:=lD (λ_ j=>decide (0<j)) λi j=>.int (i%j)
def CZ:G2:=lD (λi j=>decide (0<=j/\j<=1000/\i.natAbs<1000)) λi j=>.int (i^j.toNat)
def VV:G2:=lD (λ_ _=>true) λi j=>.bl (decide (i<j))
def VW:G2:=lD (λ_ _=>true) λi j=>.bl (decide (i<=j))
def VX:G2:=lD (λ_ _=>true) λi j=>.bl (decide (j<=i))
section
variable {X:Cx}
def ug{ws:List Value}(ht:IsTup s.heap t ([]:List Value).toArray)(hb:IsTup s.heap b ws.toArray)(h1:Q (.ref b) s):wpAny (model prog w) A (binaryOp .Add (.ref t) (.ref b)) Q E s:=by
 obtain⟨⟨cls,dd,data,sl⟩,ho,hc,n,hd⟩:=id ht;obtain⟨⟨S7,RF,Ow,RG⟩,KD,Ox,n2,Oy⟩:=id hb;simp only at hc hd Ox Oy;subst hc hd Ox Oy;exact concat_meets ⟨_,ho,rfl⟩ ⟨_,KD,rfl⟩ v9 seq_tuple_add vK vJ (vC _ _) (tuple_addW0 t b _ ws.toArray n n2 dd RF sl RG (by simp)) ⟨ho,KD,h1⟩
def GN:oA X (binaryOp .Add) lC:=by
 rintro ae s σ H x y v u Q I rx ry ⟨aa,ab,F,st,τ,pa,pb,p,e,R,ba,bb,k⟩
 unfold lC at e;split at e
 ·cases e;rw[au.mp ba]at rx;rw[au.mp bb]at ry;exact Ko ae s σ H _ _ v u Q I rx ry ⟨_,_,rfl,rfl,k _ H F R (Gr.refl F) (au.mpr rfl)⟩
 ·obtain⟨hz,rfl⟩:=gZ e;rw[aX.mp ba]at rx;rw[aX.mp bb]at ry;exact wJ ae s σ H _ _ v u Q I rx ry ⟨_,_,rfl,rfl,hz,k _ H F R (Gr.refl F) (aX.mpr rfl)⟩
 ·rename_i xs ys;obtain⟨hz,rfl⟩:=gZ e;obtain⟨a,vs,rfl,ha,dU⟩:=aZ.mp ba;obtain⟨b,ws,rfl,hb,Fj⟩:=aZ.mp bb;have Lb:=aO R.sub ha;have ir:=aO R.sub hb;cases xs with
  | nil =>
   rw[dU.bC]at Lb;cases rx;cases ry;obtain⟨ai,r1,p1,_⟩:=I.tuple Lb;obtain⟨b9,r2,p2,_⟩:=I.tuple ir;cases r1;exact ug p1 p2 ⟨.ref b,H,I,rfl,k _ H F R (Gr.refl F) (aZ.mpr ⟨b,ws,rfl,hb,Fj⟩)⟩
  | cons x0 xr =>
   refine Gq ae s σ H _ _ v u Q I rx ry ⟨a,b,vs,ws,rfl,rfl,Lb,ir,?_,by rw[<-dU.length,<-Fj.length];exact hz,λz=>?_,λz q hq=>?_⟩
   ·intro z;have:=dU.length;rw[z]at this;cases this
   ·subst z;have hy:=gI Fj.length;subst hy;rw[eI]at k;exact k _ H F R (Gr.refl F) (aZ.mpr ⟨a,vs,rfl,ha,dU⟩)
   ·obtain⟨R2,s2⟩:=R.laid (.ak (vs++ws)) hq;exact k _ _ _ R2 s2 (aZ.mpr ⟨q,_,rfl,ek.of ar,(dU.append Fj).mono s2⟩)
 ·obtain⟨xs,e1,e⟩:=aD e;obtain⟨ys,e2,e⟩:=aD e;obtain⟨hz,rfl⟩:=gZ e;obtain⟨a,vs,rfl,ha,dU⟩:=R.at (cV e1) ba;obtain⟨b,ws,rfl,hb,Fj⟩:=R.at (cV e2) bb;cases rx;cases ry;obtain⟨ai,n,r,e1,z1⟩:=I.jI ha;obtain⟨b9,n2,r2,e2,z2⟩:=I.jI hb;have hl:=r.length;have RM:=r2.length;have XB:vs.length+ws.length<=sizeLine:=by rw[<-dU.length,<-Fj.length];exact hz
  refine PySem.P.add_list e1 e2 ?_ (by grind)
  have ea:ai.toArray++b9.toArray=(ai++b9).toArray:=by simp
  rw[ea];obtain⟨R2,s2⟩:=R.laid (.lst (vs++ws)) I.fresh;exact⟨.ref _,_,I.KP (r.append r2) (by grind),rfl,k _ _ _ R2 s2 (cg.mpr ⟨_,_,rfl,fJ.of ar,(dU.append Fj).mono s2⟩)⟩
def dR(ho:OpR X f (rI C h))(hc:∀i j,c i j=true->C i j)(hg:∀i j F,aS X.K F (g i j) (h i j)):oA X f (lD c g):=by
 rintro ae s σ H x y v u Q I rx ry ⟨aa,ab,F,st,τ,pa,pb,p,e,R,ba,bb,k⟩
 unfold lD at e;split at e
 ·obtain⟨h1,rfl⟩:=aw e;rw[au.mp ba]at rx;rw[au.mp bb]at ry;exact ho ae s σ H _ _ v u Q I rx ry ⟨_,_,rfl,rfl,hc _ _ h1,k _ H F R (Gr.refl F) (hg _ _ F)⟩
 ·cases e
def pP(ho:OpR X f (Fe h)):OpR X f (rI (λ_ _=>True) h):=(by rintro ae s σ H x y v u Q I rx ry ⟨i,j,h1,h2,_,q⟩;exact ho ae s σ H x y v u Q I rx ry ⟨i,j,h1,h2,q⟩)
end
def Ld:Operator->Option G2
 | .Add=>some lC
 | .Sub=>some O1
 | .Mult=>some La
 | .FloorDiv=>some yB
 | .Mod=>some Ae
 | .Pow=>some CZ
 | _=>none
def yC(h:Ld op=some g):oA X (binaryOp op) g:=by
 unfold Ld at h;split at h<;>cases h
 ·exact GN
 ·exact dR (pP Kp) (by grind) λ_ _ _=>au.mpr rfl
 ·exact dR Kq (λi j e=>show(-oI<i/\i<oI)\/(-oI<j/\j<oI)from d6 e) λ_ _ _=>au.mpr rfl
 ·exact dR F8 (λ_ j e=>show 0<j/\j<1073741824 from d6 e) λ_ _ _=>au.mpr rfl
 ·exact dR Kr (λ_ _ e=>d6 e) λ_ _ _=>au.mpr rfl
 ·exact dR Ks (λ_ _ e=>let ⟨h1,h2,h3⟩:=d6 e;⟨h1,by lia,gf h3 (by decide)⟩) λ_ _ _=>au.mpr rfl
inductive Tr where
 | aV | bl (b:Bool) | int (i:Int) | str (x:Str) | ak (xs:List Tr) | lst (xs:List Tr)
mutual
def eqT:Tr->Tr->Bool
 | .aV,.aV=>true
 | .bl a,.bl b=>a==b
 | .bl a,.int b=>(if a then 1 else 0)==b
 | .int a,.bl b=>a==(if b then 1 else 0)
 | .int a,.int b=>a==b
 | .str a,.str b=>a==b
 | .ak xs,.ak ys=>jJ xs ys
 | .lst xs,.lst ys=>jJ xs ys
 | _,_=>false
def jJ:List Tr->List Tr->Bool
 | [],[]=>true
 | x::xs,y::ys=>eqT x y&&jJ xs ys
 | _,_=>false
end
mutual
def dep:Tr->Nat
 | .ak xs=>iz xs+1
 | .lst xs=>iz xs+1
 | _=>0
def iz:List Tr->Nat
 | []=>0
 | x::xs=>max (dep x) (iz xs)
end
mutual
theorem nh:∀p:Tr,eqT p p=true
 | .aV=>rfl
 | .bl b=>iR b
 | .int b=>iR b
 | .str b=>iR b
 | .ak xs=>kJ xs
 | .lst xs=>kJ xs
theorem kJ:∀ps:List Tr,jJ ps ps=true
 | []=>rfl
 | x::xs=>mm.mpr ⟨nh x,kJ xs⟩
end
theorem jK:∀{xs ys:List Tr},xs.length≠ys.length->jJ xs ys=false
 | [],[],h=>absurd rfl h
 | [],_::_,_=>rfl
 | _::_,[],_=>rfl
 | x::xs,y::ys,h=>by show(eqT x y&&jJ xs ys)=false;rw[jK (by simpa using h),Bool.and_false]
def nj(xs ys:List Tr)(j:Nat):Bool:=match xs[j]?,ys[j]? with
 | some x,some y=>eqT x y
 | _,_=>true
theorem jL:∀{xs ys:List Tr},xs.length=ys.length->(List.range xs.length).all (nj xs ys)=jJ xs ys
 | [],[],_=>rfl
 | [],_::_,h=>by cases h
 | _::_,[],h=>by cases h
 | x::xs,y::ys,h=>by
  have ih:=jL (by simpa using h)
  rw[bX,List.range_succ_eq_map,fG,List.all_map];have e0:nj (x::xs) (y::ys) 0=eqT x y:=rfl;have e1:(nj (x::xs) (y::ys) ∘ Nat.succ)=nj xs ys:=by
   funext j
   simp[nj,Function.comp]
  rw[e0,e1,ih];rfl
def yD(h1:xs.length=m)(h2:ys.length=n):((List.range (min m n)).all (nj xs ys)&&(m==n))=jJ xs ys:=by
 subst h1 h2;by_cases h:xs.length=ys.length
 ·rw[<-h,Nat.min_self,jL h];simp
 ·rw[jK h];simp[h]
mutual
def cj(s:Shared):Tr->Value->Prop
 | .aV,u=>u=.none
 | .bl b,u=>u=.bool b
 | .int i,u=>∃t,u=.int i t
 | .str x,u=>∃t,u=.str x t
 | .ak ts,u=>∃a ai,u=.ref a/\s.heap.IsTuple a ai.toArray/\bj s ts ai
 | .lst ts,u=>∃a ai,u=.ref a/\s.heap.IsList a ai.toArray/\bj s ts ai
def bj(s:Shared):List Tr->List Value->Prop
 | [],us=>us=[]
 | t::ts,us=>∃u r,us=u::r/\cj s t u/\bj s ts r
end
section
variable {A:Around} {s:Shared}
theorem bj.len:∀{ts:List Tr} {us:List Value},bj s ts us->ts.length=us.length
 | [],_,h=>by simp only[bj]at h;rw[h];rfl
 | _::_,_,h=>by
  simp only[bj]at h;obtain⟨u,r,rfl,_,h⟩:=h;simp[bj.len h]
def iq(h1:s.heap.IsTuple a x)(h2:s.heap.IsTuple a y):x=y:=by
 obtain⟨o,e,_,n,d⟩:=h1;obtain⟨o',e',_,n',d'⟩:=h2;rw[e]at e';cases e';rw[d]at d';cases d';rfl
def jz(h1:s.heap.IsList a x)(h2:s.heap.IsList a y):x=y:=by
 obtain⟨o,e,_,n,d⟩:=h1;obtain⟨o',e',_,n',d'⟩:=h2;rw[e]at e';cases e';rw[d]at d';cases d';rfl
def nk(h1:s.heap.IsTuple a x)(h2:s.heap.IsList a y):False:=by
 obtain⟨o,e,c,n,d⟩:=h1;obtain⟨o',e',c',n',d'⟩:=h2;rw[e]at e';cases e';rw[c]at c';simp at c'
mutual
theorem cj.inj:∀{p q:Tr} {u:Value},cj s p u->cj s q u->p=q
 | .aV,q,u,h,h'=>by cases q<;>simp_all [cj]
 | .bl b,q,u,h,h'=>by cases q<;>simp_all [cj]
 | .int b,q,u,h,h'=>by
  simp only[cj]at h;obtain⟨t,rfl⟩:=h;cases q<;>simp_all [cj]
 | .str b,q,u,h,h'=>by
  simp only[cj]at h;obtain⟨t,rfl⟩:=h;cases q<;>simp_all [cj]
 | .ak xs,q,u,h,h'=>by
  simp only[cj]at h;obtain⟨a,ai,rfl,h1,h2⟩:=h;cases q with
  | ak ys =>
   simp only[cj]at h';obtain⟨b,O2,e,g1,g2⟩:=h';cases e;have:=iq h1 g1;have e:ai=O2:=by simpa using this
   subst e;rw[bj.inj h2 g2]
  | lst ys =>
   simp only[cj]at h';obtain⟨b,O2,e,g1,g2⟩:=h';cases e;exact(nk h1 g1).elim
  | _=>simp[cj]at h'
 | .lst xs,q,u,h,h'=>by
  simp only[cj]at h;obtain⟨a,ai,rfl,h1,h2⟩:=h;cases q with
  | lst ys =>
   simp only[cj]at h';obtain⟨b,O2,e,g1,g2⟩:=h';cases e;have:=jz h1 g1;have e:ai=O2:=by simpa using this
   subst e;rw[bj.inj h2 g2]
  | ak ys =>
   simp only[cj]at h';obtain⟨b,O2,e,g1,g2⟩:=h';cases e;exact(nk g1 h1).elim
  | _=>simp[cj]at h'
theorem bj.inj:∀{ps qs:List Tr} {us:List Value},bj s ps us->bj s qs us->ps=qs
 | [],qs,us,h,h'=>by
  simp only[bj]at h;subst h;cases qs with
  | nil=>rfl
  | cons _ _=>simp[bj]at h'
 | p::ps,qs,us,h,h'=>by
  simp only[bj]at h;obtain⟨u,r,rfl,h1,h2⟩:=h;cases qs with
  | nil=>simp[bj]at h'
  | cons q qs =>
   simp only[bj]at h';obtain⟨u',r',e,g1,g2⟩:=h';cases e;rw[cj.inj h1 g1,bj.inj h2 g2]
end
def nq(h:b=c)(r:SeqAt.RcAt A s u w b):SeqAt.RcAt A s u w c:=h▸r
def i5(h:b = !c)(r:SeqAt.RcNeAt A s u w b):SeqAt.RcNeAt A s u w (!c):=h▸r
def yE(hf:∀x t,u≠.float x t)(h:SeqAt.RcAt A s u w b)(hb:u=w->b=true):SeqAt.EqAt A s u w b:=λprog v E Q hq=>by
 unfold eqBool;refine cz ?_;refine wpAny_ite_split (λz=>?_) (λ_=>?_)
 ·rw[hb (aE z)]at hq;exact af (gS (ag hq))
 ·cases u with
  | float x t=>exact absurd rfl (hf x t)
  | _=>exact af (h prog v E _ (gO hq))
def cj.Jd(h:cj s p u):∀y t,u≠.float y t:=λy t z=>by
 subst z;cases p<;>simp[cj]at h
mutual
theorem rR:∀(p q:Tr) (A:Around) (u w:Value),cj s p u->cj s q w->A.units+dep p<cLine->SeqAt.RcAt A s u w (eqT p q)/\SeqAt.RcNeAt A s u w (!(eqT p q))
 | .aV,q,A,u,w,ha,hb,hu=>by
  have eR:A.units<cLine := ‹_›;subst ha;cases q with
  | aV=>cases hb;exact⟨.none_none,.none_none⟩
  | bl=>cases hb;exact⟨(.none_bool _),(.none_bool _)⟩
  | int=>obtain⟨t,rfl⟩:=hb;exact⟨(.none_int _ _),(.none_int _ _)⟩
  | str=>obtain⟨t,rfl⟩:=hb;exact⟨(.none_str _ _),(.none_str _ _)⟩
  | ak=>obtain⟨a,ai,rfl,pR,_⟩:=hb;exact⟨(.none_tuple pR eR),(.none_tuple pR eR)⟩
  | lst=>obtain⟨a,ai,rfl,pR,_⟩:=hb;exact⟨(.none_list pR eR),(.none_list pR eR)⟩
 | .bl k,q,A,u,w,ha,hb,hu=>by
  have eR:A.units<cLine := ‹_›;subst ha;cases q with
  | aV=>cases hb;exact⟨(.bool_none _),(.bool_none _)⟩
  | bl=>cases hb;exact⟨(.bool_bool _ _),(.bool_bool _ _)⟩
  | int=>obtain⟨t,rfl⟩:=hb;exact⟨(.bool_int _ _ _),(.bool_int _ _ _)⟩
  | str=>obtain⟨t,rfl⟩:=hb;exact⟨(.bool_str _ _ _),(.bool_str _ _ _)⟩
  | ak=>obtain⟨a,ai,rfl,pR,_⟩:=hb;exact⟨(.bool_tuple _ pR eR),(.bool_tuple _ pR eR)⟩
  | lst=>obtain⟨a,ai,rfl,pR,_⟩:=hb;exact⟨(.bool_list _ pR eR),(.bool_list _ pR eR)⟩
 | .int k,q,A,u,w,ha,hb,hu=>by
  have eR:A.units<cLine := ‹_›;obtain⟨tk,rfl⟩:=ha;cases q with
  | aV=>cases hb;exact⟨(.int_none _ _),(.int_none _ _)⟩
  | bl=>cases hb;exact⟨(.int_bool _ _ _),(.int_bool _ _ _)⟩
  | int=>obtain⟨t,rfl⟩:=hb;exact⟨(.int_int _ _ _ _),(.int_int _ _ _ _)⟩
  | str=>obtain⟨t,rfl⟩:=hb;exact⟨(.int_str _ _ _ _),(.int_str _ _ _ _)⟩
  | ak=>obtain⟨a,ai,rfl,pR,_⟩:=hb;exact⟨(.int_tuple _ _ pR eR),(.int_tuple _ _ pR eR)⟩
  | lst=>obtain⟨a,ai,rfl,pR,_⟩:=hb;exact⟨(.int_list _ _ pR eR),(.int_list _ _ pR eR)⟩
 | .str k,q,A,u,w,ha,hb,hu=>by
  have eR:A.units<cLine := ‹_›;obtain⟨tk,rfl⟩:=ha;cases q with
  | aV=>cases hb;exact⟨(.str_none _ _),(.str_none _ _)⟩
  | bl=>cases hb;exact⟨(.str_bool _ _ _),(.str_bool _ _ _)⟩
  | int=>obtain⟨t,rfl⟩:=hb;exact⟨(.str_int _ _ _ _),(.str_int _ _ _ _)⟩
  | str=>obtain⟨t,rfl⟩:=hb;exact⟨(.str_str _ _ _ _),(.str_str _ _ _ _)⟩
  | ak=>obtain⟨a,ai,rfl,pR,_⟩:=hb;exact⟨(.str_tuple _ _ pR eR),(.str_tuple _ _ pR eR)⟩
  | lst=>obtain⟨a,ai,rfl,pR,_⟩:=hb;exact⟨(.str_list _ _ pR eR),(.str_list _ _ pR eR)⟩
 | .ak xs,q,A,u,w,ha,hb,hu=>by
  have eR:A.units<cLine:=by lia
  obtain⟨al,GO,rfl,pL,tL⟩:=ha;cases q with
  | aV=>cases hb;exact⟨(.tuple_none pL eR),(.tuple_none pL eR)⟩
  | bl=>cases hb;exact⟨(.tuple_bool _ pL eR),(.tuple_bool _ pL eR)⟩
  | int=>obtain⟨t,rfl⟩:=hb;exact⟨(.tuple_int _ _ pL eR),(.tuple_int _ _ pL eR)⟩
  | str=>obtain⟨t,rfl⟩:=hb;exact⟨(.tuple_str _ _ pL eR),(.tuple_str _ _ pL eR)⟩
  | lst=>obtain⟨a,ai,rfl,pR,_⟩:=hb;exact⟨(.tuple_list pL pR eR),(.tuple_list pL pR eR)⟩
  | ak ys =>
   obtain⟨a,GP,rfl,pR,tR⟩:=hb;have e1:xs.length=GO.toArray.size:=by rw[bK,tL.len]
   have e2:ys.length=GP.toArray.size:=by rw[bK,tR.len]
   have el:=λj (h1:j<GO.toArray.size) (h2:j<GP.toArray.size)=>rS xs ys A.in1 GO GP tL tR (by rw[mz];have hu:_+(iz _+1)<_:=hu;lia) j (by simpa using h1) (by simpa using h2)
   exact⟨nq (yD e1 e2) (.tuples pL pR eR el),i5 (by rw[yD e1 e2];rfl) (.tuples pL pR eR el)⟩
 | .lst xs,q,A,u,w,ha,hb,hu=>by
  have eR:A.units<cLine:=by lia
  obtain⟨al,GO,rfl,pL,tL⟩:=ha;cases q with
  | aV=>cases hb;exact⟨(.list_none pL eR),(.list_none pL eR)⟩
  | bl=>cases hb;exact⟨(.list_bool _ pL eR),(.list_bool _ pL eR)⟩
  | int=>obtain⟨t,rfl⟩:=hb;exact⟨(.list_int _ _ pL eR),(.list_int _ _ pL eR)⟩
  | str=>obtain⟨t,rfl⟩:=hb;exact⟨(.list_str _ _ pL eR),(.list_str _ _ pL eR)⟩
  | ak=>obtain⟨a,ai,rfl,pR,_⟩:=hb;exact⟨(.list_tuple pL pR eR),(.list_tuple pL pR eR)⟩
  | lst ys =>
   obtain⟨a,GP,rfl,pR,tR⟩:=hb;have e1:GO.toArray.size=xs.length:=by rw[bK,tL.len]
   have e2:GP.toArray.size=ys.length:=by rw[bK,tR.len]
   by_cases hl:xs.length=ys.length
   ·have sz:GO.toArray.size=GP.toArray.size:=by rw[e1,e2];exact hl
    have el:=λj (h1:j<GO.toArray.size) (h2:j<GP.toArray.size)=>rS xs ys A.in1 GO GP tL tR (by rw[mz];have hu:_+(iz _+1)<_:=hu;lia) j (by simpa using h1) (by simpa using h2)
    exact⟨nq (by rw[e1,jL hl];rfl) (.lists pL pR sz eR el),i5 (by rw[e1,jL hl];rfl) (.lists pL pR sz eR el)⟩
   ·have sz:(GO.toArray.size != GP.toArray.size)=true:=by rw[e1,e2];simpa using hl
    exact⟨nq (jK hl).symm (.lists_lengths pL pR sz eR),i5 (d9 not (jK hl)).symm (.lists_lengths pL pR sz eR)⟩
theorem rS:∀(ps qs:List Tr) A (us zs:List Value),bj s ps us->bj s qs zs->A.units+iz ps<cLine ->
  ∀j h1 (h2:j<zs.length),SeqAt.EqAt A s us[j] zs[j] (nj ps qs j)
 | [],qs,A,us,zs,b1,b2,hu=>λj h1 h2=>by
  simp only[bj]at b1;subst b1;cases h1
 | p::ps,qs,A,us,zs,b1,b2,hu=>λj h1 h2=>by
  simp only[bj]at b1;obtain⟨u,ur,rfl,c1,d1⟩:=b1;cases qs with
  | nil =>
   simp only[bj]at b2;subst b2;cases h2
  | cons q qs =>
   simp only[bj]at b2;obtain⟨z,zr,rfl,c2,d2⟩:=b2;have hm:A.units+dep p<cLine/\A.units+iz ps<cLine:=by
    simp only[iz]at hu
    lia
   cases j with
   | zero =>
    refine yE c1.Jd (rR p q A _ _ c1 c2 hm.1).1 λe=>?_
    simp only[List.getElem_cons_zero]at e;rw[e]at c1;rw[c1.inj c2];exact nh q
   | succ j=>exact rS ps qs A _ _ d1 d2 hm.2 j (by simpa using h1) (by simpa using h2)
end
def Le(b1:cj s p u)(b2:cj s q w)(hu:A.units+dep p<cLine):SeqAt.EqAt A s u w (eqT p q):=by
 refine yE b1.Jd (rR p q A _ _ b1 b2 hu).1 λz=>?_
 rw[z]at b1;rw[b1.inj b2];exact nh q
end
def aQ{α β:Type}(f:α->Option β):List α->Option (List β)
 | []=>some []
 | x::xs=>(f x).bind λy=>(aQ f xs).map λys=>y::ys
def oB:Kd->List Tr->Option Tr
 | .ak,ts=>some (.ak ts)
 | .lst,ts=>some (.lst ts)
 | _,_=>none
def toT(h:List aj):Nat->PV->Option Tr
 | 0,_=>none
 | n+1,p=>match p with
  | .aV=>some .aV
  | .bl b=>some (.bl b)
  | .int i=>some (.int i)
  | .str x=>some (.str x)
  | .fn _=>none
  | p=>(cX h p).bind λq=>(aQ (toT h n) q.2).bind (oB q.1)
def cu(h:aQ f (x::xs)=some ys):∃y r,f x=some y/\aQ f xs=some r/\ys=y::r:=by
 obtain⟨y,h1,h2⟩:=aD h;obtain⟨r,h3,h4⟩:=aI h2;exact⟨y,r,h1,h3,h4.symm⟩
theorem rV(h:List aj):∀(n:Nat) (p:PV) (t:Tr),toT h n p=some t->dep t<=n
 | 0,_,_,e=>by cases e
 | n+1,p,t,e=>by
  have go:((cX h p).bind λq=>(aQ (toT h n) q.2).bind (oB q.1))=some t->dep t<=n+1:=λe=>by
   obtain⟨q,_,e⟩:=aD e;obtain⟨ts,e1,e2⟩:=aD e;have hd:∀ps ts,aQ (toT h n) ps=some ts->iz ts<=n:=by
    intro ps;induction ps with
    | nil=>intro ts z;cases z;simp[iz]
    | cons p ps ih =>
     intro ts z;obtain⟨y,r,h1,h2,rfl⟩:=cu z;have:=rV h n p y h1;have:=ih r h2;simp only[iz];lia
   have:=hd _ _ e1;unfold oB at e2;split at e2<;>cases e2<;>simp only[dep]<;>lia
  unfold toT at e;split at e<;>first | (cases e;simp[dep];done) | (cases e;done) | exact go e
section
variable {X:Cx} {ae:List (Addr×Obj)} {σ τ:St} {s:Shared} {aa H:Hp} {ab F:Fz} {st:bN}
theorem Rep.tree(R:Rep X.K aa ab F st τ H)(I:Inv X ae σ H s):∀(n:Nat) (p:PV) (t:Tr) (v:V) (u:Value),toT st.h n p=some t->aS X.K F p v->RelV v u->cj s t u
 | 0,_,_,_,_,e,_,_=>by cases e
 | n+1,p,t,v,u,e,b,r=>by
  have go:((cX st.h p).bind λq=>(aQ (toT st.h n) q.2).bind (oB q.1))=some t->cj s t u:=λe=>by
   obtain⟨⟨k,ps⟩,e0,e⟩:=aD e;obtain⟨ts,e1,e2⟩:=aD e;obtain⟨a,vs,rfl,h2,h3⟩:=R.at e0 b;have hd:∀ps ts vs us,aQ (toT st.h n) ps=some ts->ao X.K F ps vs->Vals vs us->bj s ts us:=by
    intro ps;induction ps with
    | nil=>intro ts vs us z b r;cases z;rw[b.bC]at r;cases r;simp[bj]
    | cons p ps ih =>
     intro ts vs us z b r;obtain⟨y,q,h1,h2,rfl⟩:=cu z;obtain⟨v,w,rfl,b1,b2⟩:=b.bh;cases r with
     | cons ra rr =>
      simp only[bj];exact⟨_,_,rfl,R.tree I n p y v _ h1 b1 ra,ih q w _ h2 b2 rr⟩
   cases r
   match k,e2,h2 with
   | .ak,e2,h2 =>
    cases e2;obtain⟨ai,rr,pl,_⟩:=I.tuple h2.2;simp only[cj];exact⟨a,ai,rfl,pl,hd _ _ _ _ e1 h3 rr⟩
   | .lst,e2,h2 =>
    cases e2;obtain⟨ai,rr,pl,_⟩:=I.list (fJ.sq h2);simp only[cj];exact⟨a,ai,rfl,pl.isList,hd _ _ _ _ e1 h3 rr⟩
  unfold toT at e;split at e
  ·cases e;rw[bZ.mp b]at r;cases r;simp[cj]
  ·cases e;rw[aN.mp b]at r;cases r;simp[cj]
  ·cases e;rw[au.mp b]at r;obtain⟨t,rfl⟩:=r;simp[cj]
  ·cases e;rw[aX.mp b]at r;obtain⟨t,rfl⟩:=r;simp[cj]
  ·cases e
  ·exact go e
end
def eS:Nat:=1000
def O3(h:List aj)(p q:PV):Option Bool:=(toT h eS p).bind λx=>(toT h eS q).map λy=>eqT x y
def yF:G2:=λh p q=>(O3 h p q).map .bl
def Je:G2:=λh p q=>(O3 h p q).map λb=>.bl !b
def k7:PV->Bool
 | .aV=>true
 | _=>false
def TC(b:Bool):PV->Option Bool
 | .bl a=>some (a==b)
 | _=>none
def uh(h:TC b p=some c):∃a,p=.bl a/\c=(a==b):=by
 cases p<;>cases h
 exact⟨_,rfl,rfl⟩
def RN:G2:=λ_ p q=>match q with | .aV=>some (.bl (k7 p)) | .bl b=>(TC b p).map .bl | _=>none
def TF(h:List aj)(p:PV)(ps:List PV):Option Bool:=(toT h eS p).bind λx=>(aQ (toT h eS) ps).map λys=>ys.any λy=>eqT y x
section
variable {X:Cx}
def ui(e:O3 h p q=some b):∃x y,toT h eS p=some x/\toT h eS q=some y/\b=eqT x y:=by
 obtain⟨x,e1,e⟩:=aD e;obtain⟨y,e2,e3⟩:=aI e;exact⟨x,y,e1,e2,e3.symm⟩
def Lf(hu:X.A.units+1150<cLine):oA X (compareOp .Eq) yF:=by
 rintro ae s σ H x y v u Q I rx ry ⟨aa,ab,F,st,τ,pa,pb,p,e,R,ba,bb,k⟩
 obtain⟨b,e',rfl⟩:=aI e;obtain⟨ta,tb,e1,e2,rfl⟩:=ui e';have hd:=rV _ _ _ _ e1;exact(rR ta tb X.A v u (R.tree I _ _ _ _ _ e1 ba rx) (R.tree I _ _ _ _ _ e2 bb ry) (by unfold eS at hd;lia)).1 X.prog X.w X.xe _ ⟨.bl _,H,I,rfl,k _ H F R (Gr.refl F) (aN.mpr rfl)⟩
def Lg(hu:X.A.units+1150<cLine):oA X (compareOp .NotEq) Je:=by
 rintro ae s σ H x y v u Q I rx ry ⟨aa,ab,F,st,τ,pa,pb,p,e,R,ba,bb,k⟩
 obtain⟨b,e',rfl⟩:=aI e;obtain⟨ta,tb,e1,e2,rfl⟩:=ui e';have hd:=rV _ _ _ _ e1;exact(rR ta tb X.A v u (R.tree I _ _ _ _ _ e1 ba rx) (R.tree I _ _ _ _ _ e2 bb ry) (by unfold eS at hd;lia)).2 X.prog X.w X.xe _ ⟨.bl _,H,I,rfl,k _ H F R (Gr.refl F) (aN.mpr rfl)⟩
def yG{K:W.Frag}(b:aS K F p x):decide (x=.aV)=k7 p:=by
 cases p with
 | aV=>rw[bZ.mp b];rfl
 | bl _=>rw[aN.mp b];rfl
 | int _=>rw[au.mp b];rfl
 | str _=>rw[aX.mp b];rfl
 | ref _=>obtain⟨_,_,rfl⟩:=cU.mp b;rfl
 | fn _=>obtain⟨_,rfl,_⟩:=kD.mp b;rfl
 | nd _ _=>obtain⟨_,_,rfl,_⟩:=gh.mp b;rfl
def Lh:oA X (compareOp .Is) RN:=by
 rintro ae s σ H x y v u Q I rx ry ⟨aa,ab,F,st,τ,pa,pb,p,e,R,ba,bb,k⟩
 unfold RN at e;split at e
 ·cases e;exact Ku ae s σ H x y v u Q I rx ry ⟨bZ.mp bb,k _ H F R (Gr.refl F) (aN.mpr (by rw[yG ba]))⟩
 ·rename_i b;obtain⟨c,e1,rfl⟩:=aI e;obtain⟨a,rfl,rfl⟩:=uh e1;rw[aN.mp ba]at rx;rw[aN.mp bb]at ry;cases rx;cases ry;exact wpAny_is_plain rfl ⟨.bl _,H,I,(by cases a<;>cases b<;>rfl),k _ H F R (Gr.refl F) (aN.mpr rfl)⟩
 ·cases e
open Classical in
noncomputable def iA (s:Shared) (p:Tr) (u:Value):Bool:=if h:∃q,cj s q u then eqT h.choose p else false
def rW(b:cj s q u):iA s p u=eqT q p:=by
 have h:∃q,cj s q u:=⟨q,b⟩
 unfold iA;rw[dif_pos h,cj.inj h.choose_spec b]
theorem rX:∀{ts:List Tr} {us:List Value},bj s ts us->us.any (iA s p)=ts.any λy=>eqT y p
 | [],_,b=>by simp only[bj]at b;subst b;rfl
 | q::ts,_,b=>by
  simp only[bj]at b;obtain⟨u,r,rfl,c1,d1⟩:=b;rw[ko,ko,rW c1,rX d1]
theorem lR(bp:cj s p w):∀{ts:List Tr} {us:List Value},bj s ts us->A.units+iz ts<cLine->∀u∈us,SeqAt.EqAt A s u w (iA s p u)
 | [],_,b,_=>λu hu=>by simp only[bj]at b;subst b;cases hu
 | q::ts,_,b,hz=>λu hu=>by
  simp only[bj]at b;obtain⟨u',r,rfl,c1,d1⟩:=b;simp only[iz]at hz;rcases aY.mp hu with rfl | hu
  ·rw[rW c1];exact Le c1 bp (by lia)
  ·exact lR bp d1 (by lia) u hu
theorem Rep.trees{st:bN}(R:Rep X.K aa ab F st τ H)(I:Inv X ae σ H s)(n:Nat):∀(ps:List PV) (ts:List Tr) (vs:List V) (us:List Value),aQ (toT st.h n) ps=some ts->ao X.K F ps vs->Vals vs us->bj s ts us/\iz ts<=n
 | [],ts,vs,us,z,b,r=>by cases z;rw[b.bC]at r;cases r;simp[bj,iz]
 | p::ps,ts,vs,us,z,b,r=>by
  obtain⟨y,q,h1,h2,rfl⟩:=cu z;obtain⟨v,w,rfl,b1,b2⟩:=b.bh;cases r with
  | cons ra rr =>
   obtain⟨h3,h4⟩:=R.trees I n ps q w _ h2 b2 rr;have:=rV _ _ _ _ h1;simp only[iz];exact⟨⟨_,_,rfl,R.tree I n p y v _ h1 b1 ra,h3⟩,by lia⟩
def C1(e:TF h p ps=some b):∃x ys,toT h eS p=some x/\aQ (toT h eS) ps=some ys/\b=ys.any λy=>eqT y x:=by
 obtain⟨x,e1,e⟩:=aD e;obtain⟨y,e2,e3⟩:=aI e;exact⟨x,y,e1,e2,e3.symm⟩
def C2(hu:X.A.units+1150<cLine){st:bN}(I:Inv X ae σ H s)(rx:RelV x v)(ry:RelV y u)(R:Rep X.K aa ab F st τ H)(ba:aS X.K F pa x)(bb:aS X.K F pb y)
  (es:CU st.h pb=some ps) (eb:TF st.h pa ps=some b) :
  (Q (.bl b) H->wpAny (model X.prog X.w) X.A (compareOp .In v u) (EP X ae σ Q) X.xe s)/\(Q (.bl !b) H->wpAny (model X.prog X.w) X.A (compareOp .NotIn v u) (EP X ae σ Q) X.xe s):=by
 obtain⟨t,ts,e1,e2,rfl⟩:=C1 eb;obtain⟨a,vs,rfl,hs,hb⟩:=R.seq es bb;have tp:=R.tree I _ _ _ _ _ e1 ba rx;cases ry;rcases hs with hs | hs
 ·obtain⟨ai,r,pl,_⟩:=I.tuple hs;obtain⟨h1,h2⟩:=R.trees I _ _ _ _ _ e2 hb r;have ml:=λw (hw:w∈ai.toArray)=>lR (A:=X.A.in1) tp h1 (by rw[mz];unfold eS at h2;lia) w (by grind)
  have ea:ai.toArray.any (iA s t)=ts.any λy=>eqT y t:=by rw[show ai.toArray.any (iA s t)=ai.any (iA s t) by simp,rX h1]
  exact⟨λq=>SeqAt.in_tupleAt (iA s t) pl ml ⟨.bl _,H,I,rfl,by grind⟩,λq=>SeqAt.notIn_tupleAt (iA s t) pl ml ⟨.bl _,H,I,rfl,by grind⟩⟩
 ·obtain⟨ai,r,pl,_⟩:=I.list hs.sq;obtain⟨h1,h2⟩:=R.trees I _ _ _ _ _ e2 hb r;have ml:=λw (hw:w∈ai.toArray)=>lR (A:=X.A.in1) tp h1 (by rw[mz];unfold eS at h2;lia) w (by grind)
  have ea:ai.toArray.any (iA s t)=ts.any λy=>eqT y t:=by rw[show ai.toArray.any (iA s t)=ai.any (iA s t) by simp,rX h1]
  exact⟨λq=>SeqAt.in_listAt (iA s t) pl.isList ml ⟨.bl _,H,I,rfl,by grind⟩,λq=>SeqAt.notIn_listAt (iA s t) pl.isList ml ⟨.bl _,H,I,rfl,by grind⟩⟩
end
section
variable {K:W.Frag} {F:Fz}
def ao.mZ{ps:List PV}{vs:List V}{i:Int}{p:PV}(h:ao K F ps vs)(e:L2.mZ ps i=some p):∃v,L2.mZ vs i=some v/\aS K F p v:=by
 unfold L2.mZ at e ⊢;rw[<-h.length];cases z:Fg ps.length i with
 | none=>rw[z]at e;cases e
 | some j =>
  rw[z]at e;exact h.get e
def gk(xs:List PV)(lo hi:Option Int):List PV:=(xs.drop (HT.cZ xs.length 0 lo)).take (HT.cZ xs.length xs.length hi-HT.cZ xs.length 0 lo)
def ao.VY{ps:List PV}{vs:List V}(h:ao K F ps vs)(lo hi:Option Int):ao K F (gk ps lo hi) (t5 vs lo hi):=by
 unfold gk t5;rw[h.length];exact(h.drop _).take _
def bU{p:PV}{vs:List V}(b:ao K F [p] vs):∃v,vs=[v]/\aS K F p v:=by
 obtain⟨v,r,rfl,c,d⟩:=b.bh;rw[d.bC];exact⟨v,rfl,c⟩
def jM{p q:PV}{vs:List V}(b:ao K F [p,q] vs):∃v w,vs=[v,w]/\aS K F p v/\aS K F q w:=by
 obtain⟨v,r,rfl,c,d⟩:=b.bh;obtain⟨w,rfl,e⟩:=bU d;exact⟨v,w,rfl,c,e⟩
end
def jN{prog:Program}{w:World}{A:Around}{E:Value->Shared->Prop}{s:Shared}{t sl:Addr}{ai:Array Value}{vl vu:Value}{lo hi:Option Int}{Q:Value->Shared->Prop}(ht:IsTup s.heap t ai)(hs:s.heap.IsSliceOf sl vl vu .none)(pl:IsPart vl lo)(pu:IsPart vu hi)
  (h0:HT.cZ ai.size 0 lo=0) (h1:HT.cZ ai.size ai.size hi=ai.size) (h:Q (.ref t) s):wpAny (model prog w) A (getItem (.ref t) (.ref sl)) Q E s:=by
 obtain⟨os,Ff,RH,IY⟩:=id hs;have hT:s.TypeIs (.ref sl) "slice":=⟨os,Ff,RH⟩;unfold getItem
 try with_reducible refine cz ?_
 first | refine af (ag ?_) | skip
 refine af (wpAny_sequenceKey ht.typeIs (by decide) ?_)
 refine af (d0 ht.typeIs j8 (d7 j8 ht.typeIs entry_tuple_getitem ?_ (args_tuple_getitem _ _)));show wpAny _ _ (Builtin.Tuple.tupleItemsOf (.ref t) >>= _) _ _ s;refine af (tupleItemsOf_ ht (af (iW hT ?_)));refine af (HT.fL hs pl pu ?_);have hc:(((HT.cZ ai.size 0 lo:Nat):Int)==0&&(1:Int)==1&&(HT.cZ ai.size ai.size hi-HT.cZ ai.size 0 lo)==ai.size)=true:=by
  rw[h0,h1];simp
 show wpAny _ _ (if(((HT.cZ ai.size 0 lo:Nat):Int)==0&&1==1&&(HT.cZ ai.size ai.size hi-HT.cZ ai.size 0 lo)==ai.size)=true then _ else _) _ _ s
 rw[if_pos hc];unfold Builtin.Tuple.tupleIsExact;refine af (af (iW ht.typeIs (ag ?_)));exact af (gS (ag ⟨_,rfl,ag h⟩))
def GQ(h:List aj)(lo hi:Option Int)(p:PV):Option PV:=match cX h p with
 | some (.lst,ps)=>some (.lst (gk ps lo hi))
 | some (.ak,ps)=>some (.ak (gk ps lo hi))
 | _=>none
section
variable {X:Cx} {aa:Hp} {ab:Fz} {a b e:Expr} {es:List Expr} {fa fb:Gx PV} {ts:Gx (List PV)} {pos p1 p2:Pos} {lo hi:Option Expr}
def XC(K:W.Frag):V->Option Int->Option Int->Hp->VK->Prop:=λx lo hi H Q=>∃aa ab F st τ pa p,GQ st.h lo hi pa=some p/\Rep K aa ab F st τ H/\aS K F pa x/\∀v H' F',Rep K aa ab F' st τ H'->Gr F F'->aS K F' p v->Q v H'
def XD:RI X (XC X.K):=by
 rintro ae s σ H x v vl vu lo hi sl Q I rx hs pl pu ⟨aa,ab,F,st,τ,pa,p,e,R,ba,k⟩
 unfold GQ at e;split at e
 ·rename_i z;cases e;obtain⟨a,vs,rfl,ha,dU⟩:=R.at z ba;refine Gv ae s σ H _ v vl vu lo hi sl Q I rx hs pl pu ⟨a,vs,rfl,fJ.sq ha,λq hq=>?_⟩
  obtain⟨R2,s2⟩:=R.laid (.lst (t5 vs lo hi)) hq;exact k _ _ _ R2 s2 (cg.mpr ⟨q,_,rfl,fJ.of ar,(dU.VY lo hi).mono s2⟩)
 ·rename_i ps z;cases e;cases pa with
  | nd kk pp =>
   cases z;obtain⟨a,vs,rfl,ha,dU⟩:=aZ.mp ba;by_cases hw:HT.cZ vs.length 0 lo=0/\HT.cZ vs.length vs.length hi=vs.length
   ·cases rx;obtain⟨ai,r,ht,hz⟩:=I.tuple (aO R.sub ha);have cS:ai.toArray.size=vs.length:=by rw[bK];exact r.length.symm
    refine⟨"tuple",_,j8.lookup,ht.typeIs,?_⟩;refine jN ht hs pl pu (by grind) (by grind) ⟨.ref a,H,I,rfl,k _ H F R (Gr.refl F) ?_⟩
    have hc:gk ps lo hi=ps:=by
     unfold gk;rw[dU.length,hw.1,hw.2,List.drop_zero,Nat.sub_zero,<-dU.length,qR]
    rw[hc];exact ba
   ·refine KI ae s σ H _ v vl vu lo hi sl Q I rx hs pl pu ⟨a,vs,rfl,aO R.sub ha,hw,λq hq=>?_⟩
    obtain⟨R2,s2⟩:=R.laid (.ak (t5 vs lo hi)) hq;exact k _ _ _ R2 s2 (aZ.mpr ⟨q,_,rfl,ek.of ar,(dU.VY lo hi).mono s2⟩)
  | ref n =>
   obtain⟨c,e1,e2⟩:=aD z;obtain⟨hl,e3⟩:=aw e2;have hk:c.k=.ak:=by grind
   unfold live at hl;rw[hk]at hl;cases hl
  | _=>cases z
 ·cases e
abbrev GR(X:Cx)(aa:Hp)(ab:Fz)(f:Gx (Option Int)):TO:=tX X aa ab (λ_ a b=>a=b) f
def _root_.L2.PO.imp{X:Cx}{e:Option Expr}{t t':TO}(h:PO X e t)(hi:∀σ H Q,t' σ H Q->t σ H Q):PO X e t':=λae s σ H Q I hw=>h ae s σ H Q I (hi _ _ _ hw)
def oJ:PV->Option Int | .int i=>some i | _=>none
def dO{p:PV}{i:Int}(h:oJ p=some i):p=.int i:=by
 cases p<;>first | (cases h;rfl) | cases h
def C3(fe:Gx PV):Gx (Option Int):=bnd fe λp=>ez ((oJ p).map some)
def Li:PO X none (GR X aa ab (bP none)):=Gn.imp λσ H Q h=>rO h λ_=>rfl
def Lj(h:PE X e (tE X aa ab fa)):PO X (some e) (GR X aa ab (C3 fa)):=(Gp h).imp λσ H Q ⟨F,st,R,h⟩=>⟨F,st,R,h.bnd λp v F1 aH H1 R1 g1 b1 h1=>by
 obtain⟨o,e,z⟩:=h1.ez;obtain⟨i,e1,rfl⟩:=aI e;rw[dO e1]at b1;exact⟨i,au.mp b1,z _ H1 F1 R1 (Gr.refl _) rfl⟩⟩
def cutE(fa:Gx PV)(fl fh:Gx (Option Int)):Gx PV:=bnd fa λp=>bnd fl λl=>bnd fh λr=>hp λh=>GQ h l r p
def O4{fl fh:Gx (Option Int)}(ha:PE X e (tE X aa ab fa))(hl:PO X lo (GR X aa ab fl))(hh:PO X hi (GR X aa ab fh)):PE X (.Subscript e (.Slice lo hi none p2) pos) (tE X aa ab (cutE fa fl fh)):=(CF XD ha hl hh).imp λσ H Q ⟨F,st,R,h⟩ =>
 ⟨F,st,R,h.bnd λp v F1 aH H1 R1 g1 b1 h1=>⟨F1,aH,R1,h1.bnd λl l' F2 da H2 R2 g2 b2 h2=>⟨F2,da,R2,h2.bnd λr r' F3 FZ H3 R3 g3 b3 h3=>by
  cases b2;cases b3;obtain⟨o,e,z⟩:=h3.hp;exact⟨aa,ab,F3,FZ,σ,p,o,e,R3,b1.mono (g2.trans g3),z⟩⟩⟩⟩
abbrev GC:=List aj->List PV->Option PV
def rC(K:W.Frag)(g:GC):List V->Hp->VK->Prop:=λxs H Q=>∃aa ab F st τ ps p,g st.h ps=some p/\Rep K aa ab F st τ H/\ao K F ps xs/\∀v H' F',Rep K aa ab F' st τ H'->Gr F F'->aS K F' p v->Q v H'
abbrev w5(X:Cx)(f:Value)(g:GC):Prop:=iG X f (rC X.K g)
def w6(g:GC)(ts:Gx (List PV)):Gx PV:=bnd ts λps=>hp λh=>g h ps
def gm{g:GC}{σ:St}{H:Hp}{Q:VK}(h:tE X aa ab (w6 g ts) σ H Q):S6 (rC X.K g) (tA X aa ab ts) σ H Q:=by
 obtain⟨F,st,R,h⟩:=h;refine⟨F,st,R,h.bnd λps vs F1 aH H1 R1 g1 b1 h1=>?_⟩
 obtain⟨o,e,z⟩:=h1.hp;exact⟨aa,ab,F1,aH,σ,ps,o,e,R1,b1,z⟩
def VZ(h:List aj)(p:PV):Option Nat:=match cX h p with
 | some (.ak,ps)=>some ps.length
 | some (.lst,ps)=>some ps.length
 | some (.dZ _ ks,_)=>some ks.length
 | _=>none
def jF:GC:=λh ps=>match ps with
 | [.str z]=>if z.length<=gY then some (.int z.length)else none
 | [p]=>(VZ h p).map λn=>.int n
 | _=>none
def C4:GC:=λh ps=>match ps with
 | [.nd .ak qs]=>some (.ak qs)
 | [p]=>(kH h p).map λqs=>.ak qs
 | _=>none
def C5:GC:=λ_ ps=>match ps with
 | [.int i]=>some (.int i)
 | [.bl b]=>some (.int (if b then 1 else 0))
 | _=>none
def GS:GC:=λ_ ps=>match ps with
 | [.int i]=>if 0<=i/\i<1000 then some (.str (toString i))else none
 | _=>none
def C6(ps:List PV):Option (List Int):=aQ oJ ps
def GU:GC:=λh ps=>match ps with
 | [p]=>(kH h p).bind λqs=>(C6 qs).map λns=>.int ns.sum
 | _=>none
def uj{A:Around}{E:Value->Shared->Prop}{s:Shared}{d:Addr}{o:Obj}{es:Array DictEntry}{ep n:Nat}{Q:Value->Shared->Prop}(hd:(d==sysModules)=false)(ho:s.heap.get? d=some o)(hc:o.ExactDict)(kK:o.data=.dict es ep)(hn:es.size=n)(O5:(n:Int)<2^63)
  (h:Q (.int n (s.toks+1)) {s with toks:=s.toks+1+1}):wpAny (model X.prog X.w) A (call (.builtin "len") [.ref d]) Q E s:=by
 have ty:s.TypeIs (.ref d) "dict":=⟨o,ho,hc.1⟩;have hm:MeetsIn X.prog X.w (Builtin.«dict.__len__» ⟨[.ref d],[]⟩) (λ_ R s'=>s'.heap.get? d=some o/\R (.ok (.ret (.int n s'.toks))) {s' with toks:=s'.toks+1}):=.of_wp <| by
  rintro A R s' ⟨mP,hR⟩
  show wpAny _ _ (dictSize d >>= _) _ _ s';refine af (af (vU mP kK (ag ?_)));refine af (wpAny_pendingCount_other hd ?_);refine wpAny_ret_mkInt ?_;rw[Nat.add_zero,hn];exact hR
 refine Calls.call_function_entry kind_len plain_len entry_len (args_len1 _) ?_;refine af (ag ?_);refine af (d0 ty F.slot_dict_len (call_meetsIn F.slot_dict_len ty F.entry_dict_len (F.args_dict_len_1 _) hm ⟨ho,?_⟩));show wpAny _ _ _ _ _ {s with toks:=s.toks+1}
 refine af (cz (ag ?_));refine af (kx ?_);show wpAny _ _ (if((n:Nat):Int)>=2^63 then _ else _) _ _ _
 rw[if_neg (by lia)]
 exact af (wpAny_mkInt (ag ⟨_,rfl,h⟩))
def yH{n:Nat}(h:n<=sizeLine):(n:Int)<2^63:=by
 have h1:n<=2^62:=aL h (by decide)
 have Y4:2^62=4611686018427387904:=by decide
 lia
def GV{ae:List (Addr×Obj)}{s:Shared}{σ:St}{H:Hp}{a:Addr}{t:Bool}{ks:List (List b8)}{vs:List V}{us:List Value}{Q:VK}{F:Hp}(I:Inv X ae σ H s)(rs:Vals [V.ref a] us)(h:iY X.K F H a false (.dZ t ks) vs)(q:Q (.int ks.length) H):wpAny (model X.prog X.w) X.A (call (.builtin "len") us) (λu s'=>∃v H',Inv X ae σ H' s'/\RelV v u/\Q v H') X.xe s:=by
 obtain⟨u,rfl,ru⟩:=gy rs;cases ru;cases t with
 | false =>
  obtain⟨kvs,h1,h2,h3⟩:=h;obtain⟨z,y,ws,hk,o,es,ep,g1,g2,g3,g4,g5,g6⟩:=(I.hok a _ h1);have hl:ks.length=kvs.length:=by grind
  have hn:es.size=ks.length:=by rw[hl,gQ hk,<-g5.length,kd]
  exact uj y g1 g2 g3 hn (yH (by grind)) ⟨.int ks.length,H,I.tok _,⟨_,rfl⟩,q⟩
 | true =>
  obtain⟨xs,h1,_,h2,_⟩:=h;obtain⟨z,y,o,es,ep,g1,g2,g3,g4,g5⟩:=(I.hok a _ h1);have hl:ks.length=xs.length:=by grind
  exact uj y g1 g2 g3 (by rw[<-kd,g4,ah,hl]) (yH (by grind)) ⟨.int ks.length,H,I.tok _,⟨_,rfl⟩,q⟩
def Af:w5 X (.builtin "len") jF:=by
 rintro ae s σ H xs us Q I rs ⟨aa,ab,F,st,τ,ps,p,e,R,bs,k⟩
 unfold jF at e;split at e
 ·obtain⟨hz,rfl⟩:=aw e;obtain⟨v,rfl,b⟩:=bU bs;rw[aX.mp b]at rs;exact rM ae s σ H _ us Q I rs ⟨_,rfl,cL hz,k _ H F R (Gr.refl F) (au.mpr rfl)⟩
 ·obtain⟨n,e1,rfl⟩:=aI e;obtain⟨v,rfl,b⟩:=bU bs;unfold VZ at e1;split at e1
  ·rename_i z;cases e1;obtain⟨a,vs,rfl,ha,dU⟩:=R.at z b;exact jE ae s σ H _ us Q I rs ⟨a,vs,rfl,.inr ha.2,k _ H F R (Gr.refl F) (au.mpr (by rw[dU.length]))⟩
  ·rename_i z;cases e1;obtain⟨a,vs,rfl,ha,dU⟩:=R.at z b;exact jE ae s σ H _ us Q I rs ⟨a,vs,rfl,.inl (fJ.sq ha),k _ H F R (Gr.refl F) (au.mpr (by rw[dU.length]))⟩
  ·rename_i z;cases e1;obtain⟨a,vs,rfl,ha,dU⟩:=R.at z b;exact GV I rs ha (k _ H F R (Gr.refl F) (au.mpr rfl))
  ·cases e1
 ·cases e
def Ag:w5 X (.type "tuple") C4:=by
 rintro ae s σ H xs us Q I rs ⟨aa,ab,F,st,τ,ps,p,e,R,bs,k⟩
 unfold C4 at e;split at e
 ·cases e;obtain⟨v,rfl,b⟩:=bU bs;obtain⟨a,vs,rfl,ha,dU⟩:=aZ.mp b;exact iH ae s σ H _ us Q I rs ⟨a,vs,rfl,.inr ⟨aO R.sub ha,k _ H F R (Gr.refl F) b⟩⟩
 ·obtain⟨qs,e1,rfl⟩:=aI e;obtain⟨v,rfl,b⟩:=bU bs;obtain⟨a,vs,rfl,ha,dU⟩:=R.at (cV e1) b;refine iH ae s σ H _ us Q I rs ⟨a,vs,rfl,.inl ⟨fJ.sq ha,λq hq=>?_⟩⟩
  obtain⟨R2,s2⟩:=R.laid (.ak vs) hq;exact k _ _ _ R2 s2 (aZ.mpr ⟨q,_,rfl,ek.of ar,dU.mono s2⟩)
 ·cases e
def Ah:w5 X (.type "int") C5:=by
 rintro ae s σ H xs us Q I rs ⟨aa,ab,F,st,τ,ps,p,e,R,bs,k⟩
 unfold C5 at e;split at e
 ·cases e;obtain⟨v,rfl,b⟩:=bU bs;rw[au.mp b]at rs;exact px ae s σ H _ us Q I rs (.inl ⟨_,rfl,k _ H F R (Gr.refl F) (au.mpr rfl)⟩)
 ·cases e;obtain⟨v,rfl,b⟩:=bU bs;rw[aN.mp b]at rs;exact px ae s σ H _ us Q I rs (.inr ⟨_,rfl,k _ H F R (Gr.refl F) (au.mpr rfl)⟩)
 ·cases e
def Ai:w5 X (.type "str") GS:=by
 rintro ae s σ H xs us Q I rs ⟨aa,ab,F,st,τ,ps,p,e,R,bs,k⟩
 unfold GS at e;split at e
 ·rename_i i;obtain⟨⟨h0,h1⟩,rfl⟩:=aw e;obtain⟨v,rfl,b⟩:=bU bs;rw[au.mp b]at rs;exact rJ ae s σ H _ us Q I rs ⟨i,rfl,(by
   by_cases h:i.natAbs=0
   ·simp_all
   ·exact mq (Nat.log2_le_self _) (by lia)),k _ H F R (Gr.refl F) (aX.mpr rfl)⟩
 ·cases e
theorem uk{K:W.Frag}{F:Fz}:∀{ps:List PV} {ns:List Int} {vs:List V},C6 ps=some ns->ao K F ps vs->vs=ns.map V.int
 | [],ns,vs,h,b=>by cases h;exact b.bC
 | p::r,ns,vs,h,b=>by
  obtain⟨i,ms,h1,h2,rfl⟩:=cu h;obtain⟨v,vr,rfl,c,d⟩:=b.bh;rw[dO h1]at c;rw[au.mp c,uk h2 d];rfl
def GW{ae:List (Addr×Obj)}{σ:St}{H:Hp}{s:Shared}{F:Fz}(I:Inv X ae σ H s){a:Addr}{vs:List V}{ps:List PV}{ns:List Int}(hn:C6 ps=some ns)(ha:fJ X.K H a vs)(dU:ao X.K F ps vs) :
  ∃xs:Array (Int×Tok),s.heap.IsList a (intItems xs)/\ns=xs.toList.map (·.1):=by
 obtain⟨ai,r,pl,_⟩:=I.list ha.sq;have ev:=uk hn dU;subst ev;have hi:=wU r;obtain⟨xs,ex⟩:=hi.allInts.items;exact⟨xs,by rw[<-ex];exact pl.isList,by rw[<-hi.numsOf,<-nums_intItems,<-ex]⟩
def Aj(hc:X.A.handled=none):w5 X (.builtin "sum") GU:=by
 rintro ae s σ H xs us Q I rs ⟨aa,ab,F,st,τ,ps,p,e,R,bs,k⟩
 unfold GU at e;split at e
 ·obtain⟨qs,e1,e⟩:=aD e;obtain⟨ns,e2,rfl⟩:=aI e;obtain⟨v,rfl,b⟩:=bU bs;obtain⟨a,vs,rfl,ha,dU⟩:=R.at (cV e1) b;obtain⟨xs,hl,hn⟩:=GW I e2 ha dU;obtain⟨u,rfl,ru⟩:=gy rs;cases ru;refine sum_intListG hc hl λh' tk t' hk=>⟨.int ns.sum,H,I.kept hk,⟨t',?_⟩,k _ H F R (Gr.refl F) (au.mpr rfl)⟩
  rw[preSum_eq,j9 (by simp),hn]
 ·cases e
inductive Ty where
 | int | str | bool | tuple | list
def Ty.nm:Ty->String
 | .int=>"int" | .str=>"str" | .bool=>"bool" | .tuple=>"tuple" | .list=>"list"
def O6(h:List aj):PV->Option String
 | .aV=>some "NoneType"
 | .bl _=>some "bool"
 | .int _=>some "int"
 | .str _=>some "str"
 | p=>match cX h p with
  | some (.ak,_)=>some "tuple"
  | some (.lst,_)=>some "list"
  | _=>none
def Lk(t:Ty)(y:String):Bool:=y==t.nm || (t.nm=="int"&&y=="bool")
def TJ(t:Ty)(fa:Gx PV):Gx PV:=bnd fa λp=>hp λh=>(O6 h p).map λy=>.bl (Lk t y)
def XE(K:W.Frag)(t:Ty):List V->Hp->VK->Prop:=λxs H Q=>∃aa ab F st τ p x y,xs=[x,.ty t.nm]/\Rep K aa ab F st τ H/\aS K F p x/\O6 st.h p=some y/\Q (.bl (Lk t y)) H
def GX(t:Ty):iG X (.builtin "isinstance") (XE X.K t):=by
 rintro ae s σ H xs us Q I rs ⟨aa,ab,F,st,τ,p,x,y,ex,R,b,ey,q⟩
 subst ex;obtain⟨u,w,rfl,ru,Gu⟩:=yp rs;cases Gu;have gT:∀tk,EP X ae σ Q (.bool (Lk t y)) {s with toks:=tk}:=λtk=>⟨.bl _,H,I.tok tk,rfl,q⟩
 have more:(match cX st.h p with
  | some (.ak,_)=>some "tuple"
  | some (.lst,_)=>some "list"
  | _=>none)=some y->wpAny (model X.prog X.w) X.A (call (.builtin "isinstance") [u,.type t.nm]) (EP X ae σ Q) X.xe s:=λey=>by
  split at ey
  ·rename_i z;cases ey;obtain⟨a,vs,rfl,h2,h3⟩:=R.at z b;cases ru;obtain⟨ai,_,⟨o,h1,h2,_⟩,_⟩:=I.tuple h2.2;exact W.kia_one W.kitx_tuple I.mO ⟨o,h1,h2⟩ (by cases t<;>kernel_rfl) (λz=>nomatch z) gT
  ·rename_i z;cases ey;obtain⟨a,vs,rfl,h2,h3⟩:=R.at z b;cases ru;obtain⟨ai,n,_,h1,_⟩:=I.jI h2;exact W.kia_one W.kitx_list I.mO ⟨_,h1,rfl⟩ (by cases t<;>kernel_rfl) (λz=>nomatch z) gT
  ·cases ey
 cases p with
 | aV =>
  cases ey;rw[bZ.mp b]at ru;cases ru;exact W.kia_one W.kitx_none I.mO True.intro (by cases t<;>kernel_rfl) (λz=>nomatch z) gT
 | bl y =>
  cases ey;rw[aN.mp b]at ru;cases ru;exact W.kia_one W.kitx_bool I.mO True.intro (by cases t<;>kernel_rfl) (λz=>nomatch z) gT
 | int i =>
  cases ey;rw[au.mp b]at ru;obtain⟨tk,rfl⟩:=ru;exact W.kia_one W.kitx_int I.mO True.intro (by cases t<;>kernel_rfl) (λz=>nomatch z) gT
 | str y =>
  cases ey;rw[aX.mp b]at ru;obtain⟨tk,rfl⟩:=ru;exact W.kia_one W.kitx_str I.mO True.intro (by cases t<;>kernel_rfl) (λz=>nomatch z) gT
 | ref n=>exact more ey
 | fn x=>exact more ey
 | nd k ps=>exact more ey
def lE:bootBuiltins "isinstance"=some (.builtin "isinstance"):=by kernel_rfl
def gq(t:Ty):bootBuiltins (Str.ofString t.nm)=some (.type t.nm):=by cases t<;>kernel_rfl
def XF:List Ty:=[.int,.str,.bool,.tuple,.list]
def yI(x:Str):Option Ty:=XF.find? λt=>x==Str.ofString t.nm
def C7{x:Str}{t:Ty}(h:yI x=some t):x=Str.ofString t.nm:=by
 have:=List.find?_some h;exact aE this
def TK{x:Str}{t:Ty}(ht:yI x=some t)(hg:Gl X "isinstance")(hm:X.mg "isinstance"=none)(XG:Gl X x)(TL:X.mg x=none)(ha:PE X a (tE X aa ab fa))(hs:∀es,starEach (a::es) X.env=(false,eval a X.env)::starEach es X.env) :
  PE X (.Call (.Name "isinstance" p1) [a,.Name x p2] [] pos) (tE X aa ab (TJ t fa)):=by
 have hx:=C7 ht;subst hx;refine(gU (GX t) hg hm lE (fx ha (fx (FL (v:=.ty t.nm) XG TL (gq t) rfl (by cases t<;>decide) (by cases t<;>decide)) mW rfl) (hs _)) (by decide) (by decide) (hs _)).imp λσ H Q ⟨F,st,R,h⟩=>?_
 refine⟨F,st,R,h.bnd λp v F1 aH H1 R1 g1 b1 h1=>?_⟩
 obtain⟨o,e,z⟩:=h1.hp;obtain⟨y,e1,rfl⟩:=aI e;exact⟨aa,ab,F1,aH,σ,p,v,y,rfl,R1,b1,e1,z _ H1 F1 R1 (Gr.refl _) (aN.mpr rfl)⟩
def Ll(fa:Gx PV):Gx PV:=bnd fa λp=>ez ((oJ p).map λi=>.int (-i))
def O7(ha:PE X a (tE X aa ab fa)):PE X (.UnaryOp .USub a pos) (tE X aa ab (Ll fa)):=(Og Kt ha).imp λσ H Q ⟨F,st,R,h⟩=>⟨F,st,R,h.bnd λp v F1 aH H1 R1 g1 b1 h1=>by
 obtain⟨o,e,z⟩:=h1.ez;obtain⟨i,e1,rfl⟩:=aI e;rw[dO e1]at b1;exact⟨i,au.mp b1,z _ H1 F1 R1 (Gr.refl _) (au.mpr rfl)⟩⟩
end
def k8(a m:Int)(n:Nat):List Nat:=sliceRange (sliceBounds (some a) none (some m) n).1 (sliceBounds (some a) none (some m) n).2.1 (sliceBounds (some a) none (some m) n).2.2
def gz{α:Type}(a m:Int)(ps:List α):List α:=(k8 a m ps.length).filterMap (ps[·]?)
def Lm(p:PV)(l m:Option Int):Option PV:=match p,l,m with
 | .nd .lst ps,some a,some b=>if(b != 0&&decide ((k8 a b ps.length).length<=gY))=true then some (.lst (gz a b ps))else none
 | _,_,_=>none
def Ln(fa:Gx PV)(fl fm:Gx (Option Int)):Gx PV:=bnd fa λp=>bnd fl λl=>bnd fm λm=>ez (Lm p l m)
theorem kL{xs:List V}{us:List Value}(r:Vals xs us):∀is:List Nat,Vals (is.filterMap (xs[·]?)) (is.filterMap (us[·]?))
 | []=>.nil
 | i::is=>by
  cases h:xs[i]? with
  | none =>
   rw[qJ h,qJ (r.none_of h)];exact kL r is
  | some x =>
   obtain⟨u,h1,h2⟩:=r.get h;rw[qI h,qI h1];exact .cons h2 (kL r is)
theorem kM{K:W.Frag}{F:Fz}{ps:List PV}{vs:List V}(r:ao K F ps vs):∀is:List Nat,ao K F (is.filterMap (ps[·]?)) (is.filterMap (vs[·]?))
 | []=>.nil
 | i::is=>by
  cases h:ps[i]? with
  | none =>
   have h2:vs[i]?=none:=by
    have:=r.length;have:=eF.mp h;exact eF.mpr (by lia)
   rw[qJ h,qJ h2];exact kM r is
  | some p =>
   obtain⟨v,h1,h2⟩:=r.get h;rw[qI h,qI h1];exact .cons h2 (kM r is)
section
variable {X:Cx} {aa:Hp} {ab:Fz} {e:Expr} {fa:Gx PV} {pos p2:Pos} {lo:Option Expr} {hi:Expr}
def XH(K:W.Frag):V->Option Int->Option Int->Hp->VK->Prop:=λx l m H Q=>∃c a b vs,x=.ref c/\l=some a/\m=some b/\fJ K H c vs/\b≠0/\(k8 a b vs.length).length<=gY/\∀q,H q=none->Q (.ref q) (bS H q (.lst (gz a b vs)))
def Lo{te:TE}{tl th:TO}(he:PE X e te)(hl:PO X lo tl)(hu:PO X (some hi) th):PE X (.Subscript e (.Slice lo none (some hi) p2) pos) (VP (XH X.K) te tl th):=by
 intro ae s σ H Q I h;refine Subscript_ (thn (he ae s σ H _ I h) λv s1 ⟨x,H1,I1,r1,q1⟩=>?_)
 refine wpAny_Slice (thn (hl ae s1 σ H1 _ I1 q1) λvl s2 ⟨l,H2,I2,pl,q2⟩=>?_)
 rw[evalPart_none];refine ag ?_;refine thn (hu ae s2 σ H2 _ I2 q2) λvu s3 ⟨u,H3,I3,pu,q3⟩=>?_
 have I4:Inv X ae σ H3 {s3 with heap:=s3.heap.push {cls:=.type "slice",data:=.fields #[vl,.none,vu]}}:=I3.kept λb ob q=>ax _ q
 show wpAny (model X.prog X.w) X.A (subscriptTail e (.Slice lo none (some hi) p2) v (.ref s3.heap.objs.size)) (EP X ae σ Q) X.xe {s3 with heap:=s3.heap.push {cls:=.type "slice",data:=.fields #[vl,.none,vu]}}
 obtain⟨c,a,b,vs,rfl,rfl,rfl,hs,V0,rQ,q⟩:=q3;cases r1;obtain⟨ai,r,ht,hz⟩:=I4.list (fJ.sq hs);have cS:ai.toArray.size=vs.length:=by rw[bK];exact r.length.symm
 have hg:wpAny (model X.prog X.w) X.A (getItem (.ref c) (.ref s3.heap.objs.size)) (EP X ae σ Q) X.xe {s3 with heap:=s3.heap.push {cls:=.type "slice",data:=.fields #[vl,.none,vu]}}:=by
  refine wpAny_getItem_list_slice ht.isList (Heap.IsSliceOf.new ..) pl .none pu (by simpa using V0) ?_ (by rw[cS];exact hz)
  have O8:slicePick ai.toArray (some a) none (some b)=((k8 a b vs.length).filterMap (ai[·]?)).toArray:=by
   unfold slicePick k8;rw[cS];refine d9 (λf=>(List.filterMap f _).toArray) (funext λi=>?_)
   rw[kc]
  rw[O8];refine⟨.ref _,_,I4.laid (o:=.lst (gz a b vs)) (λb ob q=>ax _ q) (aq _) ?_,rfl,q _ (I4.hok.fresh (aq _))⟩
  exact⟨aL (List.length_filterMap_le _ _) (aL rQ (by decide)),_,0,kL r _,aU _ rfl⟩
 exact kz (ops:=[.ref c,.ref s3.heap.objs.size]) ht.isList.typeIs slot_list_getitem.lookup hg (by with_unfolding_all rfl)
def O9{fl fh:Gx (Option Int)}(ha:PE X e (tE X aa ab fa))(hl:PO X lo (GR X aa ab fl))(hh:PO X (some hi) (GR X aa ab fh)):PE X (.Subscript e (.Slice lo none (some hi) p2) pos) (tE X aa ab (Ln fa fl fh)):=(Lo ha hl hh).imp λσ H Q ⟨F,st,R,h⟩ =>
 ⟨F,st,R,h.bnd λp v F1 aH H1 R1 g1 b1 h1=>⟨F1,aH,R1,h1.bnd λl l' F2 da H2 R2 g2 b2 h2=>⟨F2,da,R2,h2.bnd λr r' F3 FZ H3 R3 g3 b3 h3=>by
  cases b2;cases b3;obtain⟨o,e,z⟩:=h3.ez;unfold Lm at e;split at e
  ·rename_i ps a b;obtain⟨hc,rfl⟩:=aw e;simp only[aC,bne_iff_ne,iQ]at hc;obtain⟨ad,vs,rfl,hs,hb⟩:=cg.mp (b1.mono (g2.trans g3));rw[hb.length]at hc;refine⟨ad,a,b,vs,rfl,rfl,rfl,fM R3.sub hs,hc.1,hc.2,λq hq=>?_⟩
   obtain⟨R4,s4⟩:=R3.laid (.lst (gz a b vs)) hq;refine z _ _ _ R4 s4 (cg.mpr ⟨q,_,rfl,fJ.of ar,?_⟩);unfold gz;rw[hb.length];exact(kM hb _).mono s4
  ·cases e⟩⟩⟩
end
def C8:PV->Option b8
 | .int i=>some (.inl i)
 | .str x=>some (.inr x)
 | _=>none
def g7:Bool->PV->Option (List b8)
 | false,p=>(C8 p).map λk=>[k]
 | true,.nd .ak ps=>if ps.length<1000 then aQ C8 ps else none
 | true,_=>none
def fH(k:List b8)(ks:List (List b8)):Bool:=ks.any λj=>decide (j=k)
def cM(k:List b8):List (List b8)->List PV->Option PV
 | j::ks,p::ps=>if j=k then some p else cM k ks ps
 | _,_=>none
def um(k:List b8)(q:PV):List (List b8)->List PV->List PV
 | j::ks,p::ps=>(if j=k then q else p)::um k q ks ps
 | _,ps=>ps
def uo:um k q [] ps=ps:=by cases ps<;>rfl
def rY(t:Bool)(k:List b8)(q:PV)(ks:List (List b8))(ps:List PV):aj:=if fH k ks=true then⟨.dZ t ks,um k q ks ps⟩else⟨.dZ t (ks++[k]),ps++[q]⟩
section
variable {K:W.Frag} {F:Fz}
def nv(h:C8 p=some k)(b:aS K F p v):v=kV k:=by
 cases p<;>cases h
 ·exact au.mp b
 ·exact aX.mp b
theorem pQ:∀{ps:List PV} {ks:List b8} {vs:List V},aQ C8 ps=some ks->ao K F ps vs->vs=ks.map kV
 | [],_,_,h,b=>by cases h;exact b.bC
 | _::_,_,_,h,b=>by
  obtain⟨k,r,h1,h2,rfl⟩:=cu h;obtain⟨v,w,rfl,b1,b2⟩:=b.bh;rw[nv h1 b1,pQ h2 b2];rfl
def fN(h:g7 false p=some k)(b:aS K F p v):∃j,k=[j]/\v=kV j:=by
 obtain⟨j,e,rfl⟩:=aI h;exact⟨j,rfl,nv e b⟩
def g8(h:g7 true p=some k)(b:aS K F p v):∃c,v=.ref c/\ek K F.F c (k.map kV):=by
 unfold g7 at h;split at h
 ·grind
 ·obtain⟨_,h⟩:=bt h;obtain⟨c,vs,rfl,hs,hb⟩:=aZ.mp b;rw[pQ h hb]at hs;exact⟨c,rfl,hs⟩
 ·cases h
theorem g9(j:b8):∀kvs:List (b8×V),fH [j] (kvs.map λy=>[y.1])=(fu kvs j).isSome
 | []=>rfl
 | (i,v)::r=>by
  have ih:=g9 j r;unfold fH at ih ⊢;rw[aA,ko,ih];by_cases h:i=j
  ·subst h;rw[jG rfl];simp
  ·rw[jH h];simp[h]
theorem lS:∀{kvs:List (b8×V)} {ps:List PV} {p:PV},cM [j] (kvs.map λy=>[y.1]) ps=some p->ao K F ps (kvs.map (·.2))->∃v,fu kvs j=some v/\aS K F p v
 | [],_,_,h,_=>by cases h
 | (i,v)::r,[],_,h,_=>by cases h
 | (i,v)::r,q::ps,p,h,b=>by
  obtain⟨v',w,e,b1,b2⟩:=b.bh;cases e;have h:(if [i]=[j]then some q else cM [j] (r.map λy=>[y.1]) ps)=some p:=h
  by_cases hi:i=j
  ·subst hi;rw[if_pos rfl]at h;cases h;exact⟨v,jG rfl,b1⟩
  ·rw[if_neg (by grind)]at h
   rw[jH hi];exact lS h b2
def C9(bq:aS K F q v)(b:ao K F ps (kvs.map (·.2))) :
  ∃pU tm,rY false [j] q (kvs.map λy=>[y.1]) ps=⟨.dZ false pU,tm⟩/\(putK kvs j v).map (λy=>[y.1])=pU/\ao K F tm ((putK kvs j v).map (·.2)):=by
 unfold rY putK;rw[g9,m5];cases e:(fu kvs j).isSome with
 | false=>exact⟨_,_,rfl,by simp,by simpa using b.append (.cons bq .nil)⟩
 | true =>
  refine⟨_,_,rfl,?_,?_⟩
  ·rw[if_pos rfl,dv];exact List.map_congr_left λy _=>by grind
  ·rw[if_pos rfl];clear e;induction kvs generalizing ps with
   | nil=>rw[bH,uo];exact b
   | cons y r ih =>
    cases ps with
    | nil=>have:=b.length;simp at this
    | cons p ps =>
     obtain⟨v',w,e,b1,b2⟩:=b.bh;simp only[aA,qV]at e;obtain⟨rfl,rfl⟩:=e;have ih:=ih b2;by_cases hy:y.1=j
     ·simpa only[aA,um,hy,ee]using ao.cons bq ih
     ·have:¬ [y.1]=[j]:=by grind
      simpa only[aA,um,hy,this,cB]using ao.cons b1 ih
def w9(k:List b8)(xs:List (List b8×Addr×Value)):fH k (xs.map (·.1))=(atKey xs k).isSome:=(Ab xs k).symm
theorem yJ:∀{xs:List (List b8×Addr×Value)} {ps:List PV} {vs:List V} {p:PV},cM k (xs.map (·.1)) ps=some p->ao K F ps vs->Vals vs (xs.map (·.2.2))->∃a r v,atKey xs k=some (a,r)/\RelV v r/\aS K F p v
 | [],_,_,_,h,_,_=>by cases h
 | x::r,[],_,_,h,_,_=>by cases h
 | x::r,q::ps,vs,p,h,b,rv=>by
  obtain⟨v',w,rfl,b1,b2⟩:=b.bh;cases rv with
  | cons r1 r2 =>
   have h:(if x.1=k then some q else cM k (r.map (·.1)) ps)=some p:=h
   by_cases hi:x.1=k
   ·rw[if_pos hi]at h;cases h;exact⟨x.2.1,x.2.2,v',by simp[atKey,hi],r1,b1⟩
   ·rw[if_neg hi]at h;obtain⟨a,r',v,h1,h2,h3⟩:=yJ h b2 r2;exact⟨a,r',v,by unfold atKey at h1 ⊢;rw[mF,bf hi];exact h1,h2,h3⟩
def Lp(bq:aS K F q v)(rq:RelV v r)(hc:ek K F.F c (k.map kV))(hk:dM K F.F xs)(b:ao K F ps vs)(rv:Vals vs (xs.map (·.2.2))) :
  ∃pU tm uq,rY true k q (xs.map (·.1)) ps=⟨.dZ true pU,tm⟩/\(storedH xs k c r).map (·.1)=pU/\dM K F.F (storedH xs k c r)/\ao K F tm uq/\Vals uq ((storedH xs k c r).map (·.2.2)):=by
 unfold rY storedH;rw[w9];cases e:(atKey xs k).isSome with
 | false =>
  refine⟨_,_,vs++[v],rfl,by simp,λx hx=>?_,b.append (.cons bq .nil),by simpa using rv.append (.cons rq .nil)⟩
  simp only[dt,cB,dH,b6]at hx;rcases hx with hx | rfl
  ·exact hk x hx
  ·exact hc
 | true =>
  simp only[ee];have hm:(xs.map (putAt k r)).map (·.1)=xs.map (·.1):=by
   rw[dv];exact List.map_congr_left λy _=>by simp only[Function.comp,putAt];split<;>rfl
  have key:dM K F.F (xs.map (putAt k r)):=λx hx=>by
   obtain⟨y,hy,rfl⟩:=dJ.mp hx;have:=hk y hy;unfold putAt;split<;>exact this
  suffices h:∃uq,ao K F (um k q (xs.map (·.1)) ps) uq/\Vals uq ((xs.map (putAt k r)).map (·.2.2)) by
   obtain⟨uq,h1,h2⟩:=h;exact⟨_,_,uq,rfl,hm,key,h1,h2⟩
  clear e hk hm key;induction xs generalizing ps vs with
  | nil=>exact⟨vs,by rw[bH,uo];exact b,rv⟩
  | cons x xs ih =>
   cases ps with
   | nil=>rw[b.bC]at rv;cases rv
   | cons p ps =>
    obtain⟨v',w,rfl,b1,b2⟩:=b.bh;cases rv with
    | cons r1 r2 =>
     obtain⟨uq,h1,h2⟩:=ih b2 r2;by_cases hx:x.1=k
     ·exact⟨v::uq,by simpa only[aA,um,hx,ee]using ao.cons bq h1,by simpa only[aA,putAt,hx,ee]using Paired.cons rq h2⟩
     ·exact⟨v'::uq,by simpa only[aA,um,hx,cB]using ao.cons b1 h1,by simpa only[aA,putAt,hx,cB]using Paired.cons r1 h2⟩
end
def gD:G2:=λh p q=>match p with
 | .str z=>(oJ q).bind λi=>if z.length<=gY then(mZ z.cps.toList i).map λc=>.str ⟨#[c]⟩else none
 | p=>match cX h p with
  | some (.ak,ps)=>(oJ q).bind (mZ ps)
  | some (.lst,ps)=>(oJ q).bind (mZ ps)
  | some (.dZ t ks,ps)=>(g7 t q).bind λk=>cM k ks ps
  | _=>none
section
variable {X:Cx} {aa:Hp} {ab:Fz} {a b e:Expr} {fa fb:Gx PV} {pos:Pos}
def XI(hu:X.A.units+1150<cLine):Nw X (rT X.K gD):=by
 rintro value slice ae s σ H x y v u Q I rx ry ⟨aa,ab,F,st,τ,pa,pb,p,e,R,ba,bb,k⟩ hs
 have more:(match cX st.h pa with
  | some (.ak,ps)=>(oJ pb).bind (mZ ps)
  | some (.lst,ps)=>(oJ pb).bind (mZ ps)
  | some (.dZ t ks,ps)=>(g7 t pb).bind λk=>cM k ks ps
  | _=>none)=some p->wpAny (model X.prog X.w) X.A (subscriptTail value slice v u) (EP X ae σ Q) X.xe s:=λe=>by
  split at e
  ·rename_i z;obtain⟨i,e1,e2⟩:=aD e;rw[dO e1]at bb;rw[au.mp bb]at ry;obtain⟨a,vs,rfl,ha,dU⟩:=R.at z ba;obtain⟨w,hw,bw⟩:=dU.mZ e2;exact KL value slice ae s σ H _ _ v u Q I rx ry ⟨a,vs,_,w,rfl,rfl,ha.2,hw,k _ H F R (Gr.refl F) bw⟩ hs
  ·rename_i z;obtain⟨i,e1,e2⟩:=aD e;rw[dO e1]at bb;rw[au.mp bb]at ry;obtain⟨a,vs,rfl,ha,dU⟩:=R.at z ba;obtain⟨w,hw,bw⟩:=dU.mZ e2;exact Gs value slice ae s σ H _ _ v u Q I rx ry ⟨a,vs,_,w,rfl,rfl,fJ.sq ha,hw,k _ H F R (Gr.refl F) bw⟩ hs
  ·rename_i t ks ps z;obtain⟨kk,e1,e2⟩:=aD e;obtain⟨a,vs,rfl,ha,dU⟩:=R.at z ba;cases rx;cases t with
   | false =>
    obtain⟨kvs,g1,g2,g3⟩:=ha;obtain⟨j,rfl,rfl⟩:=fN e1 bb;subst g2 g3;obtain⟨w,hw,bw⟩:=lS e2 dU;obtain⟨_,hd,us,rel,dd⟩:=yz I.hok (.inl g1);have hr:=rel.val j;rw[hw]at hr;cases hv:valueAt us j with
    | none=>rw[hv]at hr;exact hr.elim
    | some u' =>
     rw[hv]at hr;exact kz dd.typeIs PySem.F.slot_dict_getitem.lookup (wpAny_getItem_of (k6 ry) dd.mapOf hv ⟨w,H,I.tok _,hr,k _ H F R (Gr.refl F) bw⟩) hs
   | true =>
    obtain⟨xs,g1,g2,g3,g4⟩:=ha;obtain⟨c,rfl,hc⟩:=g8 e1 bb;cases ry;subst g3;obtain⟨ad,r,w,hw,Gu,bw⟩:=yJ e2 dU g4;obtain⟨_,hd,dd⟩:=pK I (.inl g1) (λz hz=>aO R.sub (g2 z hz))
    obtain⟨o,_,_,ho,hx,_⟩:=id dd;refine kz ⟨o,ho,hx.1⟩ PySem.F.slot_dict_getitem.lookup (OI (by lia) I (.inl g1) (λz hz=>aO R.sub (g2 z hz)) (aO R.sub hc) hw λs' I'=>⟨w,H,I',Gu,k _ H F R (Gr.refl F) bw⟩) hs
  ·cases e
 cases pa with
 | str z =>
  obtain⟨i,e1,e2⟩:=aD e;rw[dO e1]at bb;obtain⟨hz,e2⟩:=bt e2;obtain⟨c,e3,rfl⟩:=aI e2;rw[aX.mp ba]at rx;rw[au.mp bb]at ry;exact KN value slice ae s σ H _ _ v u Q I rx ry ⟨z,i,c,rfl,rfl,cL hz,e3,k _ H F R (Gr.refl F) (aX.mpr rfl)⟩ hs
 | aV=>exact more e
 | bl _=>exact more e
 | int _=>exact more e
 | ref _=>exact more e
 | fn _=>exact more e
 | nd _ _=>exact more e
def TM(hu:X.A.units+1150<cLine)(ha:PE X a (tE X aa ab fa))(hb:PE X b (tE X aa ab fb))(hs:jD b):PE X (.Subscript a b pos) (tE X aa ab (op2 gD fa fb)):=(CG (XI hu) ha hb hs).imp λ_ _ _ h=>lQ h
def Dc(n:Bool):G2:=λh p q=>match cX h q with
 | some (.dZ t ks,_)=>(g7 t p).map λk=>.bl (if n=true then !fH k ks else fH k ks)
 | _=>(CU h q).bind λqs=>(TF h p qs).map λb=>.bl (if n=true then !b else b)
def Lq(hu:X.A.units+1150<cLine):oA X (compareOp .In) (Dc false):=by
 rintro ae s σ H x y v u Q I rx ry ⟨aa,ab,F,st,τ,pa,pb,p,e,R,ba,bb,k⟩
 unfold Dc at e;split at e
 ·rename_i t ks ps z;obtain⟨kk,e1,rfl⟩:=aI e;obtain⟨a,vs,rfl,ha,dU⟩:=R.at z bb;cases ry;cases t with
  | false =>
   obtain⟨kvs,g1,g2,g3⟩:=ha;obtain⟨j,rfl,rfl⟩:=fN e1 ba;obtain⟨_,hd,us,rel,dd⟩:=yz I.hok (.inl g1);refine wpAny_in_of (k6 rx) hd dd.mapOf ⟨.bl (fu kvs j).isSome,H,I.tok _,?_,k _ H F R (Gr.refl F) (aN.mpr ?_)⟩
   ·rw[(rel.val j).pF];rfl
   ·rw[<-g2,g9];rfl
  | true =>
   obtain⟨xs,g1,g2,g3,g4⟩:=ha;obtain⟨c,rfl,hc⟩:=g8 e1 ba;cases rx;exact OG (by lia) I (.inl g1) (λz hz=>aO R.sub (g2 z hz)) (aO R.sub hc) λs' I'=>⟨.bl _,H,I',rfl,k _ H F R (Gr.refl F) (aN.mpr (by rw[<-g3,w9];rfl))⟩
 ·obtain⟨qs,e1,e⟩:=aD e;obtain⟨b,e2,rfl⟩:=aI e;exact(C2 hu I rx ry R ba bb e1 e2).1 (k _ H F R (Gr.refl F) (aN.mpr rfl))
def Ak(hu:X.A.units+1150<cLine):oA X (compareOp .NotIn) (Dc true):=by
 rintro ae s σ H x y v u Q I rx ry ⟨aa,ab,F,st,τ,pa,pb,p,e,R,ba,bb,k⟩
 unfold Dc at e;split at e
 ·rename_i t ks ps z;obtain⟨kk,e1,rfl⟩:=aI e;obtain⟨a,vs,rfl,ha,dU⟩:=R.at z bb;cases ry;cases t with
  | false =>
   obtain⟨kvs,g1,g2,g3⟩:=ha;obtain⟨j,rfl,rfl⟩:=fN e1 ba;obtain⟨_,hd,us,rel,dd⟩:=yz I.hok (.inl g1);refine wpAny_notIn_of (k6 rx) hd dd.mapOf ⟨.bl (!(fu kvs j).isSome),H,I.tok _,?_,k _ H F R (Gr.refl F) (aN.mpr ?_)⟩
   ·rw[(rel.val j).pF];rfl
   ·rw[<-g2,g9];rfl
  | true =>
   obtain⟨xs,g1,g2,g3,g4⟩:=ha;obtain⟨c,rfl,hc⟩:=g8 e1 ba;cases rx;exact OH (by lia) I (.inl g1) (λz hz=>aO R.sub (g2 z hz)) (aO R.sub hc) λs' I'=>⟨.bl _,H,I',rfl,k _ H F R (Gr.refl F) (aN.mpr (by rw[<-g3,w9];rfl))⟩
 ·obtain⟨qs,e1,e⟩:=aD e;obtain⟨b,e2,rfl⟩:=aI e;exact(C2 hu I rx ry R ba bb e1 e2).2 (k _ H F R (Gr.refl F) (aN.mpr rfl))
end
def GY:G2:=λ_ p q=>match q with | .aV=>some (.bl (!k7 p)) | .bl b=>(TC b p).map λc=>.bl (!c) | _=>none
def GZ:oA X (compareOp .IsNot) GY:=by
 rintro ae s σ H x y v u Q I rx ry ⟨aa,ab,F,st,τ,pa,pb,p,e,R,ba,bb,k⟩
 unfold GY at e;split at e
 ·cases e;exact Ga ae s σ H x y v u Q I rx ry ⟨bZ.mp bb,k _ H F R (Gr.refl F) (aN.mpr (by rw[yG ba]))⟩
 ·rename_i b;obtain⟨c,e1,rfl⟩:=aI e;obtain⟨a,rfl,rfl⟩:=uh e1;rw[aN.mp ba]at rx;rw[aN.mp bb]at ry;cases rx;cases ry;exact wpAny_isNot_plain rfl ⟨.bl _,H,I,(by cases a<;>cases b<;>rfl),k _ H F R (Gr.refl F) (aN.mpr rfl)⟩
 ·cases e
def V1:G2:=lD (λ_ _=>true) λi j=>.bl (decide (j<i))
def uu:G2:=λh p q=>match p,q with
 | .str a,.str b=>some (.bl (!(decide (b.cps.toList<a.cps.toList))))
 | p,q=>VW h p q
def Lr:oA X (compareOp .LtE) uu:=by
 rintro ae s σ H x y v u Q I rx ry ⟨aa,ab,F,st,τ,pa,pb,p,e,R,ba,bb,k⟩
 unfold uu at e;split at e
 ·cases e;rw[aX.mp ba]at rx;rw[aX.mp bb]at ry;obtain⟨t1,rfl⟩:=rx;obtain⟨t2,rfl⟩:=ry;exact PySem.P.le_str ⟨.bl _,H,I,rfl,k _ H F R (Gr.refl F) (aN.mpr rfl)⟩
 ·exact dR (pP Oi) (λ_ _ _=>trivial) (λ_ _ _=>aN.mpr rfl) ae s σ H x y v u Q I rx ry ⟨aa,ab,F,st,τ,pa,pb,p,e,R,ba,bb,k⟩
def xa:CmpOp->Option G2
 | .Eq=>some yF
 | .NotEq=>some Je
 | .Lt=>some VV
 | .LtE=>some uu
 | .Gt=>some V1
 | .GtE=>some VX
 | .Is=>some RN
 | .IsNot=>some GY
 | .In=>some (Dc false)
 | .NotIn=>some (Dc true)
def iu(hu:X.A.units+1150<cLine)(h:xa op=some g):oA X (compareOp op) g:=by
 have nn:∀i j:Int,(λ_ _=>true) i j=true->(λ_ _=>True) i j:=by grind
 cases op<;>cases h
 ·exact Lf hu
 ·exact Lg hu
 ·exact dR (pP Oh) nn λ_ _ _=>aN.mpr rfl
 ·exact Lr
 ·exact dR (pP Oj) nn λ_ _ _=>aN.mpr rfl
 ·exact dR (pP Ol) nn λ_ _ _=>aN.mpr rfl
 ·exact Lh
 ·exact GZ
 ·exact Lq hu
 ·exact Ak hu
end L2.U
namespace L2
open PySem PySem.Spec PyProof.Rows
section
variable {X:Cx}
def Dd:PE X (.Dict [] [] pos) (I0 (.dK [])):=λae s σ H Q I h =>
 wpAny_Dict_empty ⟨.ref s.heap.objs.size,_,I.laid (o:=.dK []) (λ_ _ q=>ax _ q) (aq _)
  ⟨eN _,gM.mpr (bA (aJ (gW I))),[],.nil,wm s.heap⟩,rfl,h _ (I.hok.fresh (aq _))⟩
def Pa:V->List V->Hp->VK->Prop:=λx vs H Q=>∃a kvs k y,x=.ref a/\vs=[kV k,y]/\H a=some (.dK kvs)/\kvs.length<sizeLine/\(∀v,fu kvs k=some v->Q v H)/\(fu kvs k=none->Q y (bS H a (.dK (kvs++[(k,y)]))))
def Ls:KJ X "dict.setdefault" Pa:=by
 intro ae s σ H x xs v us Q I rx rv h;obtain⟨a,kvs,k,y,rfl,rfl,e,hl,h1,h2⟩:=h;cases rx;obtain⟨u1,u2,rfl,r1,r2⟩:=rv.two;obtain⟨z,hd,vs,rel,dd⟩:=CN I.hok e;refine call_meetsIn BG dd.typeIs PySem.F.entry_dict_setdefault (PySem.F.args_dict_setdefault_3 _ _ _) (kt_meets_setdefault (bg X.prog X.w) a (k6 r1) hd u2) ⟨vs,dd,by rw[<-rel.length];exact z,λw hw=>?_,λhn h' KR hs=>?_⟩
 ·have rk:=rel.val k;rw[hw]at rk;cases hv:fu kvs k with
  | none=>rw[hv]at rk;exact rk.elim
  | some v0=>rw[hv]at rk;exact⟨v0,H,I.tok _,rk,h1 v0 hv⟩
 ·have rk:=rel.val k;rw[hn]at rk;have hv:fu kvs k=none:=by
   cases hv:fu kvs k with
   | none=>rfl
   | some v0=>rw[hv]at rk;exact rk.elim
  have G0:=rel.put k r2;rw[CM y hv]at G0;have he:∃q,h'.get? a=some q:=let ⟨q,_,_,hq,_⟩:=KR;⟨q,hq⟩
  exact⟨y,_,I.write (o:=.dK (kvs++[(k,y)])) (by rw[e];exact True.intro) (.inl rfl) (λc q' hc z=>(hs.2 c hc).trans z) he ⟨by rw[cG];exact hl,hd,_,G0,KR⟩,r2,h2 hv⟩
def yK:V->List V->Hp->VK->Prop:=λx vs H Q=>∃(l:Addr) (xs:List V) (i:Int) (y:V),x=.ref l/\vs=[.int i,y]/\H l=some (.lst xs)/\xs.length<sizeLine/\0<=i/\i<=1000000/\Q .aV (bS H l (.lst (xs.take i.toNat++y::xs.drop i.toNat)))
def Lu(h0:0<=i)(hi:i<=1000000):¬(!Builtin.List.listFitsIndex i)=true:=by
 unfold Builtin.List.listFitsIndex;have h1:decide (-(2^63:Int)<=i)=true:=by grind
 have h2:decide (i<2^63)=true:=by grind
 rw[h1,h2];simp
def Pb(i:Int)(u:Value):Array Value->Array Value:=λxs=>have k:=if i<0 then(i+((xs.size:Nat):Int)).toNat else min i.toNat xs.size;(xs.extract 0 k).push u++xs.extract k
def G1(h0:0<=i)(ai:List Value)(u:Value):Pb i u ai.toArray=(ai.take i.toNat++u::ai.drop i.toNat).toArray:=by
 unfold Pb;have h1:¬i<0:=by lia
 simp only[h1,bK];apply Array.ext';simp only[List.extract_eq_drop_take];by_cases hb:i.toNat<=ai.length
 ·rw[wo hb];have h2:List.take (ai.length-i.toNat) (List.drop i.toNat ai)=List.drop i.toNat ai:=j9 (by grind)
  simp[h2]
 ·grind
def Al:RJ X "list.insert" yK:=by
 intro ae s σ H x vs v us Q I rx rv h;obtain⟨l,xs,i,y,rfl,rfl,hH,hz,h0,hi,q⟩:=h;cases rx;obtain⟨u1,u2,rfl,⟨t,rfl⟩,r2⟩:=rv.two;obtain⟨z,ai,n,r,hl,e⟩:=I.gV hH;have RO:=r.length;have J:=I.Gw (t':=s.toks) hH e (G1 h0 ai u2) ((r.take i.toNat).append (.cons r2 (r.drop i.toNat))) (by grind)
 exact dh F.slot_list_insert ⟨_,e,rfl⟩ F.entry_list_insert (F.args_list_insert_3 _ _ _) (@PySem.AutoListH.list_insert_list_int_val_1 l ai.toArray n i t u2 (Lu h0 hi) (by grind)) ⟨e,.aV,_,J,rfl,q⟩
def Lv(K:W.Frag):V->List V->Hp->VK->Prop:=λx vs H Q=>∃l b xs zs,x=.ref l/\vs=[.ref b]/\H l=some (.lst xs)/\(ek K H b zs\/fJ K H b zs)/\xs.length+zs.length<=sizeLine/\Q .aV (bS H l (.lst (xs++zs)))
def rZ(l:Addr)(ai:Array Value)(n:Nat)(b:Addr)(more:Array Value)(n2:Nat)(dd:Option Addr)(sl:Array (Option Value))(h0:¬(!ai.isEmpty&&Builtin.List.listTooLong (ai.size+more.size))=true)(h1:ai.size<=sizeLine)(h2:ai.size+more.size<=sizeLine+1) :
  Meets (Builtin.«list.extend» ⟨[.ref l,.ref b],[]⟩) (λ_ R s=>s.heap.get? l=some {cls:=.type "list",dict:=none,data:=.seq ai n,slots:=#[]}/\s.heap.get? b=some {cls:=.type "tuple",dict:=dd,data:=.seq more n2,slots:=sl} /\
   R (.ok (.ret Value.none)) {s with heap:=s.heap.update l (Obj.mapSeq λx=>x++more),toks:=s.toks}) :=
 .of_wp λprog w A R s h=>by
  obtain⟨hp,g,d,tk,os⟩:=s;obtain⟨hl,hb,h⟩:=h;have f1:=AutoSeq1.idx_int;have f2:=AutoSeq1.sub_tuple_tuple;have f3:=AutoSeq1.sub_list_list;have f4:=AutoSeq1.sub_tuple_list;have f5:=AutoSeq1.sub_list_tuple
  wp_walk using (mD hl rfl (_hz':=(by rw[Array.size_append];exact h2))),gJ hl,gJ hb
  exact⟨_,rfl,h⟩
def Lw:RJ X "list.extend" (Lv X.K):=by
 intro ae s σ H x vs v us Q I rx rv h;obtain⟨l,b,xs,zs,rfl,rfl,hH,hB,hz,q⟩:=h;cases rx;obtain⟨u,rfl,ru⟩:=rv.one;cases ru;obtain⟨z,ai,n,r,hl,e⟩:=I.gV hH;have go:∀b9,Vals zs b9->(¬(!ai.toArray.isEmpty&&Builtin.List.listTooLong (ai.toArray.size+b9.toArray.size))=true/\ai.toArray.size<=sizeLine/\ai.toArray.size+b9.toArray.size<=sizeLine+1) /\
   EP X ae σ Q Value.none {s with heap:=s.heap.update l (Obj.mapSeq λx=>x++b9.toArray),toks:=s.toks}:=λb9 r2=>by
  have RM:=r2.length;have hsz:ai.toArray.size+b9.toArray.size<=sizeLine:=by grind
  refine⟨⟨?_,by grind,(Nat.le_add_right_of_le ‹_›)⟩,.aV,_,I.Gw hH e (by simp) (r.append r2) (by grind),rfl,q⟩
  rw[t6 hsz,Bool.and_false];exact du
 rcases hB with hB | hB
 ·obtain⟨b9,r2,⟨⟨cls,dd,V2,sl⟩,e2,hc,n2,hd⟩,_⟩:=I.tuple hB;simp only at hc hd;subst hc hd;obtain⟨⟨g1,g2,g3⟩,g4⟩:=go b9 r2;exact dh F.slot_list_extend ⟨_,e,rfl⟩ F.entry_list_extend (F.args_list_extend_2 _ _) (rZ l ai.toArray n b b9.toArray n2 dd sl g1 g2 g3) ⟨e,e2,g4⟩
 ·obtain⟨b9,n2,r2,e2,_⟩:=I.jI hB;obtain⟨⟨g1,g2,g3⟩,g4⟩:=go b9 r2;exact dh F.slot_list_extend ⟨_,e,rfl⟩ F.entry_list_extend (F.args_list_extend_2 _ _) (AutoSeq1.list_extend_list_list_0 l ai.toArray n b b9.toArray n2 g1 g2 g3) ⟨e,e2,g4⟩
def yL(kvs:List (b8×V))(k:b8)(v:V):(putK kvs k v).length<=kvs.length+1:=by
 unfold putK;split
 ·grind
 ·grind
def Pc:Cm:=λo i v H Q=>∃a kvs k,o=.ref a/\i=kV k/\H a=some (.dK kvs)/\kvs.length<sizeLine/\Q (bS H a (.dK (putK kvs k v)))
def Lx:Cn X Pc:=by
 rintro ae s σ H o i v ov iv u Q I ro ri rv ⟨a,kvs,k,ex,ey,e1,e2,q⟩
 subst ex ey;cases ro;obtain⟨z,hd,vs,rel,dd⟩:=CN I.hok e1;refine wpAny_setItem_pairs (k6 ri) dd (λh' KR Pd=>?_) (by rw[<-rel.length];exact z)
 have G0:=rel.put k rv;have he:∃q,h'.get? a=some q:=let ⟨q,_,_,hq,_⟩:=KR;⟨q,hq⟩
 exact⟨_,I.write (o:=.dK (putK kvs k v)) (by rw[e1];exact True.intro) (.inl rfl) (λc q' hc z=>(Pd.2 c hc).trans z) he ⟨by have:=yL kvs k v;lia,hd,_,G0,KR⟩,q⟩
def Pe(K:W.Frag):Cm:=λo i v H Q=>∃a b xs k,o=.ref a/\i=.ref b/\H a=some (.dT xs)/\dM K H xs/\ek K H b (k.map kV)/\xs.length<sizeLine/\∀r,RelV v r->Q (bS H a (.dT (storedH xs k b r)))
def Ly(hu:X.A.units+1<cLine):Cn X (Pe X.K):=by
 rintro ae s σ H o i v ov iv u Q I ro ri rv ⟨a,b,xs,k,ex,ey,e1,e2,e3,e4,q⟩
 subst ex ey;cases ro;cases ri;exact KQ hu I e1 e2 e3 e4 λs4 I4=>⟨_,I4,q u rv⟩
end
end L2
namespace L2.U
open PySem PySem.Spec PyProof.Rows
abbrev MG:=aj->List PV->Option (aj×PV)
def Am(h:List aj):PV->Option (Nat×aj)
 | .ref n=>(h[n]?).bind λc=>if live c=true then some (n,c)else none
 | _=>none
def fO(e:Am h p=some (n,c)):p=.ref n/\h[n]?=some c/\live c=true:=by
 cases p with
 | ref m =>
  obtain⟨d,e1,e2⟩:=aD e;obtain⟨hl,e3⟩:=aw e2;cases e3;exact⟨rfl,e1,hl⟩
 | _=>cases e
def oK(g:MG)(p:PV)(as:List PV):Gx PV:=λst=>(Am st.h p).bind λc=>(g c.2 as).map λr=>(.ok r.2,⟨st.ρ,st.h.set c.1 r.1⟩)
section
variable {X:Cx} {aa H:Hp} {ab F:Fz} {st:bN} {σ:St}
def uv(K:W.Frag)(r:V->List V->Hp->VK->Prop)(g:MG):Prop:=∀(aa H:Hp) (ab F:Fz) (st:bN) (σ:St) (n:Nat) (c c':aj) (a:Addr) (as:List PV) (ws:List V) (q:PV) (Q:VK),
 Rep K aa ab F st σ H->st.h[n]?=some c->live c=true->F.μ[n]?=some a->g c as=some (c',q)->ao K F as ws->(∀v F' H',Rep K aa ab F' ⟨st.ρ,st.h.set n c'⟩ σ H'->Gr F F'->aS K F' q v->Q v H')->r (.ref a) ws H Q
def Rep.put(R:Rep X.K aa ab F st σ H){c d:aj}(hc:st.h[n]?=some c)(hl:live c=true)(ha:F.μ[n]?=some a)(hn:iY X.K F.F (bS H a o) a true d.k vs)(hb:ao X.K F d.ps vs) :
  Rep X.K aa ab F ⟨st.ρ,st.h.set n d⟩ σ (bS H a o):=⟨R.c.write hc hl ha hn hb,R.l⟩
def gV(f:List PV->List PV->Option (List PV)):MG:=λc as=>match c.k with
 | .lst=>(f c.ps as).map λqs=>(⟨.lst,qs⟩,.aV)
 | _=>none
def r6
  (h:∀(H:Hp) (F:Fz) (ps as qs:List PV) (vs ws:List V) (a:Addr) (Q:VK) (h:List aj),bQ F.F H->f ps as=some qs->H a=some (.lst vs)->ao X.K F ps vs->ao X.K F as ws->(∀uq,ao X.K F qs uq->Q .aV (bS H a (.lst uq)))->r (.ref a) ws H Q):uv X.K r (gV f):=by
 intro aa H ab F st σ n c c' a as ws q Q R hc hl ha hg hb k;unfold gV at hg;split at hg
 ·rename_i hk;obtain⟨qs,e1,e2⟩:=aI hg;cases e2;obtain⟨_,vs,h2,h3⟩:=R.c.cell n c a hc ha hl;rw[hk]at h2;exact h H F c.ps as qs vs ws a Q st.h R.sub e1 h2 h3 hb λuq b'=>k _ F _ (R.put hc hl ha ar b') (Gr.refl _) (bZ.mpr rfl)
 ·cases hg
def xb:List PV->List PV->Option (List PV):=λps as=>match as with | [p]=>if ps.length<gY then some (ps++[p])else none | _=>none
def G3:uv X.K yy (gV xb):=r6 λH F ps as qs vs ws a Q h hs hf ha bp ba k=>by
 unfold xb at hf;split at hf
 ·obtain⟨hl,rfl⟩:=aw hf;obtain⟨v,rfl,b⟩:=bU ba;exact⟨a,vs,v,rfl,rfl,ha,by rw[<-bp.length];exact bG hl (cL (aq _)),k _ (bp.append ba)⟩
 ·cases hf
def G4:List PV->List PV->Option (List PV):=λps as=>match as with | []=>some ps.reverse | _=>none
def G5:uv X.K t7 (gV G4):=r6 λH F ps as qs vs ws a Q h hs hf ha bp ba k=>by
 unfold G4 at hf;split at hf
 ·cases hf;exact⟨a,vs,rfl,ba.bC,ha,k _ bp.reverse⟩
 ·cases hf
def G6:List PV->List PV->Option (List PV):=λps as=>match as with
 | [.int i,p]=>if(0<=i/\i<=1000000/\ps.length<gY)then some (ps.take i.toNat++p::ps.drop i.toNat)else none
 | _=>none
def G7:uv X.K yK (gV G6):=r6 λH F ps as qs vs ws a Q h hs hf ha bp ba k=>by
 unfold G6 at hf;split at hf
 ·obtain⟨⟨h1,h2,h3⟩,rfl⟩:=aw hf;obtain⟨w1,w2,rfl,b1,b2⟩:=jM ba;rw[au.mp b1];exact⟨a,vs,_,w2,rfl,rfl,ha,bG (by rw[<-bp.length];exact h3) (cL (aq _)),h1,h2,k _ ((bp.take _).append (.cons b2 (bp.drop _)))⟩
 ·cases hf
def De(p:PV)(as:List PV):Gx PV:=λst=>match as with
 | [q]=>(CU st.h q).bind λrs=>oK (gV λps _=>if ps.length+rs.length<=gY then some (ps++rs)else none) p [] st
 | _=>none
def G8:MG:=λc as=>match c.k,as with
 | .dZ false ks,[kp,y]=>(g7 false kp).bind λk=>if ks.length<gY then(if fH k ks=true then(cM k ks c.ps).map λp=>(c,p)else some (⟨.dZ false (ks++[k]),c.ps++[y]⟩,y))else none
 | _,_=>none
def G9:uv X.K Pa G8:=by
 intro aa H ab F st σ n c c' a as ws q Q R hc hl ha hg hb k;unfold G8 at hg;split at hg
 ·rename_i ks kp y hk;obtain⟨kk,e1,e2⟩:=aD hg;obtain⟨hz,e2⟩:=bt e2;obtain⟨w1,w2,rfl,b1,b2⟩:=jM hb;obtain⟨j,rfl,rfl⟩:=fN e1 b1;obtain⟨_,vs,h2,h3⟩:=R.c.cell n c a hc ha hl;have Y5:=h2;rw[hk]at h2;obtain⟨kvs,g1,g2,g3⟩:=h2;rw[<-g3]at h3;refine⟨a,kvs,j,w2,rfl,rfl,g1,(by
   have:ks.length=kvs.length:=by grind
   exact bG (by grind) (cL (aq _))),λv hv=>?_,λhv=>?_⟩
  ·rw[if_pos (by rw[<-g2,g9,hv];rfl)]at e2
   obtain⟨p,e3,e4⟩:=aI e2;cases e4;rw[<-g2]at e3;obtain⟨v',Kw,bv⟩:=lS e3 h3;rw[hv]at Kw;cases Kw;have e:st.h.set n c=st.h:=by
    apply List.ext_getElem?;intro i;by_cases hi:n=i
    ·grind
    ·grind
   rw[e]at k;exact k v F H R (Gr.refl _) bv
  ·rw[if_neg (by rw[<-g2,g9,hv];simp)]at e2
   cases e2;refine k w2 F _ (R.put (vs:=kvs.map (·.2)++[w2]) hc hl ha ⟨kvs++[(j,w2)],ar,by grind⟩ ?_) (Gr.refl _) b2
   exact h3.append (.cons b2 .nil)
 ·cases hg
def Tx.mut(hg:uv X.K r g)(h:Tx X aa ab (aS X.K) F st (oK g p as) σ Q)(R:Rep X.K aa ab F st σ H)(bp:aS X.K F p v)(ba:ao X.K F as ws):r v ws H Q:=by
 obtain⟨q,h1,h2⟩:=h;obtain⟨⟨n,c⟩,e1,e2⟩:=aD h1;obtain⟨⟨c',x⟩,e3,e4⟩:=aI e2;subst e4;obtain⟨rfl,hc,hl⟩:=fO e1;obtain⟨a,ha,rfl⟩:=cU.mp bp;exact hg aa H ab F st σ n c c' a as ws x Q R hc hl ha e3 ba λv F' H' R' g' b'=>h2 v H' F' R' g' b'
def Tx.ext{Q:VK}(h:Tx X aa ab (aS X.K) F st (De p as) σ Q)(R:Rep X.K aa ab F st σ H)(bp:aS X.K F p v)(ba:ao X.K F as ws):Lv X.K v ws H Q:=by
 obtain⟨x,h1,h2⟩:=h;unfold De at h1;split at h1
 ·rename_i q;obtain⟨rs,e0,h1⟩:=aD h1;obtain⟨w,rfl,bw⟩:=bU ba;obtain⟨b,zs,rfl,hs,hb⟩:=R.seq e0 bw;obtain⟨⟨n,c⟩,e1,e2⟩:=aD h1;obtain⟨⟨c',y⟩,e3,e4⟩:=aI e2;subst e4;obtain⟨rfl,hc,hl⟩:=fO e1;obtain⟨a,ha,rfl⟩:=cU.mp bp;unfold gV at e3;split at e3
  ·rename_i hk;obtain⟨qs,e5,e6⟩:=aI e3;cases e6;obtain⟨hz,rfl⟩:=aw e5;obtain⟨_,vs,g2,g3⟩:=R.c.cell n c a hc ha hl;rw[hk]at g2;exact⟨a,b,vs,zs,rfl,rfl,g2,hs,by rw[<-g3.length,<-hb.length];exact cL hz,h2 .aV _ F (R.put hc hl ha ar (g3.append hb)) (Gr.refl _) (bZ.mpr rfl)⟩
  ·cases e3
 ·cases h1
end
section
variable {prog:Program} {w:World} {A:Around} {R:Result->Shared->Prop} {s:Shared}
abbrev nb(prog:Program)(w:World)(A:Around)(env:Env)(R:Result->Shared->Prop):Value->Shared->Prop:=notedBy (model prog w) A env λe s'=>R (.error e) s'
abbrev yM(ifs:List Expr)(env:Env):Sem Bool:=forIn ifs true λc r=>if r=true then do let ok <-isTrue c env (eval c env);pure (ForInStep.yield ok)else pure (ForInStep.yield r)
def An(I:Nat->Shared->Prop)
  (mR:∀n s,I n s->wpAny (model prog w) A (pyNext it) (λr s1=>match r with
   | none=>R (.ok .next) s1
   | some v=>wpAny (model prog w) A (letOwnedTupleGo tg it v) (λ_ V3=>wpAny (model prog w) A (assign tg env v) (λ_ s2=>wpAny (model prog w) A (yM ifs env) (λok s3 =>
      if ok=true then wpAny (model prog w) A (eval elt env) (λx s4=>wpAny (model prog w) A (call (.builtin "list.append") [acc,x]) (λ_ s5=>∃m,m<n/\I m s5) (nb prog w A env R) s4) (nb prog w A env R) s3
      else ∃m,m<n/\I m s3) (nb prog w A env R) s2) (nb prog w A env R) V3) (nb prog w A env R) s1) (nb prog w A env R) s)
  (n:Nat) (h:I n s):codeAny (model prog w) A (.compLoop (.ListComp elt [⟨tg,iter,ifs,0⟩] scope pos) 0 it acc env) R s:=by
 refine codeAny_loop rfl I (λn s hI=>?_) n h
 refine wpAny_noted ?_;rw[compTurn_list];refine af (rh (af (thn (mR n s hI) λr s1 h1=>?_)))
 cases r with
 | none=>exact ag h1
 | some v =>
  refine af (thn h1 λ_ V3 XJ=>af (thn XJ λ_ s2 h2=>af (thn h2 λok s3 h3=>?_)))
  cases ok with
  | false=>exact ag ⟨rfl,h3⟩
  | true=>exact af (af (thn h3 λx s4 h4=>af (thn h4 λ_ s5 h5=>ag (ag ⟨rfl,h5⟩))))
end
def kN(env:Env):List (Str×NameKind)->List (Str×Addr)->List (Str×Addr)
 | [],cs=>cs
 | (n,k)::r,cs=>kN env r (if k==.free then(match env.cells.lookup n with | some c=>(n,c)::cs | none=>cs)else cs)
def xc(h:∀y∈scope.names,y.2=.free->∃c,env.cells.lookup y.1=some c):closureFor scope env=pure (kN env scope.names []):=by
 have all:∀(l:List (Str×NameKind)) (cs:List (Str×Addr)),(∀y∈l,y.2=.free->∃c,env.cells.lookup y.1=some c) ->
   (forIn l cs λx r=>(match x with | (name,kind)=>if(kind==NameKind.free)=true then do let a <-cellOf env name;pure (ForInStep.yield ((name,a)::r))else pure (ForInStep.yield r):Sem (ForInStep (List (Str×Addr)))))=pure (kN env l cs):=by
  intro l;induction l with
  | nil=>intro cs _;rfl
  | cons y l ih =>
   intro cs hl;obtain⟨n,k⟩:=y;rw[mC];by_cases hk:k=.free
   ·subst hk;obtain⟨c,hc⟩:=hl (n,.free) cb rfl;have By:=hc;have e1:cellOf env n=pure c:=by unfold cellOf;rw[By]
    simp only[e1,kN,By];exact ih _ λy hy=>hl y (bW _ hy)
   ·have hb:(k==NameKind.free)=false:=by simpa using hk
    simp only[hb,kN];exact ih _ λy hy=>hl y (bW _ hy)
 unfold closureFor;have:=all scope.names [] h;simp only[bind_pure]at this ⊢;exact this
theorem uw:∀(l:List (Str×NameKind)) (cs:List (Str×Addr)) (p:Str×Addr),p∈kN env l cs->p∈cs\/env.cells.lookup p.1=some p.2
 | [],_,_,h=>.inl h
 | (n,k)::r,cs,p,h=>by
  unfold kN at h;rcases uw r _ p h with q | q
  ·grind
  ·grind
def cN(h:(kN env l []).lookup x=some c):env.cells.lookup x=some c:=by
 rcases uw l [] (x,c) (dF h)with q | q
 ·cases q
 ·exact q
theorem pV:∀(l:List (Str×NameKind)) (cs:List (Str×Addr)),(∃c,(x,c)∈cs)->∃c,(x,c)∈kN env l cs
 | [],_,h=>h
 | (n,k)::r,cs,⟨c,h⟩=>by
  unfold kN;refine pV r _ ⟨c,?_⟩;split
  ·grind
  ·exact h
theorem ny:∀(l:List (Str×NameKind)) (cs:List (Str×Addr)),(x,NameKind.free)∈l->(∃c,env.cells.lookup x=some c)->∃c,(x,c)∈kN env l cs
 | [],_,h,_=>by cases h
 | (n,k)::r,cs,h,hc=>by
  unfold kN;rcases aY.mp h with z | z
  ·cases z;obtain⟨c,e⟩:=hc;refine pV r _ ⟨c,?_⟩;simp[e]
  ·exact ny r _ z hc
theorem fI:∀{l:List (Str×Addr)},(x,c)∈l->∃c',l.lookup x=some c'
 | [],h=>by cases h
 | (n,d)::r,h=>by
  rw[fF];cases hx:x==n with
  | true=>exact⟨d,rfl⟩
  | false =>
   rcases aY.mp h with z | z
   ·grind
   ·exact fI z
def bI(X:Cx)(N:List Str)(scope:Scope)(C:Addr)(s:Shared)(H:Hp)(fp:List Addr):Cx where
 prog:=X.prog
 w:=X.w
 K:=X.K
 mg:=X.mg
 base:=X.base
 A:=X.A
 N:=N
 s₀:=s
 aa:=H
 env:=compEnvC scope (kN X.env scope.names []) C X.env
 aB:=X.stack
 stack:=X.stack
 ex:=fp
 fn:=λ_=>false
 calm:=X.calm
 pn:=[]
 xe:=λ_ _=>False
theorem eU{env:Env}:∀(names:List (Str×NameKind)) (x:Str),(names.map fun(n,k)=>if(k==NameKind.free&&env.scope.kind==.function&&env.kindOf n==some .cell)then(n,NameKind.cell)else(n,k)).lookup x =
  (names.lookup x).map λk=>if(k==NameKind.free&&env.scope.kind==.function&&env.kindOf x==some .cell)then NameKind.cell else k
 | [],_=>rfl
 | (n,j)::r,x=>by
  have e:(if(j==NameKind.free&&env.scope.kind==.function&&env.kindOf n==some .cell)=true then(n,NameKind.cell)else(n,j))=(n,if(j==NameKind.free&&env.scope.kind==.function&&env.kindOf n==some .cell)=true then NameKind.cell else j):=by split<;>rfl
  show List.lookup x ((if(j==NameKind.free&&env.scope.kind==.function&&env.kindOf n==some .cell)=true then(n,NameKind.cell)else(n,j))::_)=_
  rw[e,fF,fF];cases hx:x==n with
  | true =>
   have pW:=aE hx;subst pW;rfl
  | false=>exact eU r x
def jO{env:Env}{names:List (Str×NameKind)}(h:(names.map fun(n,k)=>if(k==NameKind.free&&env.scope.kind==.function&&env.kindOf n==some .cell)then(n,NameKind.cell)else(n,k)).lookup x=some k) :
  names.lookup x=some k\/(k=.cell/\names.lookup x=some .free):=by
 rw[eU]at h;cases z:names.lookup x with
 | none=>rw[z]at h;cases h
 | some j =>
  rw[z]at h;have h:(if(j==NameKind.free&&env.scope.kind==.function&&env.kindOf x==some .cell)=true then NameKind.cell else j)=k:=by grind
  split at h
  ·grind
  ·grind
def r9{env:Env}{names:List (Str×NameKind)}(h:names.lookup x=some .free) :
  (names.map fun(n,k)=>if(k==NameKind.free&&env.scope.kind==.function&&env.kindOf n==some .cell)then(n,NameKind.cell)else(n,k)).lookup x=some .cell \/
  (names.map fun(n,k)=>if(k==NameKind.free&&env.scope.kind==.function&&env.kindOf n==some .cell)then(n,NameKind.cell)else(n,k)).lookup x=some .free:=by
 rw[eU,h];show some (if _ then _ else _)=_\/some (if _ then _ else _)=_
 split
 ·grind
 ·grind
structure fP (X:Cx) (N:List Str) (link:List (Option Nat)) (scope:Scope):Prop where
 kind:scope.kind=.function
 cell:∀y∈scope.names,y.2≠.cell
 names:∀y∈scope.names,y.2=.local->scope.names.lookup y.1=some .local
 free:∀y∈scope.names,y.2=.free->(X.env.kindOf y.1=some .cell\/X.env.kindOf y.1=some .free)
 len:link.length=N.length
 link:∀(i j:Nat) (x:Str),link[i]?=some (some j)->N[i]?=some x->X.N[j]?=some x/\scope.names.lookup x=some .free
def gA(link:List (Option Nat))(σ:St):St:=link.map λo=>o.bind λj=>(σ[j]?).join
section
variable {X:Cx} {ae:List (Addr×Obj)} {σ:St} {H:Hp} {s:Shared}
def Inv.adopt(I:Inv X ae σ H s)(hn:H D=none)(h1:X.s₀.heap.objs.size<=D)(h2:D≠X.env.locals)(h3:∀x c,X.env.cells.lookup x=some c->c≠D)(h4:∀p∈X.pn++ae,p.1≠D)
  (ho:dS X.prog X.w (bS H D o) s.heap D o):Inv X ae σ (bS H D o) s:=by
 have ne:∀b u,H b=some u->b≠D:=λb u e z=>by rw[z,hn]at e;cases e
 refine I.step (ch:=[D]) (λb hb=>?_) (λb u _ _ _ e _=>e) (λb u _ _ _ e _=>⟨u.slots,e⟩) (λb u hc _ n=>?_) (λb u _ e=>⟨u,e⟩)
  (λb xs e=>by rw[aF (ne b _ e)];exact e) (λb u xs e=>by rw[aF (ne b _ e)];exact e) (λb ps e=>by rw[aF (ne b _ e)];exact e) (λm hm=>hm) (λb u e=>?_) I.bare
 ·have e:b=D:=by simpa using hb
  subst e;exact⟨.inr h1,h2,h3,h4⟩
 ·rw[aF (λz=>hc (by simp[z]))];exact n
 ·by_cases hb:b=D
  ·subst hb;rw[ar]at e;cases e;exact ho
  ·rw[aF hb]at e;exact(I.hok b u e).tN (λ_ _ _ q=>q) (λc q=>by rw[aF (ne c _ q)];exact q) (λc xs q=>by rw[aF (ne c _ q)];exact q) λc ob v q=>by rw[aF (ne c _ q)];exact q
def xf{N:List Str}{link:List (Option Nat)}(S:fP X N link scope)(I:Inv X ae σ H s)(RP:∀b∈fp,mS X ae H b)
  (hC:s.heap.objs.size<=C) (ns:h.Ns C λ_=>none) (hk:∀b o,s.heap.get? b=some o->h.get? b=some o) (TN:∀b∈fp,∃o,s.heap.get? b=some o) :
  Inv (bI X N scope C s H fp) [] (gA link σ) H {s with heap:=h,toks:=tk}:=by
 have tQ:∀y∈scope.names,y.2=.free->∃c,X.env.cells.lookup y.1=some c:=λy hy hf=>I.ok.has y.1 (S.free y hy hf)
 have TQ:∀x c,X.env.cells.lookup x=some c->c<s.heap.objs.size:=λx c e=>let ⟨v,o,ho,_⟩:=I.cell x c e;az ho
 refine⟨⟨I.ok.mod,S.kind,I.ok.glob,I.ok.blt,hC,λx y c h1 h2=>I.ok.inj x y c (cN h1) (cN h2),λx hx=>?_,λx c hx=>(by cases hx),I.ok.hd,I.ok.frames,.inl rfl,λb hb=>⟨?_,λx c e=>(RP b hb).2.2.2.2.1 x c (cN e)⟩,I.bs,aL I.ok.bsz I.sz,
  λb o e hb=>?_,λb hb z=>?_,I.stack,I.rF,I.tabs⟩,rfl,I.bare,Un.kept hk,⟨_,ns,λi x v e1 e2 e3=>?_⟩,λx c e=>?_,I.hok.fresh hC,λx c e=>I.freeC x c (cN e),λp hp=>(by cases hp),I.hok.kept hk,by unfold gA;rw[ah];exact S.len⟩
 ·-- II cells Sj there
  have pW:=hx;have hf:scope.names.lookup x=some .free:=by
   rcases pW with h1 | h1
   ·rcases jO h1 with q | ⟨_,q⟩
    ·exact absurd rfl (S.cell _ (dF q))
    ·exact q
   ·rcases jO h1 with q | ⟨z,_⟩
    ·exact q
    ·cases z
  have hm:=dF hf;obtain⟨c,hc⟩:=ny scope.names [] hm (tQ _ hm rfl);exact fI hc
 ·intro z;obtain⟨o,ho⟩:=TN b hb;exact absurd (bG (az ho) (aL hC (gR z.symm))) (dg _)
 ·rcases(RP b hb).2.2.2.1 with z | z
  ·exact I.ok.noex b o e z
  ·exact absurd (bG (az e) (aL I.ok.bsz z)) (dg _)
 ·rcases aY.mp (I.rE b z)with q | q
  ·exact(RP b hb).2.1 q
  ·exact(RP b hb).2.2.1 q
 ·-- a slot: V4 XM from II TR
  have hi:i<link.length:=by
   have:=(cw.mp e2).1;unfold gA at this
   rwa [ah]at this
  unfold gA at e2;rw[bu,bF hi]at e2;have e2:=bz e2;cases z:link[i]with
  | none=>rw[z]at e2;cases e2
  | some j =>
   rw[z]at e2;have e2:(σ[j]?).join=some v:=e2;obtain⟨hX,hf⟩:=S.link i j x (by rw[bF hi,z]) e1
   have hm:=dF hf;have RQ:=S.free _ hm rfl;obtain⟨m,hn,hl⟩:=I.loc;obtain⟨u,r,l⟩:=hl j x v hX (by
    cases q:σ[j]? with
    | none=>rw[q]at e2;cases e2
    | some q'=>rw[q]at e2;cases q' with
     | none=>cases e2
     | some v'=>cases e2;rfl) (by rcases RQ with q | q;exact .inr (.inl q);exact .inr (.inr q))
   refine⟨u,r,.inr ⟨r9 hf,?_⟩⟩;obtain⟨c,hc⟩:=ny scope.names [] hm (tQ _ hm rfl);obtain⟨c',By⟩:=fI hc;refine⟨c',By,?_⟩;rcases l with⟨lk,_⟩ | ⟨_,d,hd,pw⟩
   ·rcases RQ with q | q<;>(rw[show X.env.kindOf x=some .local from lk]at q;cases q)
   ·have:=cN By;rw[hd]at this;cases this;exact pw.keeps hk
 ·obtain⟨v,o,ho,hd⟩:=I.cell x c (cN e);exact⟨v,o,hk _ _ ho,hd⟩
end
abbrev TB:=V->St->Hp->(Option V->St->Hp->Prop)->Prop
def PB(X:Cx)(tg:Expr)(ifs:List Expr)(elt:Expr)(tb:TB):Prop :=
 ∀(ae:List (Addr×Obj)) (s:Shared) (σ:St) (H:Hp) (v:V) (u:Value) (Q:Option V->St->Hp->Prop),Inv X ae σ H s->RelV v u->tb v σ H Q ->
  wpAny (model X.prog X.w) X.A (assign tg X.env u) (λ_ s2=>wpAny (model X.prog X.w) X.A (yM ifs X.env) (λok s3 =>
   if ok=true then wpAny (model X.prog X.w) X.A (eval elt X.env) (λy s4=>∃v' bc H',Inv X ae bc H' s4/\RelV v' y/\Q (some v') bc H') X.xe s3
   else ∃bc H',Inv X ae bc H' s3/\Q none bc H') X.xe s2) X.xe s
def Df(hg:PG X tg g)(he:PE X elt te):PB X tg [] elt (λv σ H Q=>g v σ H λgi H1=>te gi H1 λy H2=>Q (some y) gi H2):=by
 intro ae s σ H v u Q I r h;refine thn (hg ae s σ H v u _ I r h) λ_ s2 ⟨gi,H1,I1,q1⟩=>ag ?_
 rw[if_pos rfl];exact thn (he ae s2 gi H1 _ I1 q1) (by rintro y s4 ⟨v',H2,I2,r2,q2⟩;exact⟨v',gi,H2,I2,r2,q2⟩)
def Ha(hg:PG X tg g)(hc:PT X c tc)(he:PE X elt te) :
  PB X tg [c] elt (λv σ H Q=>g v σ H λgi H1=>tc gi H1 λb H2=>if b=true then te gi H2 λy H3=>Q (some y) gi H3 else Q none gi H2):=by
 intro ae s σ H v u Q I r h;refine thn (hg ae s σ H v u _ I r h) λ_ s2 ⟨gi,H1,I1,q1⟩=>?_
 refine wpAny_tests_one (thn (hc ae s2 gi H1 _ I1 q1) λb s3 ⟨H2,I2,q2⟩=>?_)
 cases b with
 | true =>
  rw[if_pos rfl]at q2 ⊢;exact thn (he ae s3 gi H2 _ I2 q2) (by rintro y s4 ⟨v',H3,I3,r3,q3⟩;exact⟨v',gi,H3,I3,r3,q3⟩)
 | false =>
  rw[if_neg du]at q2 ⊢;exact⟨gi,H2,I2,q2⟩
def pX(link:List (Option Nat))(wi:TI)(tb:TB):TE:=λσ H Q=>wi σ H λJ H1=>∃W:Nat->Nat->List V->St->Hp->Prop,(∃m,W 0 m [] (gA link σ) H1)/\∀i m acc bc H',W i m acc bc H' ->
 (J.stop i H'/\acc.length<=sizeLine/\∀D,H' D=none->Q (.ref D) (bS H' D (.lst acc))) \/
 (J.go i H'/\acc.length<sizeLine/\∀x H2,J.yld i H' x H2->tb x bc H2 λo lA H3=>∃m',m'<m/\W (i+1) m' (acc++o.toList) lA H3)
structure TU (X:Cx) (ae:List (Addr×Obj)) (H:Hp) (C:Addr):Prop where
 free:H C=none
 above:X.s₀.heap.objs.size<=C
 loc:C≠X.env.locals
 cell:∀x c,X.env.cells.lookup x=some c->c≠C
 pin:∀p∈X.pn++ae,p.1≠C
def pY(hc:X.calm=true)(S:fP X N link scope)(hi:PI X tg iter wi)
  (hb:∀(C:Addr) (s:Shared) (H:Hp) (fp:List Addr),PB (bI X N scope C s H fp) tg ifs elt tb) (hs:∀x,foldedSetIterable iter X.env x=pure x) (I:Inv X ae σ H s) (h:pX link wi tb σ H Q)
  (TV:∀(s5:Shared) (D C:Addr) (H5:Hp) (m:Str->Option Value),Inv X ae σ H5 s5->Q (.ref D) H5->s5.heap.Ns C m->TU X ae H5 C->compPost (model X.prog X.w) X.A X.xe use Q' (.ref D) C (.ok .next) s5) :
  wpAny (model X.prog X.w) X.A (comprehension (.ListComp elt [⟨tg,iter,ifs,0⟩] scope pos) scope X.env oF (newList []) false (eval iter X.env) use) Q' X.xe s:=by
 have tQ:∀y∈scope.names,y.2=.free->∃c,X.env.cells.lookup y.1=some c:=λy hy hf=>I.ok.has y.1 (S.free y hy hf)
 refine wpAny_comprehension_free rfl hs (xc tQ) S.kind S.names (thn (hi ae s σ H _ I h) λv s1 h1=>thn h1 λSO s2 h2=>?_)
 obtain⟨it,fp,tn,J,H2,rfl,I2,T,da,f2,W,⟨m0,w0⟩,mR⟩:=h2;refine iN (wpAny_newFunctionEnv S.cell (by grind) (λeV ns sb=>?_) S.kind)
 dsimp only at ns sb ⊢
 generalize hD:s2.heap.push {cls:=.type "list",dict:=none,data:=.seq [].toArray}=HD at ns sb ⊢
 have hC:HD.objs.size=s2.heap.objs.size+1:=by rw[<-hD,cy]
 have RR:s2.heap.objs.size≠HD.objs.size:=by grind
 have Dg:s2.heap.objs.size<=HD.objs.size:=by grind
 have old:∀b o,s2.heap.get? b=some o->eV.get? b=some o:=λb o e=>by
  have ux:=az e;exact sb.extBut b o (aJ (bG ux Dg)) (ax _ (by rw[<-hD];exact ax _ e))
 have TX:eV.get? s2.heap.objs.size=some {cls:=.type "list",data:=.seq [].toArray} :=
  sb.extBut _ _ RR (ax _ (by rw[<-hD];exact aU _ rfl))
 generalize eD:s2.heap.objs.size=D at *
 generalize eC:HD.objs.size=C at *
 have V5:∀b∈fp,∃o,s2.heap.get? b=some o:=λb ir=>let ⟨o,e,_⟩:=T.obj _ _ da b ir;⟨o,e⟩
 have I3:∀tk,Inv (bI X N scope C s2 H2 fp) [] (gA link σ) H2 {s2 with heap:=eV,toks:=tk}:=λtk =>
  xf S I2 f2 (by rw[eD];exact Dg) ns old V5
 have V6:∀b∈fp,b≠D:=λb ir z=>by
  obtain⟨o,e⟩:=V5 b ir;have:=az e;rw[z,<-eD]at this;exact dg _ this
 have wG:∀{H':Hp} {pl:List (Addr×Obj)},(∀b∈fp,H' b=none)->(∀p∈pl,p.1=D)->∀b∈fp,mS (bI X N scope C s2 H2 fp) pl H' b:=λ{H' pl} hn hp b ir=>by
  have K0:=(I3 0).ok.exf b ir;exact⟨hn b ir,K0.1,(I3 0).ok.exfs b ir,.inl ir,K0.2,λp vy z=>V6 b ir (z▸hp p (by simpa[bI]using vy))⟩
 have Pf:∀x c,(bI X N scope C s2 H2 fp).env.cells.lookup x=some c->c≠D:=λx c e z=>by
  obtain⟨v,o,ho,_⟩:=I2.cell x c (cN e);have:=az ho;rw[z,<-eD]at this;exact dg _ this
 have XN:D∉(bI X N scope C s2 H2 fp).fs:=λz=>by
  obtain⟨_,o,ho,_⟩:=I2.stack.mem z;have:=az ho;rw[<-eD]at this;exact dg _ this
 have loop:∀s3:Shared,s3={s2 with heap:=eV,toks:=s2.toks+([]:List (Str×Value)).length} ->
   codeAny (model X.prog X.w) X.A (.compLoop (.ListComp elt [⟨tg,iter,ifs,0⟩] scope pos) 0 (.ref it) (.ref D) (bI X N scope C s2 H2 fp).env) (compPost (model X.prog X.w) X.A X.xe use Q' (.ref D) C) s3:=by
  rintro s3 rfl
  refine An (λn s'=>∃i acc bc H' ai nn,Inv (bI X N scope C s2 H2 fp) [] bc H' s'/\tn i s'.heap/\(∀b∈fp,H' b=none)/\H' D=none/\s'.heap.get? D=some {cls:=.type "list",data:=.seq ai.toArray nn}/\Vals acc ai/\W i n acc bc H') ?_ m0
   ⟨0,[],_,H2,[],0,I3 _,T.keep _ _ _ da λb ir o e=>old b o e,λb ir=>(f2 b ir).1,I2.hok.fresh (gR eD),TX,.nil,w0⟩
  rintro n s4 ⟨i,acc,Jc,H4,ai,nn,I4,Fh,V7,XO,CK,hv,w4⟩
  have Ph:Inv (bI X N scope C s2 H2 fp) [(D,{cls:=.type "list",data:=.seq ai.toArray nn})] Jc H4 s4:=I4.jx λp hp=>by
   have e:p=(D,{cls:=.type "list",data:=.seq ai.toArray nn}):=by simpa using hp
   subst e;exact⟨CK,XO,RR,XN,λv=>by simp⟩
  have Dh:∀p∈[(D,({cls:=.type "list",data:=.seq ai.toArray nn}:Obj))],p.1=D:=λp hp=>by
   have e:p=(D,{cls:=.type "list",data:=.seq ai.toArray nn}):=by simpa using hp
   rw[e]
  rcases mR i n acc Jc H4 w4 with⟨stop,hz,q⟩ | ⟨go,hz,step⟩
  ·refine thn (T.done (bI X N scope C s2 H2 fp) rfl rfl rfl hc i _ s4 Jc H4 _ Ph (wG V7 Dh) Fh stop) λr s5 ⟨hr,I5⟩=>?_
   subst hr;obtain⟨m,hn,_⟩:=I5.loc;have pD:=I5.pin (D,{cls:=.type "list",data:=.seq ai.toArray nn}) (dE _ (b6.mpr rfl))
   have Jf:∀b o,s2.heap.get? b=some o->b≠D/\b≠C:=λb o e=>by
    have:=az e;rw[eD]at this;exact⟨aJ this,aJ (bG this Dg)⟩
   have Jg:X.env.locals≠D/\X.env.locals≠C:=by
    have:=I2.lt;rw[eD]at this;exact⟨aJ this,aJ (bG this Dg)⟩
   have I6:=I2.IQ I5.os I5.base I5.hok I5.bare λb ir=>⟨(f2 b ir).2.2.2.1,(f2 b ir).2.1,(f2 b ir).2.2.2.2.1,(f2 b ir).2.2.2.2.2⟩
   have I7:=Inv.adopt (o:=.lst acc) I6 pD.2.1 (aL I2.sz (gR eD)) (bA Jg.1) (λx c e=>let ⟨v,o,ho,_⟩:=I2.cell x c e;(Jf c o ho).1)
    (λp hp=>(Jf p.1 p.2 (I2.pin p hp).1).1) ⟨hz,ai,nn,hv,pD.1⟩
   exact TV s5 D C _ m I7 (q D pD.2.1) hn ⟨by rw[aF (bA RR)];exact I5.free,aL (aL I2.sz (gR eD)) Dg,bA Jg.2,λx c e=>let ⟨v,o,ho,_⟩:=I2.cell x c e;(Jf c o ho).2,λp hp=>(Jf p.1 p.2 (I2.pin p hp).1).2⟩
  ·refine thn (T.item (bI X N scope C s2 H2 fp) rfl rfl rfl hc i _ s4 Jc H4 _ Ph (wG V7 Dh) Fh go) λr s5 ⟨u,hr,h5⟩=>?_
   subst hr;refine thn h5 λ_ V8 z9=>?_
   obtain⟨x,H5,I5,r5,y5,Kj,SU⟩:=z9;have SV:=I5.pinned (wG SU Dh) (T.obj _ _ Kj);have gT:∀{o:Option V} {RD:St} {H6:Hp} {s6:Shared},Inv (bI X N scope C s2 H2 fp) ([(D,{cls:=.type "list",data:=.seq ai.toArray nn})]++mT fp V8.heap) RD H6 s6 ->
     tn (i+1) s6.heap/\(∀b∈fp,H6 b=none)/\H6 D=none/\s6.heap.get? D=some {cls:=.type "list",data:=.seq ai.toArray nn}:=λ{o RD H6 s6} I6=>by
    have pD:=I6.pin (D,_) (dE _ (mi _ (b6.mpr rfl)));refine⟨T.keep _ _ _ Kj λb ir o e=>(I6.pin (b,o) (dE _ (dE _ (gj ir e)))).1,λb ir=>?_,pD.2.1,pD.1⟩
    obtain⟨o,e,d⟩:=T.obj _ _ Kj b ir;exact(I6.pin (b,o) (dE _ (dE _ (gj ir e)))).2.1
   refine mL (hb C s2 H2 fp _ V8 Jc H5 x u _ SV r5 (step x H5 y5)) (λ_ s6 h6=>mL h6 (λok s7 h7=>?_) λ_ _ z=>False.elim z) λ_ _ z=>False.elim z
   cases ok with
   | false =>
    rw[if_neg du]at h7 ⊢;obtain⟨RS,H8,I8,m',TY,w8⟩:=h7;obtain⟨a1,a2,a3,a4⟩:=gT (o:=none) I8;exact⟨m',TY,i+1,_,RS,H8,ai,nn,I8.jx (λp hp=>by cases hp),a1,a2,a3,a4,by simpa using hv,w8⟩
   | true =>
    rw[if_pos rfl]at h7 ⊢;refine mL h7 (λy s8 z9=>?_) λ_ _ z=>False.elim z
    obtain⟨v8,RS,H8,I8,r8,m',TY,w8⟩:=z9;obtain⟨a1,a2,a3,a4⟩:=gT (o:=some v8) I8;have hl:=hv.length;refine dh F.slot_list_append ⟨_,a4,rfl⟩ F.entry_list_append (F.args_list_append_2 _ _) (PySem.list_append D ai.toArray nn y (by rw[bK];lia)) ⟨a4,?_⟩
    have I9:Inv (bI X N scope C s2 H2 fp) [] RS H8 s8:=I8.jx (λp hp=>by cases hp)
    have qq:=PySem.IsL.update a4 λz=>z.push y
    have hp:ai.toArray.push y=(ai++[y]).toArray:=by simp
    rw[hp]at qq;refine⟨m',TY,i+1,_,RS,H8,ai++[y],_,I9.turned (λb o hne e=>(gK _ _ (bA hne)).trans e) a3 RR (.inr (gR eD)) Pf (λp hp=>by simp[bI]at hp),T.keep _ _ _ a1 λb ir o e=>(gK _ _ (bA (V6 b ir))).trans e,a2,a3,qq,hv.append (.cons r8 .nil),w8⟩
 exact codeAny_compStart_list (loop _ rfl) (T.self _ 0 _ _ _ (T.keep _ _ _ da λb ir o e=>old b o e) (loop _ rfl))
def yN(hc:X.calm=true)(S:fP X N link scope)(hi:PI X tg iter wi)
  (hb:∀(C:Addr) (s:Shared) (H:Hp) (fp:List Addr),PB (bI X N scope C s H fp) tg ifs elt tb) (hs:∀x,foldedSetIterable iter X.env x=pure x:=by intro _;rfl) :
  PE X (.ListComp elt [⟨tg,iter,ifs,0⟩] scope pos) (pX link wi tb):=by
 intro ae s σ H Q I h;rw[eval_ListComp];refine pY hc S hi hb hs I h λs5 D C H5 m I5 q hn L=>⟨m,hn,λh' sb=>?_⟩
 exact⟨.ref D,H5,I5.turned (λb o hne e=>(sb.2 b hne).trans e) L.free L.loc (.inr L.above) L.cell L.pin,rfl,q⟩
def yO(hc:X.calm=true)(hN:X.N.Nodup)(hx:X.N[i]?=some x)(hl:X.env.scope.names.lookup x=some .local)(S:fP X N link scope)(hi:PI X tg iter wi)
  (hb:∀(C:Addr) (s:Shared) (H:Hp) (fp:List Addr),PB (bI X N scope C s H fp) tg ifs elt tb) (hw:swapsWith (.ListComp elt [⟨tg,iter,ifs,0⟩] scope pos) (some (.Name x oF)) Ao.line X.env=pure true) (hs:∀x,foldedSetIterable iter X.env x=pure x:=by intro _;rfl) :
  PS X (.Assign [.Name x oF] (.ListComp elt [⟨tg,iter,ifs,0⟩] scope pos) Ao) (FX (pX link wi tb) (gName i)):=by
 intro ae s σ H D I h;rw[exec_Assign_Name_used _ _ _ _ hw];refine af (rh (af ?_));refine af (thn (pY hc S hi hb hs I h λs5 a C H5 m I5 q hn L=>?_) λ_ s' q=>ag (ag q))
 refine wpAny_assign_Name (store_ok2 (v:=.ref a) I5 hN hx (.inl hl) rfl (λs6 I6 k=>?_) (.inr hl))
 refine⟨m,?_,λh' sb=>?_⟩
 ·obtain⟨o,es,ep,ho,r⟩:=hn;obtain⟨b,XQ,XR⟩:=k;have ne:C≠b:=λz=>by
   rcases XR with w | w
   ·exact L.loc (z.trans w)
   ·exact L.cell x b w z.symm
  exact⟨o,es,ep,(XQ.2 C ne).trans ho,r⟩
 ·exact⟨_,H5,I6.turned (λb o hne e=>(sb.2 b hne).trans e) L.free L.loc (.inr L.above) L.cell L.pin,q⟩
def cY(link:List (Option Nat))(ρ:List (Option PV)):List (Option PV):=link.map λo=>o.bind λj=>(ρ[j]?).join
def KG(L:List Nat)(g:Tg):Prop:=∀p st aH,g p st=some aH->aH.ρ.length=st.ρ.length/\∀j:Nat,j∉L->aH.ρ[j]?=st.ρ[j]?
def Pj(L:List Nat)(g:Ny):Prop:=∀p st aH,g p st=some aH->aH.ρ.length=st.ρ.length/\∀j:Nat,j∉L->aH.ρ[j]?=st.ρ[j]?
def Hb(i:Nat):KG [i] (cC i):=λp st aH h=>by
 obtain⟨_,rfl⟩:=aw h;exact⟨qW,λj hj=>iK (λz=>hj (by simp[z]))⟩
def Hc:Pj [] m8:=λp st aH h=>by
 cases p with
 | nil=>cases h;exact⟨rfl,λ_ _=>rfl⟩
 | cons _ _=>cases h
def Di(h1:KG L g)(h2:Pj M r):Pj (L++M) (dk g r):=λp st aH h=>by
 cases p with
 | nil=>cases h
 | cons p ps =>
  obtain⟨da,e1,e2⟩:=aD h;obtain⟨l1,k1⟩:=h1 p st da e1;obtain⟨l2,k2⟩:=h2 ps da aH e2;exact⟨l2.trans l1,λj hj=>(k2 j λz=>hj (dE _ z)).trans (k1 j λz=>hj (mi _ z))⟩
def Lz(h:Pj L r):KG L (kE n r):=λp st aH e=>by
 unfold kE at e;split at e
 ·obtain⟨_,e⟩:=bt e;exact h _ st aH e
 ·obtain⟨_,e⟩:=bt e;exact h _ st aH e
 ·cases e
section
variable {K:W.Frag} {F:Fz} {ρ:List (Option PV)} {σ:St}
def Lc.gA(L:Lc K F ρ σ)(link:List (Option Nat)):Lc K F (cY link ρ) (gA link σ) where
 av:=λi p e=>by
  unfold cY at e;rw[bu]at e;cases z:link[i]? with
  | none=>rw[z]at e;cases e
  | some o =>
   rw[z]at e;cases o with
   | none=>cases e
   | some j =>
    have e:(ρ[j]?).join=some p:=bz e;cases w:ρ[j]? with
    | none=>rw[w]at e;cases e
    | some q =>
     rw[w]at e;cases e;obtain⟨v,h1,h2⟩:=L.av j p w;refine⟨v,?_,h2⟩;unfold L2.U.gA;rw[bu,z];show some ((σ[j]?).join)=_;rw[h1];rfl
 len:=by unfold cY L2.U.gA;rw[ah,ah]
def Lc.back{L:List Nat}(R:Lc K F TZ σ)(hl:T1.length=σ.length)(h0:T1=cY link ρ)(hk:∀j:Nat,j∉L->TZ[j]?=T1[j]?)(hL:∀i∈L,link[i]?=some none):Lc K F T1 σ where
 av:=λi p e=>by
  refine R.av i p ?_;rw[hk i λhi=>?_]
  ·exact e
  ·rw[h0]at e;unfold cY at e;rw[bu,hL i hi]at e;cases e
 len:=hl
end
def T2{α:Type}:Rs α×bN->Option (α×List aj)
 | (.ok a,st)=>some (a,st.h)
 | _=>none
abbrev Bd:=List (Option PV)->PV->List aj->Option (Option PV×List aj)
def nz(g:Tg)(fe:Gx PV):Bd:=λρ p h=>(g p ⟨ρ,h⟩).bind λaH=>(fe aH).bind λr=>(T2 r).map λx=>(some x.1,x.2)
def Dj(g:Tg)(ft:Gx Bool)(fe:Gx PV):Bd:=λρ p h=>(g p ⟨ρ,h⟩).bind λaH=>(ft aH).bind λr=>match r with
 | (.ok b,da)=>if b=true then(fe da).bind λr=>(T2 r).map λx=>(some x.1,x.2)else some (none,da.h)
 | _=>none
def jP(bd:PV->List aj->Option (Option PV×List aj)):List PV->List aj->Option (List PV×List aj)
 | [],h=>some ([],h)
 | p::ps,h=>(bd p h).bind λr=>(jP bd ps r.2).map λs=>(r.1.toList++s.1,s.2)
section
variable {X:Cx} {aa:Hp} {ab:Fz} {N:List Str} {link:List (Option Nat)} {scope:Scope} {tg iter elt c:Expr} {pos:Pos} {fi:Gx (List PV)} {g:Tg} {fe:Gx PV} {ft:Gx Bool} {L:List Nat} {cl:Bool}
def uy(e:T2 r=some (a,h)):∃st,r=(.ok a,st)/\st.h=h:=by
 obtain⟨r,st⟩:=r;cases r with
 | ok x=>cases e;exact⟨st,rfl,rfl⟩
 | ex m C=>cases e
def _root_.L2.U.PB.imp(h:PB Y tg ifs elt tb)(i:∀v σ H Q,XS v σ H Q->tb v σ H Q):PB Y tg ifs elt XS:=λae s σ H v u Q I r w=>h ae s σ H v u Q I r (i _ _ _ _ w)
def V9(X:Cx)(aa:Hp)(ab:Fz)(g:Tg)(fe:Gx PV):TB:=λv σ H Q=>tG X.K aa ab g v σ H λgi H1=>∀Y:Cx,Y.K=X.K->tE Y aa ab fe gi H1 λy H2=>Q (some y) gi H2
def Wa(X:Cx)(aa:Hp)(ab:Fz)(g:Tg)(ft:Gx Bool)(fe:Gx PV):TB:=λv σ H Q=>tG X.K aa ab g v σ H λgi H1=>∀Y:Cx,Y.K=X.K->tT Y aa ab ft gi H1 λt H2=>if t=true then tE Y aa ab fe gi H2 λy H3=>Q (some y) gi H3 else Q none gi H2
section
variable (ht:∀(C:Addr) (s:Shared) (H:Hp) (fp:List Addr),PG (bI X N scope C s H fp) tg (tG X.K aa ab g)) (he:∀(C:Addr) (s:Shared) (H:Hp) (fp:List Addr),PE (bI X N scope C s H fp) elt (tE (bI X N scope C s H fp) aa ab fe))
include ht he
def Wb(C:Addr)(s:Shared)(H:Hp)(fp:List Addr):PB (bI X N scope C s H fp) tg [] elt (V9 X aa ab g fe) :=
 (Df (ht C s H fp) (he C s H fp)).imp (by rintro v σ H Q ⟨F,st,p,bB,R,b,e,q⟩;exact⟨F,st,p,bB,R,b,e,λbc H' F' R' g'=>q bc H' F' R' g' _ rfl⟩)
def Wc(hw:∀(C:Addr) (s:Shared) (H:Hp) (fp:List Addr),PT (bI X N scope C s H fp) c (tT (bI X N scope C s H fp) aa ab ft))(C:Addr)(s:Shared)(H:Hp)(fp:List Addr):PB (bI X N scope C s H fp) tg [c] elt (Wa X aa ab g ft fe) :=
 (Ha (ht C s H fp) (hw C s H fp) (he C s H fp)).imp (by rintro v σ H Q ⟨F,st,p,bB,R,b,e,q⟩;exact⟨F,st,p,bB,R,b,e,λbc H' F' R' g'=>q bc H' F' R' g' _ rfl⟩)
end
def lT(h:tS X aa ab (m9 fe (cC i)) D σ H):tE X aa ab fe σ H λv H1=>D.nx (σ.set i (some v)) H1:=by
 obtain⟨F,st,R,h⟩:=h;refine⟨F,st,R,h.bnd λp v F1 aH H1 R1 g1 b1 h1=>?_⟩
 obtain⟨bB,e,z⟩:=h1.stp;obtain⟨hi,rfl⟩:=aw e;exact z F1 _ H1 ⟨R1.c,R1.l.set hi b1⟩ (Gr.refl _)
end
def SI(h:Heap)(it l:Addr)(k:Nat)(xs:Array Value):Prop:=(h.IsListIter it l k/\h.IsList l xs)\/(h.IsTupleIter it l k/\h.IsTuple l xs)
def SI.at{h h':Heap}{it l:Addr}{k:Nat}{xs:Array Value}(x:SI h it l k xs)(h1:∀o,h.get? it=some o->h'.get? it=some o)(h2:∀o,h.get? l=some o->h'.get? l=some o):SI h' it l k xs:=by
 rcases x with⟨⟨o,e,r⟩,⟨o',e',r'⟩⟩ | ⟨⟨o,e,r⟩,⟨o',e',r'⟩⟩
 ·exact .inl ⟨⟨o,h1 o e,r⟩,⟨o',h2 o' e',r'⟩⟩
 ·exact .inr ⟨⟨o,h1 o e,r⟩,⟨o',h2 o' e',r'⟩⟩
def SI.Jh{h:Heap}{it l:Addr}{k:Nat}{xs:Array Value}(x:SI h it l k xs):∃o,h.get? it=some o/\∃vs,o.data=.fields vs:=by
 rcases x with⟨⟨o,e,_,d⟩,_⟩ | ⟨⟨o,e,_,d⟩,_⟩
 ·grind
 ·grind
def SI.sq{h:Heap}{it l:Addr}{k:Nat}{xs:Array Value}(x:SI h it l k xs):∃o n,h.get? l=some o/\o.data=.seq xs n:=by
 rcases x with⟨_,⟨o,e,_,n,d⟩⟩ | ⟨_,⟨o,e,_,n,d⟩⟩
 ·grind
 ·grind
def SI.ne{h:Heap}{it l:Addr}{k:Nat}{xs:Array Value}(x:SI h it l k xs):l≠it:=λz=>by
 obtain⟨o,e,vs,d⟩:=x.Jh;obtain⟨o',n,e',d'⟩:=x.sq;subst z;rw[e]at e';cases e';rw[d]at d';cases d'
section
variable {prog:Program} {w:World} {A:Around} {E:Value->Shared->Prop} {s:Shared}
def xg{it t:Addr}{i:Nat}{ai:Array Value}{x:Value}{Q:Value->Shared->Prop}(LA:s.heap.IsTupleIter it t i)(ht:s.heap.IsTuple t ai)(hx:ai[i]?=some x)
  (hQ:∀h',h'.IsTupleIter it t (i+1)->Heap.SameBut it s.heap h'->Q x {s with heap:=h'}):wpAny (model prog w) A (Builtin.SmallTypes.nextOf (.ref it)) Q E s:=by
 obtain⟨o,ho,hc,hd⟩:=id LA;obtain⟨ol,nA,_,nl,Ji⟩:=ht;refine af (d0 LA.typeIs qH (d7 qH LA.typeIs BI (by
  show wpAny _ _ (field (.ref it) 0 >>= _) _ _ s;refine af (bR ho hd rfl ?_);show wpAny _ _ (if(Value.ref t==Value.none)=true then _ else _) _ _ s
  rw[if_neg (show ¬((Value.ref t==Value.none)=true)from du)]
  show wpAny _ _ (field (.ref it) 1 >>= _) _ _ s;refine af (bR ho hd (x:=.int i 0) rfl ?_);show wpAny _ _ (seqItems? (.ref t) >>= _) _ _ s;refine af (eM nA Ji ?_);simp only[ki,hx];refine af (wpAny_setField ho hd (by simp) (ag ⟨x,rfl,ag (hQ _ ⟨_,gL _ ho (Obj.isFreed_of_fields (Obj.data_mapFields hd _)),(Obj.cls_mapFields ..).trans hc,by rw[Obj.data_mapFields hd];simp[rawInt]⟩ (vQ ..))⟩))) (BH _)))
def xh{it t:Addr}{i:Nat}{ai:Array Value}{Q:Value->Shared->Prop}(hh:A.handled=none)(LA:s.heap.IsTupleIter it t i)(ht:s.heap.IsTuple t ai)(hx:ai[i]?=none)
  (hE:∀h' e,Heap.ExtBut it s.heap h'->(∃o,h'.get? e=some o/\o.cls=.type "StopIteration")->E (.ref e) {s with heap:=h'}):wpAny (model prog w) A (Builtin.SmallTypes.nextOf (.ref it)) Q E s:=by
 obtain⟨o,ho,hc,hd⟩:=id LA;obtain⟨ol,nA,_,nl,Ji⟩:=ht;refine af (d0 LA.typeIs qH (d7 qH LA.typeIs BI (by
  show wpAny _ _ (field (.ref it) 0 >>= _) _ _ s;refine af (bR ho hd rfl ?_);refine af (bR ho hd (x:=.int i 0) rfl ?_);show wpAny _ _ (seqItems? (.ref t) >>= _) _ _ s;refine af (eM nA Ji ?_);simp only[ki,hx];refine af (gS (af (wpAny_setField ho hd (by simp) ?_)))
  show wpAny _ _ (newExc (.type "StopIteration") [] >>= _) _ _ _;refine af ?_;simp only[newExc,newTuple];refine af (iN ?_ (by size_fits))
  refine af (m:=firstArgMember _ _) (wpAny_of_eq (a:=Value.none) (by first | rfl | (simp only[firstArgMember];rfl)) ?_)
  refine iN ?_ (by size_fits)
  simp only[raiseNew];refine af (wpAny_handled ?_)
  first | rw[show A.in1.handled=none from hh] | rw[hh]
  exact af (ag (wpAny_throw (hE _ _ (((vQ ..).extBut.push _).push _) ⟨_,aU _ rfl,rfl⟩)))) (BH _)))
def SI.next{it l:Addr}{k:Nat}{xs:Array Value}{x:Value}{Q:Value->Shared->Prop}(hi:SI s.heap it l k xs)(hx:xs[k]?=some x)(hQ:∀h',SI h' it l (k+1) xs->Heap.SameBut it s.heap h'->Q x {s with heap:=h'}) :
  wpAny (model prog w) A (Builtin.SmallTypes.nextOf (.ref it)) Q E s:=by
 have ne:=hi.ne;rcases hi with⟨h1,h2⟩ | ⟨h1,h2⟩
 ·exact wpAny_nextOf_list_item h1 h2 hx λh' a b=>hQ h' (.inl ⟨a,h2.extBut b.extBut ne⟩) b
 ·exact xg h1 h2 hx λh' a b=>hQ h' (.inr ⟨a,h2.extBut b.extBut ne⟩) b
def SI.stop{it l:Addr}{k:Nat}{xs:Array Value}{Q:Value->Shared->Prop}(hh:A.handled=none)(hi:SI s.heap it l k xs)(hx:xs[k]?=none)
  (hE:∀h' e,Heap.ExtBut it s.heap h'->(∃o,h'.get? e=some o/\o.cls=.type "StopIteration")->E (.ref e) {s with heap:=h'}):wpAny (model prog w) A (Builtin.SmallTypes.nextOf (.ref it)) Q E s:=by
 rcases hi with⟨h1,h2⟩ | ⟨h1,h2⟩
 ·exact wpAny_nextOf_list_end hh h1 h2 hx hE
 ·exact xh hh h1 h2 hx hE
end
def nl{a b:Nat}(h:a<b):@Ne Addr a b:=aJ h
section
variable {prog:Program} {w:World} {A:Around} {E:Value->Shared->Prop} {s:Shared} {z TI TO i1 i2 l1 l2:Nat} {k:Nat} {xs ys:Array Value}
def fQ(h:Heap)(l:Addr)(xs:Array Value)(c:String):Prop:=(c="list_iterator"/\h.IsList l xs)\/(c="tuple_iterator"/\h.IsTuple l xs)
def iw{l:Addr}{xs:Array Value}{c:String}{Q:Value->Shared->Prop}(h:fQ s.heap l xs c)(hQ:Q (.ref s.heap.objs.size) {s with heap:=s.heap.push {cls:=.type c,data:=.fields #[.ref l,.int 0 0]}}):wpAny (model prog w) A (pyIter (.ref l)) Q E s:=by
 rcases h with⟨rfl,h⟩ | ⟨rfl,h⟩
 ·exact kh h hQ
 ·exact vT h hQ
end
def oC(K:W.Frag)(H:Hp)(c:Bool)(l:Addr)(vs:List V):Prop:=if c=true then rG K H l vs else ek K H l vs
def BA(h:Heap)(c:Bool)(it l:Addr)(k:Nat):Prop:=if c=true then h.IsListIter it l k else h.IsTupleIter it l k
def iB(c:Bool):String:=if c=true then "list_iterator" else "tuple_iterator"
section
variable {X:Cx} {ae:List (Addr×Obj)} {σ:St} {H:Hp} {s:Shared}
def oC.get(I:Inv X ae σ H s){c:Bool}{l:Addr}{vs:List V}(h:oC X.K H c l vs):∃ai:List Value,Vals vs ai/\fQ s.heap l ai.toArray (iB c):=by
 unfold iB;cases c with
 | true =>
  obtain⟨ai,r,pl,_⟩:=I.list (h);exact⟨ai,r,.inl ⟨rfl,pl.isList⟩⟩
 | false =>
  obtain⟨ai,r,pl,_⟩:=I.tuple (h);exact⟨ai,r,.inr ⟨rfl,pl⟩⟩
def oC.inj(I:Inv X ae σ H s){c:Bool}{l:Addr}{vs ws:List V}(h:oC X.K H c l vs)(h':oC X.K H c l ws):vs=ws:=by
 cases c with
 | true=>exact I.jz h h'
 | false=>exact I.iq h h'
def pZ{h:Heap}{c:Bool}{it l:Addr}{k:Nat}{xs:Array Value}(h1:BA h c it l k)(h2:fQ h l xs (iB c)):SI h it l k xs:=by
 cases c with
 | true =>
  rcases h2 with⟨_,q⟩ | ⟨q,_⟩
  ·exact .inl ⟨h1,q⟩
  ·exact absurd q (by decide)
 | false =>
  rcases h2 with⟨q,_⟩ | ⟨_,q⟩
  ·exact absurd q (by decide)
  ·exact .inr ⟨h1,q⟩
def sd{h:Heap}{c:Bool}{it l:Addr}{k k':Nat}{xs:Array Value}{h0:Heap}(h1:SI h it l k xs)(h2:fQ h0 l xs (iB c))(kp:∀o,h0.get? l=some o->h.get? l=some o):BA h c it l k:=by
 cases c with
 | true =>
  rcases h2 with⟨_,⟨o,e,hc,_⟩⟩ | ⟨q,_⟩
  ·rcases h1 with⟨a,_⟩ | ⟨_,⟨o',e',By,_⟩⟩
   ·exact a
   ·grind
  ·exact absurd q (by decide)
 | false =>
  rcases h2 with⟨q,_⟩ | ⟨_,⟨o,e,hc,_⟩⟩
  ·exact absurd q (by decide)
  ·rcases h1 with⟨_,⟨o',e',By,_⟩⟩ | ⟨a,_⟩
   ·grind
   ·exact a
def Inv.turns{t':Nat}{h':Heap}{ch:List Addr}(I:Inv X ae σ H s)(hf:∀b∈ch,mS X ae H b)(kp:∀b o,b∉ch->s.heap.get? b=some o->h'.get? b=some o):Inv X ae σ H {s with heap:=h',toks:=t'}:=by
 have N1:∀b u,H b=some u->b∉ch:=λb u e z=>by rw[(hf b z).1]at e;cases e
 refine I.step (λb hb=>⟨(hf b hb).2.2.2.1,(hf b hb).2.1,(hf b hb).2.2.2.2.1,(hf b hb).2.2.2.2.2⟩) (λb o _ _ hc e _=>kp b o hc e) (λb o _ _ hc e _=>⟨o.slots,kp b o hc e⟩) (λ_ _ _ _ n=>n)
  (λb o hc e=>⟨o,kp b o hc e⟩) (λ_ _ e=>e) (λ_ _ _ e=>e) (λ_ _ e=>e) (λm hm=>?_) (λb u e=>?_) I.bare
 ·obtain⟨o,es,ep,ho,r⟩:=hm;exact⟨o,es,ep,kp _ o (λz=>(hf _ z).2.1 rfl) ho,r⟩
 ·refine(I.hok b u e).tN (λc v hc q=>kp c v ?_ q) (λ_ q=>q) (λ_ _ q=>q) λ_ _ _ q=>q
  rcases hc with z | z
  ·rw[z];exact N1 b u e
  ·exact N1 c _ z
end
def BA.at{h h':Heap}{c:Bool}{it l:Addr}{k:Nat}(x:BA h c it l k)(h1:∀o,h.get? it=some o->h'.get? it=some o):BA h' c it l k:=by
 cases c with
 | true =>
  obtain⟨o,e,r⟩:=(x);exact(⟨o,h1 o e,r⟩)
 | false =>
  obtain⟨o,e,r⟩:=(x);exact(⟨o,h1 o e,r⟩)
def BA.obj{h:Heap}{c:Bool}{it l:Addr}{k:Nat}(x:BA h c it l k):∃o,h.get? it=some o/\∀v,o.data≠.cell v:=by
 unfold BA at x;split at x
 ·obtain⟨o,e,_,d⟩:=x;exact⟨o,e,λv=>by grind⟩
 ·obtain⟨o,e,_,d⟩:=x;exact⟨o,e,λv=>by grind⟩
def Dk{prog:Program}{w:World}{A:Around}{it l:Addr}{xs:Array Value}(hh:A.handled=none):Draws prog w A it [it,l] xs.size (λi x=>xs[i]?=some x) (λi h=>SI h it l i xs) where
 live:=λi h st=>by
  obtain⟨o,e,_⟩:=st.Jh;exact⟨o,e⟩
 frame:=λi h h' st k=>st.at (λo e=>k it (by simp) o e) (λo e=>k l (by simp) o e)
 item:=λi s Q E hi st hQ=>SI.next st (l9 hi) λh' a b=>hQ _ h' s.toks (l9 hi) a b
 done:=λs Q E st hE=>SI.stop hh st (iJ (aq _)) hE
set_option maxHeartbeats 2000000 in
theorem Dl(l:Addr)(xs:Array Value)(c:String)(part:Obj) :
  Meets (Builtin.«enumerate.__new__» ⟨[.type "enumerate",.ref l],[]⟩) (λ_ R s=>fQ s.heap l xs c/\s.heap.get? l=some part /\
   ∀h1 h2:Heap,h1=s.heap.push {cls:=.type c,data:=.fields #[.ref l,.int 0 0]}->h2=h1.push {cls:=.type "enumerate",data:=.fields #[.none,.bool false,.ref s.heap.objs.size,rawInt 0,.none,.none]}->R (.ok (.ret (.ref h1.objs.size))) {s with heap:=h2}) :=
 .of_wp λprog w A R s h=>by
  obtain⟨hp,g,d,tk,os⟩:=s;obtain⟨hl,Y6,h⟩:=h;have hL:fQ (Shared.heap ⟨hp,g,d,tk,os⟩) l xs c:=hl;have se:=sub_enumerate;rcases hl with⟨rfl,⟨o,e,hc,n,hd⟩⟩ | ⟨rfl,⟨o,e,hc,n,hd⟩⟩
  ·obtain⟨oc,od,T3,Gi⟩:=o;replace hc:oc=.type "list":=hc;replace hd:T3=.seq xs n:=hd
   wp_walk using gJ e
   refine wpAny_stack_any λst=>ag ?_
   split
   ·rename_i c' _ _ _ _ _;cases(c'==Value.type "enumerate")<;>(wp_walk using gJ e,iw hL)<;>exact⟨_,rfl,h _ _ rfl rfl⟩
   ·wp_walk using gJ e,iw hL
    exact⟨_,rfl,h _ _ rfl rfl⟩
  ·obtain⟨oc,od,T3,Gi⟩:=o;replace hc:oc=.type "tuple":=hc;replace hd:T3=.seq xs n:=hd
   wp_walk using gJ e
   refine wpAny_stack_any λst=>ag ?_
   split
   ·rename_i c' _ _ _ _ _;cases(c'==Value.type "enumerate")<;>(wp_walk using gJ e,iw hL)<;>exact⟨_,rfl,h _ _ rfl rfl⟩
   ·wp_walk using gJ e,iw hL
    exact⟨_,rfl,h _ _ rfl rfl⟩
def He{prog:Program}{w:World}{A:Around}{E:Value->Shared->Prop}{s:Shared}{e it l:Addr}{k:Nat}{i:Int}{xs:Array Value}{old:Value}{Q:Option Value->Shared->Prop}(hh:A.handled=none)(a1:IsEnum s.heap e it i old)(st:SI s.heap it l k xs)(hx:xs[k]?=none)(hQ:∀h',Heap.ExtBut it s.heap h'->Q none {s with heap:=h'}):wpAny (model prog w) A (pyNext (.ref e)) Q E s:=by
 have ty:s.TypeIs (.ref e) "enumerate":=⟨_,a1,rfl⟩;unfold pyNext;refine af (iT (d0 ty F.slot_enumerate_next (d7 F.slot_enumerate_next ty F.entry_enumerate_next (by
  show wpAny _ _ (field (.ref e) 2 >>= _) _ _ _;refine af (bR a1 rfl rfl (af (SI.stop hh st hx λh' y sb ⟨o,ho,hc⟩=>?_)))
  exact af (qT ⟨o,ho,hc⟩ q8 (ag (hQ _ sb)))) (F.args_enumerate_next_1 _))))
def Wd(K:W.Frag)(c:Bool)(l:Addr):It where
 go:=λi H=>∃vs v,oC K H c l vs/\vs[i]?=some v
 yld:=λi H x H'=>∃T v,H T=none/\x=.ref T/\H'=bS H T (.ak [.int i,v])/\∀vs,oC K H c l vs->vs[i]?=some v
 stop:=λi H=>∃vs,oC K H c l vs/\vs.length<=i
def XT(e it l:Nat)(c:Bool)(i:Nat)(h:Heap):Prop:=(∃old,IsEnum h e it i old)/\BA h c it l i
def Hf{P:Program}{w:World}{K:W.Frag}{elts:List Expr}{x1:Nat}{zV:Pos}{e it l:Nat}{c:Bool}(ord:it<e)(o1:l<it) :
  Turn P w K (.Tuple elts x1 zV) (Wd K c l) [e,it] e (XT e it l c) where
 mem:=cb
 obj:=by
  rintro i h ⟨⟨_,a1⟩,a2⟩ b hb
  simp only[aY,cx,cA]at hb;rcases hb with rfl | rfl
  ·exact⟨_,a1,λv=>by simp⟩
  ·exact a2.obj
 keep:=(by rintro i h h' ⟨⟨old,a1⟩,a2⟩ k;exact⟨⟨old,k e (by simp) _ a1⟩,a2.at λo x=>k it (by simp) o x⟩)
 item:=by
  rintro X hP hw hK hc i ae s σ H E I hf ⟨⟨old,a1⟩,a2⟩ ⟨vs,v,hv,ev⟩
  subst hP hw hK;obtain⟨ai,r1,k1⟩:=hv.get I;obtain⟨x,ex,rx⟩:=r1.get ev;have ne:e≠it:=kr ord;have We:e≠l:=kr (gf o1 ord);have Ji:X.A.in1.handled=none:=I.ok.hd hc;refine wpAny_pyNext_enum_itemD (Dk (xs:=ai.toArray) (l:=l) Ji) a1 (pZ a2 k1) (by
   have:=(cw.mp ex).1;simpa using this) ne (by simp[ne,We]) λx' h' tk pW hO st hT Pd kp=>⟨_,rfl,?_⟩
  have xe:x'=x:=by
   have e1:ai.toArray[i]?=some x:=by simpa using ex
   rw[e1]at pW;cases pW;rfl
  subst xe;refine wpAny_letOwnedTupleGo_enum hO λLB T4 sb=>?_
  have Pk:∀b∈[e,it],b<s.heap.objs.size:=λb hb=>by
   simp only[aY,cx,cA]at hb;have h1:e<s.heap.objs.size:=az a1;rcases hb with rfl | rfl<;>lia
  have eT:e≠s.heap.objs.size:=aJ (Pk e (by simp))
  have Pm:∀b o,b∉[e,it]->s.heap.get? b=some o->LB.get? b=some o:=λb o hb z=>by
   simp only[aY,cx,cA,not_or]at hb;exact sb.extBut _ _ hb.1 (kp b o hb.1 hb.2 z)
  have I1:Inv X ae σ H {s with heap:=LB,toks:=tk+1}:=Inv.turns I hf Pm
  have hn:H s.heap.objs.size=none:=I.fresh;have Hg:=I.rH (H':=H) (aq _) hn;have pr:LB.get? s.heap.objs.size=some {cls:=.type "tuple",data:=.seq #[.int i tk,x']}:=sb.extBut _ _ (bA eT) hT
  have I2:=Inv.adopt (D:=s.heap.objs.size) (o:=.ak [.int i,v]) I1 hn (by
    rcases Hg.2.2.2.1 with q | q
    ·exact I.sz
    ·exact q) Hg.2.1 Hg.2.2.2.2.1 Hg.2.2.2.2.2 ⟨(by show 2<=sizeLine;decide),[.int i tk,x'],.cons ⟨tk,rfl⟩ (.cons rx .nil),⟨_,pr,rfl,⟨0,rfl⟩,rfl⟩⟩
  refine⟨.ref s.heap.objs.size,_,I2,rfl,⟨s.heap.objs.size,v,hn,rfl,rfl,λuq h1=>?_⟩,⟨⟨_,T4⟩,?_⟩,λb hb=>?_⟩
  ·rw[<-oC.inj I hv h1];exact ev
  ·have XU:l≠it:=aJ o1;have q:=sd (k':=i) st k1 λo z=>kp l o (bA We) XU z
   exact q.at λo z=>sb.extBut _ _ (bA ne) z
  ·rw[aF (aJ (Pk b hb))];exact(hf b hb).1
 done:=by
  rintro X hP hw hK hc i ae s σ H E I hf ⟨⟨old,a1⟩,a2⟩ ⟨vs,hv,he⟩
  subst hP hw hK;obtain⟨ai,r1,k1⟩:=hv.get I;have hz:ai.toArray[i]?=none:=iJ (by rw[bK,<-r1.length];exact he)
  refine He (I.ok.hd hc) a1 (pZ a2 k1) hz λh' sb=>⟨rfl,?_⟩
  exact Inv.turns (t':=s.toks) I hf λb o hb z=>by
   simp only[aY,cx,cA,not_or]at hb;exact sb b o hb.2 z
 self:=(by rintro A i s Q E ⟨⟨_,a1⟩,_⟩ q;exact wpAny_pyIter_enum a1 q)
def yP:Expr->Bool
 | .Tuple _ _ _=>true
 | _=>false
def lF:PV->Option (List PV)
 | .nd .ak ps=>some ps
 | .nd .lst ps=>some ps
 | _=>none
def dC(p q:PV):PV:=.ak [p,q]
def hJ{K:W.Frag}(h:lF p=some ps)(b:aS K F p x):∃c l vs,x=.ref l/\oC K F.F c l vs/\ao K F ps vs/\∀F',bQ F.F F'->oC K F' c l vs:=by
 unfold lF at h;split at h
 ·cases h;obtain⟨l,vs,rfl,h1,h2⟩:=aZ.mp b;exact⟨false,l,vs,rfl,h1,h2,λF' s=>aO s h1⟩
 ·cases h;obtain⟨l,vs,rfl,h1,h2⟩:=cg.mp b;exact⟨true,l,vs,rfl,h1.sq,h2,λF' s=>(fM s h1).sq⟩
 ·cases h
def Ap{K:W.Frag}(hs:rG K F.F a vs)(hb:ao K F ps vs):Walk K F ps (RC K a):=by
 intro aa ab F' st σ H R s i;have hq:=(s.s.trans R.sub).seq hs;refine⟨λp e=>?_,λe=>?_⟩
 ·obtain⟨v,e1,b1⟩:=hb.get e;refine⟨⟨vs,v,hq,e1⟩,λx H' ⟨hH,y⟩=>?_⟩
  subst hH;have:=y vs hq;rw[e1]at this;cases this;exact⟨F',R,Gr.refl _,b1.mono s⟩
 ·refine⟨vs,hq,?_⟩;rw[<-hb.length];exact eF.mp e
def Dn{K:W.Frag}(hs:ek K F.F a vs)(hb:ao K F ps vs):Walk K F ps (SQ K a):=by
 intro aa ab F' st σ H R s i;have hq:=aO (s.s.trans R.sub) hs;refine⟨λp e=>?_,λe=>?_⟩
 ·obtain⟨v,e1,b1⟩:=hb.get e;refine⟨⟨vs,v,hq,e1⟩,λx H' ⟨hH,y⟩=>?_⟩
  subst hH;have:=y vs hq;rw[e1]at this;cases this;exact⟨F',R,Gr.refl _,b1.mono s⟩
 ·refine⟨vs,hq,?_⟩;rw[<-hb.length];exact eF.mp e
def Aq(lo:Int)(n:Nat):List PV:=(List.range n).map fun(i:Nat)=>.int (lo+i)
def nB{K:W.Frag}(lo:Int)(n:Nat):Walk K F (Aq lo n) (Oc lo n):=by
 intro aa ab F' st σ H R s i;unfold Aq;refine⟨λp e=>?_,λe=>?_⟩
 ·rw[bu]at e;by_cases hi:i<n
  ·rw[vR hi]at e;cases e;exact⟨hi,λx H' ⟨hH,y⟩=>by subst hH y;exact⟨F',R,Gr.refl _,au.mpr rfl⟩⟩
  ·rw[mh (by simpa using hi)]at e;cases e
 ·rw[bu]at e;by_cases hi:i<n
  ·rw[vR hi]at e;cases e
  ·exact v5 hi
def hV:Nat->List PV->List PV
 | _,[]=>[]
 | k,p::r=>dC (.int k) p::hV (k+1) r
theorem kO:∀(ps:List PV) (k i:Nat),(hV k ps)[i]?=ps[i]?.map λp=>dC (.int ((k+i:Nat):Int)) p
 | [],k,i=>by simp[hV]
 | p::r,k,0=>by simp[hV]
 | p::r,k,i+1=>by
  simp only[hV,List.getElem?_cons_succ];rw[kO r (k+1) i,show k+1+i=k+(i+1) by lia]
def Hh{K:W.Frag}(k1:∀F',bQ F.F F'->oC K F' c l vs)(b1:ao K F ps vs):Walk K F (hV 0 ps) (Wd K c l):=by
 intro aa ab F' st σ H R s i;have h1:=k1 H (s.s.trans R.sub);refine⟨λp e=>?_,λe=>?_⟩
 ·rw[kO]at e;cases z1:ps[i]? with
  | none=>rw[z1]at e;cases e
  | some p1 =>
   rw[z1]at e;cases e;obtain⟨v,e1,LC⟩:=b1.get z1;refine⟨⟨vs,v,h1,e1⟩,λx H' z9=>?_⟩
   obtain⟨T,v',hn,hx,hH,t8⟩:=z9;have g1:=t8 vs h1;rw[e1]at g1;cases g1;subst hx hH;obtain⟨R2,s2⟩:=R.laid (.ak [.int i,v]) hn;refine⟨_,R2,s2,aZ.mpr ⟨T,[.int i,v],rfl,ek.of ar,.cons ?_ (.cons (LC.mono (s.trans s2)) .nil)⟩⟩;rw[Nat.zero_add];exact au.mpr rfl
 ·refine⟨vs,h1,?_⟩;rw[kO]at e;cases z1:ps[i]? with
  | none =>
   have:=eF.mp z1;rw[b1.length]at this;exact this
  | some p1=>rw[z1]at e;cases e
section
variable {X:Cx} {aa:Hp} {ab:Fz} {a b e tg:Expr} {fa fb:Gx PV} {ts:Gx (List PV)} {pos p:Pos}
def Hj(i j:Int):Bool:=decide (-(2^62)<=i/\i<2^62 /\ -(2^62)<=j/\j<2^62)
def Ar:List PV->Option (List PV)
 | [.int j]=>if Hj 0 j=true then some (Aq 0 j.toNat)else none
 | _=>none
def Hk:List PV->Option (List PV)
 | [.int i,.int j]=>if Hj i j=true then some (Aq i (j-i).toNat)else none
 | _=>none
def Dp(g:List PV->Option (List PV))(ts:Gx (List PV)):Gx (List PV):=bnd ts λps=>ez (g ps)
def Dq(hg:Gl X "range")(hm:X.mg "range"=none)(ha:PA X [a] (tA X aa ab ts))(hs:starEach [a] X.env=[(false,eval a X.env)]:=by rfl):PI X tg (.Call (.Name "range" p) [a] [] pos) (tI X aa ab (Dp Ar ts)) :=
 (zO hg hm ha hs).imp λσ H Rr ⟨F,st,R,h⟩=>⟨F,st,R,h.bnd λps vs F1 aH H1 R1 g1 b1 h1=>by
  obtain⟨o,e,z⟩:=h1.ez;unfold Ar at e;split at e
  ·obtain⟨hr,rfl⟩:=aw e;obtain⟨v,rfl,b⟩:=bU b1;obtain⟨_,_,h3,h4⟩:=d6 hr;rw[au.mp b];exact⟨_,rfl,h3,h4,z _ H1 F1 R1 (Gr.refl _) (nB 0 _)⟩
  ·cases e⟩
def Dr(hg:Gl X "range")(hm:X.mg "range"=none)(ha:PA X [a,b] (tA X aa ab ts))(hs:starEach [a,b] X.env=[(false,eval a X.env),(false,eval b X.env)])(vx:starEach [b] X.env=[(false,eval b X.env)]):PI X tg (.Call (.Name "range" p) [a,b] [] pos) (tI X aa ab (Dp Hk ts)) :=
 (zP hg hm ha hs vx).imp λσ H Rr ⟨F,st,R,h⟩=>⟨F,st,R,h.bnd λps vs F1 aH H1 R1 g1 b1 h1=>by
  obtain⟨o,e,z⟩:=h1.ez;unfold Hk at e;split at e
  ·obtain⟨hr,rfl⟩:=aw e;obtain⟨v,w,rfl,b,c⟩:=jM b1;have hr:=d6 hr;rw[au.mp b,au.mp c];exact⟨_,_,rfl,hr,z _ H1 F1 R1 (Gr.refl _) (nB _ _)⟩
  ·cases e⟩
def Ds(fa:Gx PV):Gx (List PV):=bnd fa λp=>ez ((lF p).map λps=>hV 0 ps)
def T5(ht:yP tg=true)(hg:Gl X "enumerate")(hm:X.mg "enumerate"=none)(ha:PE X a (tE X aa ab fa))(hs:starEach [a] X.env=[(false,eval a X.env)]) :
  PI X tg (.Call (.Name "enumerate" p) [a] [] pos) (tI X aa ab (Ds fa)):=by
 rintro ae s σ H R I ⟨F,st,Rp,h⟩
 have hA:=fx ha mW hs pos ae s σ H (λvs H'=>∃F' bB x pa ps,vs=[x]/\Rep X.K aa ab F' bB σ H'/\aS X.K F' pa x/\lF pa=some ps/\∀b Pn CY,Rep X.K aa ab CY bB σ Pn->Gr F' CY->Walk X.K CY (hV 0 ps) b->R b Pn) I
  ⟨F,st,Rp,h.bnd λp v F1 aH H1 R1 g1 b1 h1=>by
   obtain⟨o,e,z⟩:=h1.ez;obtain⟨ps,e1,rfl⟩:=aI e;exact⟨F1,aH,v,p,ps,rfl,R1,b1,e1,z⟩⟩
 refine Call_ (ld_blt I hg hm boot_enumerate (dD (thn hA λus s1 z9=>?_) hs rfl))
 obtain⟨vs,H1,I1,r1,F1,aH,x,pa,ps,ev,R1,b1,f3,q⟩:=z9;subst ev;obtain⟨u1,rfl,LD⟩:=gy r1;obtain⟨c1,l1,Wf,rfl,q1,NA,k1⟩:=hJ f3 b1;cases LD;obtain⟨ai,v1,Hl⟩:=(k1 H1 R1.sub).get I1;obtain⟨part,Jj⟩:∃o,s1.heap.get? l1=some o:=by
  rcases Hl with⟨_,⟨o,e,_⟩⟩ | ⟨_,⟨o,e,_⟩⟩
  ·grind
  ·grind
 have Po:=az Jj;refine callType_new PySem.F.called_enumerate (by decide) (PySem.F.typeCall_enumerate_1 _) (PySem.F.newCall_enumerate_1 _) (λobj=>PySem.F.args_object_init_2 obj _) PySem.F.entry_enumerate_new (Dl l1 ai.toArray (iB c1) part) ⟨Hl,Jj,λh1 h2 e1 e2=>?_⟩
 have z1:h1.objs.size=s1.heap.objs.size+1:=by simp_all
 have p1:∀b o,s1.heap.get? b=some o->h1.get? b=some o:=λb o e=>by rw[e1];exact ax _ e
 have p2:∀b o,h1.get? b=some o->h2.get? b=some o:=λb o e=>by rw[e2];exact ax _ e
 have g2:IsEnum h2 h1.objs.size s1.heap.objs.size 0 .none:=by rw[e2];exact aU _ rfl
 have g1:=p2 _ _ (by rw[e1];exact aU _ rfl)
 have I2:Inv X ae σ H1 {s1 with heap:=h2,toks:=s1.toks}:=I1.kept λb o e=>p2 _ _ (p1 _ _ e)
 have jw:∀b,s1.heap.objs.size<=b->H1 b=none:=λb hb=>I1.hok.fresh hb
 refine⟨⟨_,g2,rfl⟩,?_⟩;show wpAny _ _ (pyIter (.ref h1.objs.size)) _ _ {s1 with heap:=h2,toks:=s1.toks}
 refine wpAny_pyIter_enum g2 ?_;cases tg with
 | Tuple elts x1 zV =>
  refine⟨h1.objs.size,[h1.objs.size,s1.heap.objs.size],_,_,H1,rfl,I2,Hf (by lia) Po,⟨⟨_,g2⟩,(by
   cases c1 with
   | true=>exact(⟨_,g1,rfl,rfl⟩)
   | false=>exact(⟨_,g1,rfl,rfl⟩))⟩,λb hb=>?_,q _ H1 F1 R1 (Gr.refl _) (Hh k1 NA)⟩
  simp only[aY,cx,cA]at hb;have Pp:s1.heap.objs.size<=b:=by rcases hb with rfl | rfl<;>lia
  exact I1.rH Pp (jw b Pp)
 | _=>cases ht
end
end L2.U
namespace L2
open PySem PySem.Spec PyProof.Rows
def T6(z:Str):It:=⟨λi _=>i<z.cps.size,λi H x H'=>H'=H/\∃c,z.cps[i]?=some c/\x=.str ⟨#[c]⟩,λi _=>z.cps.size<=i⟩
def Dt{P:Program}{w:World}{K:W.Frag}{tg:Expr}(z:Str)(t:Tok)(it:Addr):Turn P w K tg (T6 z) [it] it (λi h=>h.IsStrIter it "str_ascii_iterator" z t i) where
 mem:=by simp
 obj:=λi h st b hb=>by
  have e:b=it:=by grind
  subst e;obtain⟨o,e,c,d⟩:=st;exact⟨o,e,λv z=>by grind⟩
 keep:=λi h h' st k=>let ⟨o,ho,r⟩:=st;⟨o,k it (by simp) o ho,r⟩
 item:=by
  intro X hP hw hK hc i ae s σ H E I hf st hg;subst hP hw hK;have hx:z.cps[i]?=some z.cps[i]:=l9 hg;obtain⟨f0,f1,f2,f3,f4,f5⟩:=hf it (by simp)
  refine wpAny_pyNext_ascii_item st hx λh' bB sb=>?_
  have I1:=I.turned (t':=s.toks+1) (λb o hb e=>(sb.2 b hb).trans e) f0 f1 f3 f4 f5
  obtain⟨o,e,c,d⟩:=id bB;exact⟨_,rfl,yk e c d (by decide) ⟨.str ⟨#[z.cps[i]]⟩,H,I1,⟨_,rfl⟩,⟨rfl,_,hx,rfl⟩,bB,λb hb=>(hf b hb).1⟩⟩
 done:=by
  intro X hP hw hK hc i ae s σ H E I hf st hg;subst hP hw hK;obtain⟨f0,f1,f2,f3,f4,f5⟩:=hf it (by simp)
  exact wpAny_pyNext_ascii_end (I.ok.hd hc) st (iJ hg) λh' eb=>⟨rfl,I.turned (λb o hb e=>eb b o hb e) f0 f1 f3 f4 f5⟩
 self:=λ_ _ _ _ _ st h=>wpAny_pyIter_striter_ascii st h
def T7(tl:TE):TI:=λσ H R=>tl σ H λx H1=>∃z,x=.str z/\z.cps.all (· < 128)=true/\R (T6 z) H1
def LF{X:Cx}{tg l:Expr}{tl:TE}(hl:PE X l tl):PI X tg l (T7 tl):=by
 intro ae s σ H R I h;refine thn (hl ae s σ H _ I h) λv s1 ⟨x,H1,I1,r1,q1⟩=>?_
 obtain⟨z,e,hz,q⟩:=q1;subst e;obtain⟨t,rfl⟩:=r1;refine wpAny_pyIter_ascii hz ?_;refine⟨s1.heap.objs.size,[s1.heap.objs.size],_,_,H1,rfl,I1.kept λb o e=>ax _ e,Dt z t _,⟨_,aU _ rfl,rfl,rfl⟩,λb hb=>?_,q⟩
 have e:b=s1.heap.objs.size:=by grind
 subst e;exact I1.rH (aq _) (I1.hok.fresh (aq _))
end L2
namespace L2.U
open PySem PySem.Spec PyProof.Rows
def Du(z:Str):List PV:=z.cps.toList.map λc=>.str ⟨#[c]⟩
def Dv{K:W.Frag}{F:Fz}(z:Str):Walk K F (Du z) (T6 z):=by
 intro aa ab F' st σ H R s i;refine⟨λp e=>?_,λe=>?_⟩
 ·unfold Du at e;rw[bu,vM]at e;obtain⟨c,e1,rfl⟩:=aI e;have hi:i<z.cps.size:=(Array.getElem?_eq_some_iff.mp e1).1;refine⟨hi,λx H' ⟨hH,c',e2,e3⟩=>?_⟩
  subst hH e3;cases bz (e1.symm.trans e2);exact⟨F',R,Gr.refl _,aX.mpr rfl⟩
 ·unfold Du at e;rw[bu,vM]at e;show z.cps.size<=i
  grind
inductive yQ where
 | sq (ps:List PV) | cl (n:Nat)
def Pq(K:W.Frag)(F:Fz):yQ->It->Prop
 | .sq ps,J=>Walk K F ps J
 | .cl n,J=>∃a,F.μ[n]?=some a/\J=RC K a
abbrev As(X:Cx)(aa:Hp)(ab:Fz)(f:Gx yQ):TI:=tX X aa ab (Pq X.K) f
def NB(f:Gx (List PV)):Gx yQ:=bnd f λps=>bP (.sq ps)
def Jk(n:Nat)(h:List aj)(i:Nat):Option (Option PV):=match cX h (.ref n)with
 | some (.lst,ps)=>some ps[i]?
 | _=>none
def LG(h:List aj)(p:PV):Option yQ:=match lF p with
 | some ps=>some (.sq ps)
 | none=>match p with
  | .ref n=>match cX h (.ref n)with
   | some (.lst,_)=>some (.cl n)
   | _=>none
  | .str z=>if z.cps.all (· < 128)=true then some (.sq (Du z))else none
  | _=>none
def oM(fe:Gx PV):Gx yQ:=bnd fe λp=>hp λh=>LG h p
def Dw(g:Tg)(body:Gx dN)(n:Nat):Nat->Nat->Gx dN
 | 0,_=>λ_=>none
 | f+1,i=>λst=>match Jk n st.h i with
  | some (some p)=>bnd (stp (g p)) (λ_=>bnd body (uf (Dw g body n f (i+1)))) st
  | some none=>some (.ok .nx,st)
  | none=>none
def T8(g:Tg)(body:Gx dN):yQ->Gx dN
 | .sq ps=>ef g body ps
 | .cl n=>Dw g body n gY 0
def LH(fi:Gx yQ)(g:Tg)(body:Gx dN):Gx dN:=bnd fi (T8 g body)
section
variable {X:Cx} {aa:Hp} {ab:Fz} {e tg iter:Expr} {fa:Gx PV} {fb:Gx dN} {body:List Stmt} {pos:Pos}
def Hm(h:PI X tg e (tI X aa ab f)):PI X tg e (As X aa ab (NB f)):=(by rintro ae s σ H R I ⟨F,st,Rp,hh⟩;exact h ae s σ H R I ⟨F,st,Rp,hh.bnd λps J F1 aH H1 R1 g1 b1 h1=>h1.bP J H1 F1 R1 (Gr.refl _) b1⟩)
def Dx{K:W.Frag}{st:bN}(R:Rep K aa ab F st σ H)(ha:F.μ[n]?=some a)(e:Jk n st.h i=some o):∃ps vs,o=ps[i]?/\rG K H a vs/\ao K F ps vs:=by
 unfold Jk at e;split at e
 ·rename_i ps z;cases e;obtain⟨a',vs,e1,h1,h2⟩:=R.at z (cU.mpr ⟨a,ha,rfl⟩);cases e1;exact⟨ps,vs,rfl,fJ.sq h1,h2⟩
 ·cases e
def Dy(he:PE X e (tE X aa ab fa)):PI X tg e (As X aa ab (oM fa)):=by
 rintro ae s σ H R I ⟨F,st,Rp,h⟩
 obtain⟨r,e1,e2⟩:=At.bnd h
 match r,e2 with
 | (.ex m C,aH),e2 =>
  exact Cr he ae s σ H R I ⟨F,st,Rp,_,e1,e2⟩
 | (.ok p,aH),e2 =>
  obtain⟨ps,e3,q⟩:=At.hp e2;unfold LG at e3;split at e3
  ·rename_i qs e4;cases e3;unfold lF at e4;split at e4
   ·cases e4;refine Cr he ae s σ H R I ⟨F,st,Rp,_,e1,λv H1 F1 R1 s1 b1=>?_⟩
    obtain⟨a,vs,rfl,hs,hb⟩:=aZ.mp b1;exact⟨a,rfl,⟨vs,aO R1.sub hs⟩,q _ H1 F1 R1 s1 (Dn hs hb)⟩
   ·cases e4;refine yl he ae s σ H R I ⟨F,st,Rp,_,e1,λv H1 F1 R1 s1 b1=>?_⟩
    obtain⟨a,vs,rfl,hs,hb⟩:=cg.mp b1;exact⟨a,rfl,⟨vs,(fM R1.sub hs).sq⟩,q _ H1 F1 R1 s1 (Ap hs.sq hb)⟩
   ·cases e4
  ·split at e3
   ·rename_i n _;split at e3
    ·rename_i qs z;cases e3;refine yl he ae s σ H R I ⟨F,st,Rp,_,e1,λv H1 F1 R1 s1 b1=>?_⟩
     obtain⟨a,vs,rfl,hs,hb⟩:=R1.at z b1;obtain⟨a',ha,e5⟩:=cU.mp b1;cases e5;exact⟨a,rfl,⟨vs,fJ.sq hs⟩,q _ H1 F1 R1 s1 ⟨a,ha,rfl⟩⟩
    ·cases e3
   ·obtain⟨hz,rfl⟩:=aw e3;refine LF he ae s σ H R I ⟨F,st,Rp,_,e1,λv H1 F1 R1 s1 b1=>?_⟩
    exact⟨_,aX.mp b1,hz,q _ H1 F1 R1 s1 (Dv _)⟩
   ·cases e3
def LI{fi:Gx yQ}(hp:PassesOwn (model X.prog X.w) X.A X.env X.xe)(hc:X.calm=true)(hi:PI X tg iter (As X aa ab fi))(hg:PG X tg (tG X.K aa ab g))(hb:PSs X body (tS X aa ab fb))
  (hs:∀x,foldedSetIterable iter X.env x=pure x:=by intro _;rfl):PS X (.For tg iter body [] pos) (tS X aa ab (LH fi g fb)):=(Ki hp hc hi hg hb hs).imp <| by
 rintro D σ H ⟨F,st,R,h⟩
 refine⟨F,st,R,h.bnd λsr J F1 aH H1 R1 g1 wk h1=>?_⟩
 cases sr with
 | sq ps =>
  refine⟨λi m bc H'=>m=ps.length-i/\i<=ps.length/\∃F' bB,Rep X.K aa ab F' bB bc H'/\Gr F1 F'/\Sa X aa ab F' D bB (ef g fb (ps.drop i)),⟨ps.length,by simp,eN _,F1,aH,R1,Gr.refl _,h1⟩,?_⟩
  rintro i m bc H' ⟨rfl,hi,F',bB,R',s',hr⟩
  obtain⟨wg,T9⟩:=wk aa ab F' bB bc H' R' s' i;by_cases ux:i<ps.length
  ·obtain⟨go,wy⟩:=wg ps[i] (bF ux);rw[List.drop_eq_getElem_cons ux]at hr;refine .inr ⟨go,λym H2=>∃F2 da,Rep X.K aa ab F2 da ym H2/\Gr F1 F2/\Sa X aa ab F2 D da (ef g fb (ps.drop (i+1))),λym H2 n2=>⟨ps.length-(i+1),by lia,rfl,ux,n2⟩,λx H2 y=>?_⟩
   obtain⟨F2,R2,s2,b2⟩:=wy x H2 y;obtain⟨r,e1,e2⟩:=At.bnd hr;obtain⟨Pt,e3,e4⟩:=aI e1;subst e4;refine⟨F2,bB,ps[i],Pt,R2,b2,e3,λlA H3 F3 R3 s3=>⟨F3,Pt,R3,?_⟩⟩
   exact Sa.mR _ (λF4 Fh Jc H4 R4 g4 z=>⟨F4,Fh,R4,(s'.trans (s2.trans s3)).trans g4,z⟩) (Sa.mono (e2) (s2.trans s3))
  ·have e:i=ps.length:=by lia
   subst e;rw[List.drop_length]at hr;exact .inl ⟨T9 (mh (aq _)),At.bP hr F' bc H' R' (Gr.refl _)⟩
 | cl n =>
  obtain⟨a,ha,rfl⟩:=wk;refine⟨λi m bc H'=>∃F' bB,Rep X.K aa ab F' bB bc H'/\Gr F1 F'/\Sa X aa ab F' D bB (Dw g fb n m i),⟨gY,F1,aH,R1,Gr.refl _,h1⟩,?_⟩
  rintro i m bc H' ⟨F',bB,R',s',hr⟩
  cases m with
  | zero=>obtain⟨r,e,_⟩:=hr;cases e
  | succ m =>
   obtain⟨r,e1,e2⟩:=hr;have e1:(match Jk n bB.h i with
    | some (some p)=>bnd (stp (g p)) (λ_=>bnd fb (uf (Dw g fb n m (i+1)))) bB
    | some none=>some (.ok .nx,bB)
    | none=>none)=some r:=e1
   cases z:Jk n bB.h i with
   | none=>rw[z]at e1;cases e1
   | some o =>
    obtain⟨ps,vs,ho,hq,rQ⟩:=Dx R' (s'.m n a ha) z;cases o with
    | none =>
     rw[z]at e1;cases e1;refine .inl ⟨⟨vs,hq,?_⟩,e2 F' bc H' R' (Gr.refl _)⟩;rw[<-rQ.length];exact eF.mp ho.symm
    | some p =>
     rw[z]at e1;obtain⟨v,hv,bv⟩:=rQ.get ho.symm;refine .inr ⟨⟨vs,v,hq,hv⟩,λym H2=>∃F2 da,Rep X.K aa ab F2 da ym H2/\Gr F1 F2/\Sa X aa ab F2 D da (Dw g fb n m (i+1)),λym H2 n2=>⟨m,kj m,n2⟩,λx H2 ⟨hH,y⟩=>?_⟩
     subst hH;have:=y vs hq;rw[hv]at this;cases this;obtain⟨r',q1,q2⟩:=At.bnd (⟨r,e1,e2⟩);obtain⟨Pt,e3,e4⟩:=aI q1;subst e4;refine⟨F',bB,p,Pt,R',bv,e3,λlA H3 F3 R3 s3=>⟨F3,Pt,R3,?_⟩⟩
     exact Sa.mR _ (λF4 Fh Jc H4 R4 g4 z=>⟨F4,Fh,R4,(s'.trans s3).trans g4,z⟩) (Sa.mono (q2) s3)
end
def yR(bd:PV->List aj->Option (Option PV×List aj))(n:Nat):Nat->Nat->List aj->Option (List PV×List aj)
 | 0,_,_=>none
 | f+1,i,h=>match Jk n h i with
  | some (some p)=>(bd p h).bind λr=>(yR bd n f (i+1) r.2).map λs=>(r.1.toList++s.1,s.2)
  | some none=>some ([],h)
  | none=>none
def Pu(bd:PV->List aj->Option (Option PV×List aj))(h:List aj):yQ->Option (List PV×List aj)
 | .sq ps=>if ps.length<=gY then jP bd ps h else none
 | .cl n=>yR bd n gY 0 h
def Jl(c:Bool)(ρ:List (Option PV))(r:List PV×List aj):Option (Rs PV×bN):=if c=true then gC ⟨.lst,r.1⟩ ⟨ρ,r.2⟩else some (.ok (.lst r.1),⟨ρ,r.2⟩)
def hW(c:Bool)(link:List (Option Nat))(fi:Gx yQ)(bd:Bd):Gx PV:=bnd fi λs st=>(Pu (bd (cY link st.ρ)) st.h s).bind (Jl c st.ρ)
section
variable {X:Cx} {aa:Hp} {ab:Fz} {N:List Str} {link:List (Option Nat)} {scope:Scope} {tg iter elt c:Expr} {pos:Pos} {fi:Gx yQ} {g:Tg} {fe:Gx PV} {ft:Gx Bool} {L:List Nat} {cl:Bool}
def uz{aH:bN}{Q:VK}(R':i3 X.K aa ab F' hf H')(L1:Lc X.K F1 aH.ρ σ)(g':Gr F1 F')(rQ:ao X.K F' done acc)(hn:H' D=none)(e4:Jl cl aH.ρ (done,hf)=some r)(e2:CS X aa ab F1 (λa bB=>∀b H' F',Rep X.K aa ab F' bB σ H'->Gr F1 F'->aS X.K F' a b->Q b H') r):Q (.ref D) (bS H' D (.lst acc)):=by
 have Ro:Rep X.K aa ab F' ⟨aH.ρ,hf⟩ σ H':=⟨R',L1.mono g'⟩;cases cl with
 | true =>
  have e4:=e4;exact Tx.gC (Tx.mono ⟨r,e4,e2⟩ g' λ_ _ z=>z) Ro hn ar rQ
 | false =>
  have e4:=e4;cases e4;obtain⟨R2,s2⟩:=Ro.laid (.lst acc) hn;exact e2 _ _ _ R2 (g'.trans s2) (cg.mpr ⟨D,acc,rfl,fJ.of ar,rQ.mono s2⟩)
def p0{Q:VK}
  (hb:∀(F2:Fz) (ρ:List (Option PV)) (p:PV) (h h':List aj) (o:Option PV) (x:V) (bc:St) (H2:Hp) (Q':Option V->St->Hp->Prop),bd (cY link ρ) p h=some (o,h')->Rep X.K aa ab F2 ⟨cY link ρ,h⟩ bc H2->aS X.K F2 p x ->
   (∀o' lA H3 F3,Rep X.K aa ab F3 ⟨cY link ρ,h'⟩ lA H3->Gr F2 F3->ao X.K F3 o.toList (Option.toList o')->Q' o' lA H3)->tb x bc H2 Q')
  (h:tE X aa ab (hW cl link fi bd) σ H Q):pX link (As X aa ab fi) tb σ H Q:=by
 obtain⟨F,st,R,h⟩:=h;refine⟨F,st,R,h.bnd λsr J F1 aH H1 R1 g1 wk h1=>?_⟩
 obtain⟨r,e1,e2⟩:=h1;obtain⟨⟨rs,hf⟩,e3,e4⟩:=aD e1;cases sr with
 | sq ps =>
  obtain⟨cS,e3⟩:=bt e3;refine⟨λi m acc bc H'=>m=ps.length-i/\i<=ps.length/\acc.length<=i/\∃F' h' done rest,Rep X.K aa ab F' ⟨cY link aH.ρ,h'⟩ bc H'/\Gr F1 F'/\jP (bd (cY link aH.ρ)) (ps.drop i) h'=some (rest,hf)/\done++rest=rs/\ao X.K F' done acc,
   ⟨ps.length,rfl,eN _,aq _,F1,aH.h,[],rs,⟨R1.c,R1.l.gA link⟩,Gr.refl _,e3,rfl,.nil⟩,?_⟩
  rintro i m acc bc H' ⟨rfl,hi,ha,F',h',done,rest,R',g',hr,hd,rQ⟩
  obtain⟨wg,T9⟩:=wk aa ab F' _ bc H' R' g' i;by_cases ux:i<ps.length
  ·rw[List.drop_eq_getElem_cons ux]at hr;obtain⟨⟨o,h2⟩,e5,e6⟩:=aD hr;obtain⟨⟨r2,h3⟩,e7,e8⟩:=aI e6;cases e8;obtain⟨go,wy⟩:=wg ps[i] (bF ux);refine .inr ⟨go,mq (aL ha hi) (mq cS (by decide)),λx H2 y=>?_⟩
   obtain⟨F2,R2,s2,b2⟩:=wy x H2 y;refine hb F2 aH.ρ ps[i] h' h2 o x bc H2 _ e5 R2 b2 λo' lA H3 F3 R3 s3 b3=>⟨ps.length-(i+1),by lia,rfl,ux,?_,F3,h2,done++o.toList,r2,R3,g'.trans (s2.trans s3),e7,by rw[<-hd,mw],(rQ.mono (s2.trans s3)).append b3⟩
   rw[cG];cases o'<;>simp <;> lia
  ·have e:i=ps.length:=by lia
   subst e;rw[List.drop_length]at hr;cases hr;rw[eI]at hd;subst hd;exact .inl ⟨T9 (mh (aq _)),aL ha (cL cS),λD hn=>uz R'.c R1.l g' rQ hn e4 e2⟩
 | cl n =>
  obtain⟨a,XW,rfl⟩:=wk;refine⟨λi m acc bc H'=>i+m=gY/\acc.length<=i/\∃F' h' done rest,Rep X.K aa ab F' ⟨cY link aH.ρ,h'⟩ bc H'/\Gr F1 F'/\yR (bd (cY link aH.ρ)) n m i h'=some (rest,hf)/\done++rest=rs/\ao X.K F' done acc,
   ⟨gY,Nat.zero_add _,aq _,F1,aH.h,[],rs,⟨R1.c,R1.l.gA link⟩,Gr.refl _,e3,rfl,.nil⟩,?_⟩
  rintro i m acc bc H' ⟨hm,ha,F',h',done,rest,R',g',hr,hd,rQ⟩
  cases m with
  | zero=>cases hr
  | succ m =>
   have hr:(match Jk n h' i with
    | some (some p)=>(bd (cY link aH.ρ) p h').bind λr=>(yR (bd (cY link aH.ρ)) n m (i+1) r.2).map λs=>(r.1.toList++s.1,s.2)
    | some none=>some ([],h')
    | none=>none)=some (rest,hf):=hr
   have wX:i<=gY:=by lia
   cases z:Jk n h' i with
   | none=>rw[z]at hr;cases hr
   | some o =>
    obtain⟨ps,vs,ho,hq,Wg⟩:=Dx R' (g'.m n a XW) z;rw[z]at hr;cases o with
    | none =>
     cases hr;rw[eI]at hd;subst hd;refine .inl ⟨⟨vs,hq,?_⟩,aL ha (cL wX),λD hn=>uz R'.c R1.l g' rQ hn e4 e2⟩
     rw[<-Wg.length];exact eF.mp ho.symm
    | some p =>
     obtain⟨⟨o,h2⟩,e5,e6⟩:=aD hr;obtain⟨⟨r2,h3⟩,e7,e8⟩:=aI e6;cases e8;obtain⟨v,hv,bv⟩:=Wg.get ho.symm;refine .inr ⟨⟨vs,v,hq,hv⟩,mq (aL ha wX) (by decide),λx H2 ⟨hH,y⟩=>?_⟩
     subst hH;have:=y vs hq;rw[hv]at this;cases this;refine hb F' aH.ρ p h' h2 o v bc H2 _ e5 R' bv λo' lA H3 F3 R3 s3 b3=>⟨m,kj m,by lia,?_,F3,h2,done++o.toList,r2,R3,g'.trans s3,e7,by rw[<-hd,mw],(rQ.mono s3).append b3⟩
     rw[cG];cases o'<;>simp <;> lia
def Dz(hg:KG L g)(hL:∀i∈L,link[i]?=some none)(h:tE X aa ab (hW cl link fi (nz g fe)) σ H Q):pX link (As X aa ab fi) (V9 X aa ab g fe) σ H Q :=
 p0 (λF2 ρ p h h' o x bc H2 Q' e R2 b2 k=>by
  obtain⟨aH,e1,e⟩:=aD e;obtain⟨r,e2,e⟩:=aD e;obtain⟨⟨a,hh⟩,e3,e4⟩:=aI e;cases e4;obtain⟨FZ,rfl,rfl⟩:=uy e3;obtain⟨l1,k1⟩:=hg _ _ _ e1;refine⟨F2,_,p,aH,R2,b2,e1,λlA H3 F3 R3 s3 Y hY=>⟨F3,aH,by grind,_,e2,λv H4 F4 R4 s4 b4=>?_⟩⟩
  rw[hY]at R4 b4;exact k (some v) lA H4 F4 ⟨R4.c,(R3.l.mono s4).back (l1.symm.trans R3.l.len) rfl k1 hL⟩ (s3.trans s4) (.cons b4 .nil)) h
def DA(hg:KG L g)(hL:∀i∈L,link[i]?=some none)(h:tE X aa ab (hW cl link fi (Dj g ft fe)) σ H Q):pX link (As X aa ab fi) (Wa X aa ab g ft fe) σ H Q :=
 p0 (λF2 ρ p h h' o x bc H2 Q' e R2 b2 k=>by
  obtain⟨aH,e1,e⟩:=aD e;obtain⟨r,e2,e⟩:=aD e;obtain⟨l1,k1⟩:=hg _ _ _ e1;refine⟨F2,_,p,aH,R2,b2,e1,λlA H3 F3 R3 s3 Y hY=>⟨F3,aH,by grind,r,e2,?_⟩⟩
  match r,e with
  | (.ok b,da),e =>
   intro b' H4 F4 R4 s4 eb;cases eb;cases b with
   | true =>
    have e:=e;obtain⟨r,e5,e⟩:=aD e;obtain⟨⟨a,hh⟩,e6,e7⟩:=aI e;cases e7;obtain⟨FZ,rfl,rfl⟩:=uy e6;rw[if_pos rfl];refine⟨F4,da,R4,_,e5,λv H5 F5 R5 s5 b5=>?_⟩
    rw[hY]at R5 b5;exact k (some v) lA H5 F5 ⟨R5.c,(R3.l.mono (s4.trans s5)).back (l1.symm.trans R3.l.len) rfl k1 hL⟩ (s3.trans (s4.trans s5)) (.cons b5 .nil)
   | false =>
    have e:=e;cases e;rw[hY]at R4;exact k none lA H4 F4 ⟨R4.c,(R3.l.mono s4).back (l1.symm.trans R3.l.len) rfl k1 hL⟩ (s3.trans s4) .nil) h
end
def Pw:aj:=⟨.ak,[]⟩
section
variable {K:W.Frag} {aa H:Hp} {ab F F':Fz} {st:bN} {σ:St} {a:Addr} {n:Nat} {c:aj}
def Px{μ:List Addr}(hd:μ.Nodup)(h1:μ[n]?=some a)(h2:μ[m]?=some b)(hm:m≠n):b≠a:=λz=>by
 subst z;exact hm ((vW (cw.mp h2).1 hd).mp (h2.trans h1.symm))
def Rep.lock(R:Rep K aa ab F st σ H)(ha:F.μ[n]?=some a)(hf:F.F a=none)(u:HO):Rep K aa ab ⟨bS F.F a u,F.μ⟩ ⟨st.ρ,st.h.set n Pw⟩ σ (bS H a u)/\Gr F ⟨bS F.F a u,F.μ⟩:=by
 have g:Gr F ⟨bS F.F a u,F.μ⟩:=⟨c7 hf,λ_ _ h=>h⟩
 have h0:=(R.c.new n a ha).1;refine⟨⟨⟨λb o e=>?_,λb o e=>?_,R.c.base.trans g,λb o e=>?_,λm b e=>?_,by simp[R.c.hl],R.c.nd,λm d b hd hb hl=>?_⟩,R.l.mono g⟩,g⟩
 ·have e:bS F.F a u b=some o:=e;by_cases hb:b=a
  ·subst hb;rw[ar]at e ⊢;exact e
  ·rw[aF hb]at e ⊢;exact R.c.sub _ _ e
 ·rw[aF (cf e h0)];exact R.c.keep _ _ e
 ·have e:bS F.F a u b=some o:=e;by_cases hb:b=a
  ·subst hb;exact .inr h0
  ·rw[aF hb]at e;exact R.c.fresh _ _ e
 ·obtain⟨h1,o,h2⟩:=R.c.new m b e;by_cases hb:b=a
  ·subst hb;exact⟨h1,u,ar⟩
  ·exact⟨h1,o,by rw[aF hb];exact h2⟩
 ·by_cases hm:m=n
  ·subst hm;rw[List.getElem?_set_self' ]at hd;cases z:st.h[m]? with
   | none=>rw[z]at hd;cases hd
   | some d'=>rw[z]at hd;cases hd;cases hl
  ·rw[iK (bA hm)]at hd;have ir:=Px R.c.nd ha hb hm;obtain⟨h1,vs,h2,h3⟩:=R.c.cell m d b hd hb hl;exact⟨(aF ir).trans h1,vs,h2.to g.s (λo e=>by rw[aF ir];exact e) (λz=>z),h3.mono g⟩
end
def cF:b8->PV
 | .inl i=>.int i
 | .inr x=>.str x
def XX:PV->Option (List PV)
 | .nd .lst qs=>some qs
 | _=>none
def XY(n:Nat)(ks:List (List b8))(ps:List PV)(p q:PV):Option (List PV):=match p with
 | .ref m=>if m=n then(g7 true q).bind λk=>(cM k ks ps).bind XX else none
 | _=>none
section
variable {X:Cx} {aa:Hp} {ab:Fz} {tg iter va vb:Expr} {fe fa fb:Gx PV} {f:Gx dN} {body:List Stmt} {pos XZ:Pos} {D:tU} {g:Tg}
def LJ(fe:Gx PV):Gx PV:=bnd fe λp st=>match p with
 | .ref n=>(Am st.h (.ref n)).bind λq=>match q.2.k with
  | .lst=>some (.ok (.lst q.2.ps),⟨st.ρ,st.h.set n Pw⟩)
  | _=>none
 | p=>some (.ok p,st)
def Py{e:Expr}(he:PE X e (tE X aa ab fe)):PE X e (tE X aa ab (LJ fe)):=he.imp λσ H Q h=>by
 obtain⟨F,st,R,h⟩:=h;refine⟨F,st,R,h.bnd λp v F1 aH H1 R1 g1 b1 h1=>?_⟩
 have keep:(∀n,p≠.ref n)->Q v H1:=λhp=>by
  obtain⟨r,e1,e2⟩:=h1;cases p with
  | ref n=>exact absurd rfl (hp n)
  | _=>cases e1;exact e2 _ _ F1 R1 (Gr.refl _) b1
 cases p with
 | ref n =>
  obtain⟨r,e1,e2⟩:=h1;obtain⟨⟨m,c⟩,d1,e3⟩:=aD (show(Am aH.h (.ref n)).bind _=some r from e1)
  obtain⟨z,X0,hl⟩:=fO d1;cases z;obtain⟨a,ha,rfl⟩:=cU.mp b1;obtain⟨ck,cp⟩:=c;cases ck with
  | lst =>
   cases e3;obtain⟨hf,ws,k1,hv⟩:=R1.c.cell n _ a X0 ha hl;have k1:H1 a=some (.lst ws):=k1;obtain⟨R2,g2⟩:=R1.lock ha hf (.lst ws);have eH:bS H1 a (.lst ws)=H1:=by
    funext b
    by_cases hb:b=a
    ·subst hb;rw[ar,k1]
    ·rw[aF hb]
   rw[eH]at R2;exact e2 _ _ _ R2 g2 (cg.mpr ⟨a,ws,rfl,fJ.of ar,hv.mono g2⟩)
  | _=>cases e3
 | _=>exact keep λ_ z=>nomatch z
end
def yS{P:Program}{w:World}{H':Hp}{h1 h5 B:Heap}(x:jq P w H' h1)(hB:∀b o,H' b=some o->∃ob,B.get? b=some ob)(k1:B.StaysIn h1)(k5:B.StaysIn h5):jq P w H' h5:=λa o e=>by
 have keep:∀b u o',H' b=some o'->h1.get? b=some u->h5.get? b=some u:=λb u o' eb q=>by
  obtain⟨ob,RT⟩:=hB b o' eb;have:=k1 b ob RT;rw[q]at this;cases this;exact k5 b _ RT
 refine(x a o e).tN (λb u hb q=>?_) (λ_ q=>q) (λ_ _ q=>q) λ_ _ _ q=>q
 rcases hb with rfl | hb
 ·exact keep _ _ _ e q
 ·exact keep _ _ _ hb q
def DB{l:List Env}{H H':Hp}{h h1 h5 B B':Heap}(u:Un (jw l) [] H H' h h1)(sm:Dm H H')(hB:∀b o,H' b=some o->∃ob,B.get? b=some ob)(hU:∀b ob,h.get? b=some ob->H b=none->b∉jw l->B.get? b=some ob)
  (k5:B.StaysIn h5) (fr:h1.FunFrames B' l) (up:h1.UpToSlots h5):Un (jw l) [] H H' h h5:=by
 have slot:∀b o,h.get? b=some o->H b=none->b∈jw l->∃sl,h5.get? b=some {o with slots:=sl}:=λb o q n hb=>by
  obtain⟨sl,e⟩:=u.slot b o q n hb (by simp)
  obtain⟨_,o',mP,hd⟩:=fr.mem hb;rw[e]at mP;cases mP;obtain⟨NY,e'⟩:=up b _ e hd;exact⟨NY,e'⟩
 refine⟨λb o q n hb _=>k5 b o (hU b o q n hb),λb o q n hb _=>slot b o q n hb,u.free,λb o q hx=>?_,u.tups,u.frzs,u.tbls⟩
 cases z:H b with
 | none =>
  by_cases hb:b∈jw l
  ·grind
  ·exact⟨o,k5 b o (hU b o q z hb)⟩
 | some v =>
  obtain⟨v',z'⟩:=sm b v z;obtain⟨ob,RT⟩:=hB b v' z';exact⟨ob,k5 b ob RT⟩
def Au{P:Program}{w:World}{H:Hp}{h:Heap}{a:Addr}{o:HO}(x:dS P w H h a o):∃ob,h.get? a=some ob:=by
 cases o with
 | lst xs=>obtain⟨_,_,_,_,e⟩:=x;exact⟨_,e⟩
 | ak xs=>obtain⟨_,_,_,ob,e,_⟩:=x;exact⟨_,e⟩
 | dK kvs=>obtain⟨_,_,_,_,o,_,_,e,_⟩:=x;exact⟨_,e⟩
 | dT kvs=>obtain⟨_,_,o,_,_,e,_⟩:=x;exact⟨_,e⟩
 | set S n=>obtain⟨o,_,_,_,e,_⟩:=x;exact⟨_,e⟩
 | ins C dx fs=>obtain⟨_,_,_,e,_⟩:=x;exact⟨_,e⟩
 | own y=>obtain⟨_,e⟩:=x;exact⟨_,e⟩
 | xd fs=>obtain⟨_,⟨_,_,_,e,_⟩,_⟩:=x;exact⟨_,e⟩
 | Rx lo hi=>obtain⟨_,_,_,e⟩:=x;exact⟨_,e⟩
 | tx ob u=>obtain⟨e,_⟩:=x;exact⟨_,e⟩
 | jn q=>obtain⟨_,e,_⟩:=x;exact⟨_,e⟩
 | Rv f y=>exact⟨_,show h.get? a=some _ from x⟩
 | ext φ=>obtain⟨_,⟨_,e⟩,_⟩:=x;exact⟨_,e⟩
section
variable {P:Program} {w:World} {K:W.Frag} {mg:Str->Option Value} {base:Heap} {N:List Str} {qual:Str} {scope:Scope} {f:Addr} {cd:Value} {A:Around} {aB:List Env} {s:Shared} {H:Hp} {E E1:XK} {ae:List (Addr×Obj)} {σ:St} {H1:Hp} {s1 s':Shared} {e:Value}
def yT(I:Inv (eQ (js P w) P w K mg base N qual scope f cd A aB s H E) ae σ H1 s1){b:Addr}{ob:Obj}(q:s.heap.get? b=some ob)(hb:b∉jw aB):b∉jw (envOfC qual scope s.heap.objs.size f cd::aB):=λhm=>by
 rcases aY.mp (I.rE b hm)with z | z
 ·exact absurd (az q) (by rw[z];exact dg _)
 ·exact hb z
def DC(I:Inv (eQ (js P w) P w K mg base N qual scope f cd A aB s H E) ae σ H1 s1)(h:js P w (envOfC qual scope s.heap.objs.size f cd::aB) H1 s1 E1 e s')(hE:∀cls H2,E1 cls none H2->Dm H H2/\E cls none H2) :
  (eQ (js P w) P w K mg base N qual scope f cd A aB s H E).xe e s':=by
 obtain⟨a,cls,a0,B,H2,rfl,Ff,hb,un,hok,sm,he,LK,hB,hU⟩:=h;obtain⟨Pz,hE⟩:=hE cls H2 he;have I2:=I.IQ Ff un hok hb (λb z=>absurd z (by simp))
 refine wpAny_leaves_onW I.ok.frames rfl LK λh' LL up=>?_
 have Wh:∀b ob,s.heap.get? b=some ob->H b=none->b∉jw aB->B.get? b=some ob:=λb ob q n hb=>hU b ob (I.base.keep b ob q n hb (by simp[eQ])) (I.base.free b ob q n (by simp[eQ])) (yT I q hb)
 exact⟨a,cls,a0,B,H2,rfl,Ff.trans I.os,hb,DB I2.base Pz hB Wh LL.1 LK.2.2.1.2.2 up,yS hok hB LK.1 LL.1,Pz,hE,LL,hB,Wh⟩
def Ho{h1:Heap}{a:Addr}{cls:Value}{vs:List Value}(I:Inv (eQ (js P w) P w K mg base N qual scope f cd A aB s H E) ae σ H1 s1)(hm:Heap.MadeExcOf s1.heap h1 a cls vs)(Pz:Dm H H1)(hE:E cls none H1) :
  (eQ (js P w) P w K mg base N qual scope f cd A aB s H E).xe (.ref a) {s1 with heap:=h1}:=by
 have hB:∀b o,H1 b=some o->∃ob,(W.hideAll s1.heap (jw (envOfC qual scope s.heap.objs.size f cd::aB))).get? b=some ob:=λb o e=>by
  obtain⟨ob,q⟩:=Au (I.hok b o e);exact⟨ob,W.hideAll_get _ q λhb=>by
   have:=I.rF b hb;rw[e]at this;cases this⟩
 have hU:∀b ob,s.heap.get? b=some ob->H b=none->b∉jw aB->(W.hideAll s1.heap (jw (envOfC qual scope s.heap.objs.size f cd::aB))).get? b=some ob:=λb ob q n hb =>
  W.hideAll_get _ (I.base.keep b ob q n hb (by simp[eQ])) (yT I q hb)
 refine wpAny_leaves_madeW I.ok.frames rfl (λb o q=>W.of_hideAll _ q) (W.funFrames_hide I.stack λenv he b hb=>mv.mpr ⟨env,he,hb⟩) hm λh' t LK ak tn up=>?_
 refine⟨a,cls,.ref t,_,H1,rfl,I.os,I.bare,DB (I.base.trans (Un.kept hm.keeps)) Pz hB hU LK.1 (I.funs.of_keeps λb o q _=>⟨o,hm.keeps b o q,rfl⟩) up,yS (I.hok.kept hm.keeps) hB (λb o q=>hm.keeps b o (W.of_hideAll _ q)) LK.1,Pz,hE,LK,hB,hU⟩
end
def DD(K:W.Frag)(f:Addr)(dQ:Value):Prop:=∃oc od fd vw,K.lookup f=some ⟨oc,od,.func fd,vw⟩/\fd.code=dQ
def Hq{P:Program}{w:World}{K:W.Frag}{mg:Str->Option Value}{base:Heap}{x qual:Str}{st:Stmt}{f:Addr}{fd:FuncData}{N ps:List Str}{k:Nat}{sp:Sp}(F:zA K x qual st f fd)(S:cQ N ps (ay st))(len:∀vs H Q E,sp vs H Q E->vs.length=ps.length)
  (hbody:∀(dQ:Value) (A:Around) (aB:List Env) (s:Shared) (H:Hp) (vs:List V) (Q:VK) (E:XK),DD K f dQ->dw k (A.deeper (envOfC qual (ay st) s.heap.objs.size f dQ))->sp vs H Q E ->
   ∃t,PSs (eQ (js P w) P w K mg base N qual (ay st) f dQ A aB s H E) (cR st) t/\t {nx:=λ_ H'=>Q .aV H',rt:=Q} (start N vs) H):FnOk P w K mg base (js P w) (k+1) f fd ps sp:=by
 obtain⟨oc,od,kV,doc,pm,an,dQ,ct,vw,rfl,lk,Bx⟩:=F.ex;exact Ou lk Bx S len λA aB s H vs Q E hr Nv=>hbody dQ A aB s H vs Q E ⟨oc,od,_,vw,lk,rfl⟩ hr Nv
def oN(H:Hp)(μ:List Addr):Hp:=λb=>if b∈μ then none else H b
section
variable {K:W.Frag} {aa H H':Hp} {ab F F':Fz} {h h':List aj}
def Av{μ:List Addr}{b:Addr}{o:HO}(e:oN H μ b=some o):H b=some o/\b∉μ:=by
 unfold oN at e;split at e
 ·cases e
 ·grind
def Aw{μ:List Addr}{b:Addr}(e:oN H μ b=none):H b=none\/b∈μ:=by
 unfold oN at e;split at e
 ·grind
 ·grind
def i3.enter(C:i3 K aa ab F h H):i3 K (oN H F.μ) F F h H/\∀b o,H b=some o->oN H F.μ b=some o\/∃n:Nat,F.μ[n]?=some b:=by
 refine⟨⟨C.sub,λb o e=>(Av e).1,Gr.refl F,λa o e=>.inl e,λn a e=>⟨if_pos (mj e),(C.new n a e).2⟩,C.hl,C.nd,C.cell⟩,λb o e=>?_⟩
 by_cases hb:b∈F.μ
 ·obtain⟨n,hn⟩:=qL.mp hb;exact .inr ⟨n,hn⟩
 ·exact .inl (by unfold oN;rw[if_neg hb];exact e)
def i3.leave(C:i3 K aa ab F h H)(D:i3 K (oN H F.μ) F F' h' H'):i3 K aa ab F' h' H':=by
 have none_of:∀a,oN H F.μ a=none->aa a=none:=λa e=>by
  rcases Aw e with z | z
  ·exact C.keep.free z
  ·obtain⟨n,hn⟩:=qL.mp z;exact(C.new n a hn).1
 refine⟨D.sub,λb o e=>D.keep b o ?_,C.base.trans D.base,λa o e=>?_,λn a e=>⟨none_of a (D.new n a e).1,(D.new n a e).2⟩,D.hl,D.nd,D.cell⟩
 ·unfold oN;rw[if_neg λhb=>?_]
  ·exact C.keep b o e
  ·obtain⟨n,hn⟩:=qL.mp hb;rw[(C.new n b hn).1]at e;cases e
 ·rcases D.fresh a o e with z | z
  ·exact C.fresh a o z
  ·grind
end
abbrev lG:=List PV->List aj->Option (Rs PV×List aj)
def Ua(K:W.Frag)(aa:Hp)(F:Fz)(h':List aj)(Q:VK)(E:XK):Rs PV->Prop
 | .ok p=>∀v F' H',i3 K aa F F' h' H'->aS K F' p v->Q v H'
 | .ex _ C=>∀cls F' H',i3 K aa F F' h' H'->ClsAt K C cls->E cls none H'
def Ax(K:W.Frag)(n:Nat)(f:lG):Sp:=λvs H Q E=>∃aa F h ps r h',i3 K aa F F h H/\(∀b o,H b=some o->aa b=some o\/∃n:Nat,F.μ[n]?=some b)/\ao K F ps vs/\ps.length=n/\f ps h=some (r,h')/\Ua K aa F h' Q E r
def gr(n:Nat)(ps:List PV):List (Option PV):=ps.map some++List.replicate (n-ps.length) none
def PC:Rs dN×bN->Option (Rs PV×List aj)
 | (.ok (.rt p),st)=>some (.ok p,st.h)
 | (.ok .nx,st)=>some (.ok .aV,st.h)
 | (.ex m C,st)=>some (.ex m C,st.h)
 | _=>none
def gE(fb:Gx dN)(n:Nat):lG:=λps h=>(fb ⟨gr n ps,h⟩).bind PC
def DE{K:W.Frag}{F:Fz}{ps:List PV}{vs:List V}{N:List Str}(b:ao K F ps vs):Lc K F (gr N.length ps) (start N vs) where
 av:=λi p e=>by
  unfold gr at e;unfold start;by_cases hi:i<ps.length
  ·rw[ma (by simpa using hi),bu]at e
   cases z:ps[i]? with
   | none=>rw[z]at e;cases e
   | some q =>
    rw[z]at e;cases e;obtain⟨v,h1,h2⟩:=b.get z;refine⟨v,?_,h2⟩;rw[ma (by simpa using (b.length▸hi)),bu,h1]
    rfl
  ·rw[BK (by simpa using hi),List.getElem?_replicate]at e
   split at e<;>cases e
 len:=by unfold gr start;simp[b.length]
def Jm{K:W.Frag}{aa H H':Hp}{F F':Fz}{h':List aj}(full:∀b o,H b=some o->aa b=some o\/∃n:Nat,F.μ[n]?=some b)(D:i3 K aa F F' h' H'):Dm H H':=λb o e=>by
 rcases full b o e with z | ⟨n,hn⟩
 ·exact⟨o,D.keep b o z⟩
 ·exact(D.new n b (D.base.m n b hn)).2
def DF{P:Program}{w:World}{K:W.Frag}{mg:Str->Option Value}{base:Heap}{x qual:Str}{st:Stmt}{f:Addr}{fd:FuncData}{N ps:List Str}{k:Nat}{fb:Gx dN}(F:zA K x qual st f fd)(S:cQ N ps (ay st))
  (hbody:∀(dQ:Value) (A:Around) (aB:List Env) (s:Shared) (H:Hp) (E:XK),DD K f dQ->dw k (A.deeper (envOfC qual (ay st) s.heap.objs.size f dQ))->∀(aa:Hp) (ab:Fz),
   PSs (eQ (js P w) P w K mg base N qual (ay st) f dQ A aB s H E) (cR st) (tS (eQ (js P w) P w K mg base N qual (ay st) f dQ A aB s H E) aa ab fb)):FnOk P w K mg base (js P w) (k+1) f fd ps (Ax K ps.length (gE fb N.length)):=by
 refine Hq F S (by rintro vs H Q E ⟨_,_,_,_,_,_,_,_,b,hl,_⟩;rw[<-b.length];exact hl) λdQ A aB s H vs Q E Wi hr z9=>?_
 obtain⟨aa,F,h,as,r,h',C,full,b,hl,hf,res⟩:=z9;refine⟨_,hbody dQ A aB s H E Wi hr aa F,F,⟨gr N.length as,h⟩,⟨C,DE b⟩,?_⟩;obtain⟨q,e1,e2⟩:=aD hf;refine⟨q,e1,?_⟩;rcases q with⟨f | ⟨m,c⟩,st⟩
 ·cases f with
  | rt=>cases e2;exact λv F' H' C' g b'=>res v F' H' C' b'
  | nx=>cases e2;exact λF' bc H' R g=>res .aV F' H' R.c (bZ.mpr rfl)
  | _=>cases e2
 ·cases e2;cases m with
  | true=>exact λF' bc H' ae s1 h1 a cls vs R sf I hc hm=>Ho I hm (Jm full R.c) (res cls F' H' R.c hc)
  | false=>exact λbc ae H1 s1 e s' I h=>DC I h (by rintro cls H2 ⟨hc,F',R,sf⟩;exact⟨Jm full R.c,res cls F' H2 R.c hc⟩)
mutual
def noRef:PV->Bool
 | .ref _=>false
 | .nd _ ps=>aM ps
 | _=>true
def aM:List PV->Bool
 | []=>true
 | p::ps=>noRef p&&aM ps
end
section
variable {K:W.Frag} {F:Fz} {μ:List Addr}
mutual
theorem aS.any:∀{p:PV} {v:V},noRef p=true->aS K F p v->aS K ⟨F.F,μ⟩ p v
 | .aV,_,_,b=>bZ.mpr (bZ.mp b)
 | .bl _,_,_,b=>aN.mpr (aN.mp b)
 | .int _,_,_,b=>au.mpr (au.mp b)
 | .str _,_,_,b=>aX.mpr (aX.mp b)
 | .fn _,_,_,b=>kD.mpr (kD.mp b)
 | .ref _,_,h,_=>by simp[noRef]at h
 | .nd k ps,_,h,b=>by
  obtain⟨a,vs,h1,h2,h3⟩:=gh.mp b;exact gh.mpr ⟨a,vs,h1,h2,ao.any h h3⟩
theorem ao.any:∀{ps:List PV} {vs:List V},aM ps=true->ao K F ps vs->ao K ⟨F.F,μ⟩ ps vs
 | [],_,_,b=>by rw[b.bC];exact .nil
 | _::_,_,h,b=>by
  simp only[aM,aC]at h;obtain⟨v,r,rfl,b1,b2⟩:=b.bh;exact .cons (b1.any h.1) (ao.any h.2 b2)
end
end
def j7(h:List aj):Nat->PV->Option PV
 | 0,p=>if noRef p=true then some p else none
 | n+1,p=>if noRef p=true then some p else match p with
  | .ref m=>(h[m]?).bind λc=>if live c=true then(aQ (j7 h n) c.ps).map (.nd c.k)else none
  | .nd k ps=>(aQ (j7 h n) ps).map (.nd k)
  | _=>none
open Classical in
noncomputable def iC (F:Fz) (h:List aj) (H:Hp):Hp:=λa=>match F.F a with
 | some o=>some o
 | none=>if(∃(n:Nat) (c:aj),F.μ[n]?=some a/\h[n]?=some c/\live c=true)then H a else none
section
variable {K:W.Frag} {aa H:Hp} {ab F:Fz} {h:List aj}
def fR{a:Addr}{o:HO}(e:F.F a=some o):iC F h H a=some o:=by unfold iC;rw[e]
def Ay{a:Addr}{n:Nat}{c:aj}(e:F.F a=none)(h1:F.μ[n]?=some a)(h2:h[n]?=some c)(h3:live c=true):iC F h H a=H a:=by
 unfold iC;rw[e];exact if_pos ⟨n,c,h1,h2,h3⟩
def uA{a:Addr}{o:HO}(e:iC F h H a=some o):F.F a=some o\/(H a=some o/\∃n:Nat,F.μ[n]?=some a):=by
 unfold iC at e;split at e
 ·grind
 ·split at e
  ·grind
  ·cases e
def i3.j7(C:i3 K aa ab F h H)(μ:List Addr):∀(n:Nat) (p q:PV) (v:V),j7 h n p=some q->aS K F p v->aS K ⟨iC F h H,μ⟩ q v:=by
 have keep:∀{p:PV} {v:V},noRef p=true->aS K F p v->aS K ⟨iC F h H,μ⟩ p v:=λhn b =>
  aS.mono (F:=⟨F.F,μ⟩) (F':=⟨iC F h H,μ⟩) ⟨λb o e=>fR e,λ_ _ e=>e⟩ (b.any hn)
 intro n;induction n with
 | zero =>
  intro p q v e b;obtain⟨hn,rfl⟩:=aw e;exact keep hn b
 | succ n ih =>
  intro p q v e b;unfold U.j7 at e;split at e
  ·grind
  ·have list:∀(ps qs:List PV) vs,aQ (U.j7 h n) ps=some qs->ao K F ps vs->ao K ⟨iC F h H,μ⟩ qs vs:=by
    intro ps;induction ps with
    | nil=>intro qs vs e b;cases e;rw[b.bC];exact .nil
    | cons p ps X1 =>
     intro qs vs e b;obtain⟨y,r,e1,e2,rfl⟩:=cu e;obtain⟨v,w,rfl,b1,b2⟩:=b.bh;exact .cons (ih p y v e1 b1) (X1 r w e2 b2)
   split at e
   ·obtain⟨c,e1,e⟩:=aD e;obtain⟨hl,e⟩:=bt e;obtain⟨qs,e2,rfl⟩:=aI e;obtain⟨a,h1,h2⟩:=cU.mp b;obtain⟨hF,vs,h3,h4⟩:=C.cell _ c a e1 h1 hl;exact gh.mpr ⟨a,vs,h2,h3.to (λb o e=>fR e) (λo e=>by rw[show(Fz.mk (iC F h H) μ).F a=iC F h H a from rfl,Ay hF h1 e1 hl];exact e) (λz=>by cases z),list _ _ _ e2 h4⟩
   ·obtain⟨qs,e2,rfl⟩:=aI e;obtain⟨a,vs,h1,h2,h3⟩:=gh.mp b;exact gh.mpr ⟨a,vs,h1,h2.to (λb o e=>fR e) (λo e=>fR e) id,list _ _ _ e2 h3⟩
   ·cases e
end
section
variable {X:Cx} {aa:Hp} {ab:Fz} {e:Expr} {es:List Expr} {ts:Gx (List PV)} {pos p:Pos} {k n:Nat} {f:Addr} {fd:FuncData} {ps:List Str} {x:Str} {g:lG}
def lU{CX:BO}{sp:Sp}{E:XK}{ae:List (Addr×Obj)}{σ:St}{H:Hp}{s:Shared}{Q:VK}{us:List Value}{vs:List V}(F:FnOk X.prog X.w X.K X.mg X.base CX k f fd ps sp)(hr:dw k X.A)(hb:eO X.K fd ps [])(hx:∀e s',CX X.stack H s E e s'->X.xe e s')
  (I:Inv X ae σ H s) (r:Vals vs us) (h:sp vs H Q E):wpAny (model X.prog X.w) X.A (call (.ref f) us) (EP X ae σ Q) X.xe s:=by
 have RK:=hb s us I.mO (by rw[eI,<-r.length];exact F.len _ _ _ _ h)
 rw[eI]at RK;refine wpAny_call (ku (F.run X.A X.stack s H ⟨us,[]⟩ us vs Q E hr I.Ot RK r h) λr s' hq=>?_)
 cases r with
 | error e=>exact hx e s' hq
 | ok fl =>
  cases fl with
  | ret u=>exact I.after hq
  | next=>exact False.elim hq
  | brk=>exact False.elim hq
  | cont=>exact False.elim hq
def Ub:Rs PV->Rs PV
 | .ok p=>.ok p
 | .ex _ C=>.ex false C
def kP(h:List aj)(p:PV):Option PV:=if h.isEmpty=true then some p else j7 h 4 p
def LM(st:bN):Rs PV×List aj->Option (Rs PV×bN)
 | (.ok p,h)=>(kP h p).map λq=>(.ok q,st)
 | (.ex _ C,_)=>some (.ex false C,st)
def DG(n:Nat)(g:lG)(as:List PV):Gx PV:=λst=>if as.length=n then(g as st.h).map λr=>(Ub r.1,⟨st.ρ,r.2⟩)else none
def i6(n:Nat)(g:lG)(as:List PV):Gx PV:=λst=>if as.length=n/\(st.h.isEmpty || aM as)=true then(g as []).bind (LM st)else none
def DH(n:Nat)(g:lG)(ts:Gx (List PV)):Gx PV:=bnd ts (i6 n g)
def Hr(X:Cx)(f:Addr)(w:List PV->Gx PV):Prop:=∀(aa H:Hp) (ab F:Fz) (st:bN) (σ:St) (ae:List (Addr×Obj)) (s:Shared) (Q:VK) (as:List PV) (us:List Value) (vs:List V),Inv X ae σ H s->Rep X.K aa ab F st σ H->ao X.K F as vs->Vals vs us->Tx X aa ab (aS X.K) F st (w as) σ Q ->
 wpAny (model X.prog X.w) X.A (call (.ref f) us) (EP X ae σ Q) X.xe s
def Uc(G:FnOk X.prog X.w X.K X.mg X.base (js X.prog X.w) k f fd ps (Ax X.K n g))(hr:dw k X.A)(hb:eO X.K fd ps []):Hr X f (DG n g):=by
 rintro aa H ab F st σ ae s Q as us vs I R b r ⟨q,e1,e2⟩
 obtain⟨hl,e1⟩:=bt e1;obtain⟨⟨rs,h'⟩,e3,e4⟩:=aI e1;subst e4;obtain⟨C,full⟩:=R.c.enter;cases rs with
 | ok p'=>exact lU G hr hb (λe s' hx=>CP ae σ H s e s' I hx) I r ⟨_,F,st.h,as,_,h',C,full,b,hl,e3,λv F' H' D b'=>e2 v H' F' ⟨R.c.leave D,R.l.mono D.base⟩ D.base b'⟩
 | ex m c=>exact thn (lU (Q:=λ_ _=>False) G hr hb (λe s' hx=>e2 σ ae H s e s' I hx) I r ⟨_,F,st.h,as,_,h',C,full,b,hl,e3,λcls F' H' D hc=>⟨hc,F',⟨R.c.leave D,R.l.mono D.base⟩,D.base⟩⟩) (by rintro v s3 ⟨_,_,_,_,z⟩;exact z.elim)
def Rep.back{K:W.Frag}{aa H H1 H':Hp}{ab F F':Fz}{μ:List Addr}{st:bN}{σ:St}{h':List aj}(R:Rep K aa ab F st σ H)(hH:bQ H H1)(D:i3 K H1 ⟨F.F,μ⟩ F' h' H'):Rep K aa ab ⟨iC F' h' H',F.μ⟩ st σ H'/\Gr F ⟨iC F' h' H',F.μ⟩:=by
 have g:bQ F.F (iC F' h' H'):=λb o e=>fR (D.base.s b o e)
 refine⟨R.after (hH.trans D.keep) g rfl (λb o e=>?_) (λa o e=>?_),g,λ_ _ z=>z⟩
 ·rcases uA e with z | ⟨z,_⟩
  ·exact D.sub b o z
  ·exact z
 ·rcases uA e with z | ⟨_,n,z⟩
  ·exact(D.fresh a o z).imp_right hH.free
  ·exact .inr (hH.free (D.new n a z).1)
def i3.pure{K:W.Frag}{aa H:Hp}{ab F:Fz}{h:List aj}(C:i3 K aa ab F h H):i3 K H ⟨F.F,[]⟩ ⟨F.F,[]⟩ [] H :=
 ⟨C.sub,bQ.refl H,Gr.refl _,λa o e=>.inl e,λn a e=>by simp at e,rfl,rg,λn c a e=>by simp at e⟩
def DI{K:W.Frag}{H H':Hp}{G F':Fz}{h':List aj}{p q:PV}{v:V}(μ:List Addr)(D:i3 K H G F' h' H')(e:kP h' p=some q)(b:aS K F' p v):aS K ⟨iC F' h' H',μ⟩ q v:=by
 unfold kP at e;split at e
 ·rename_i z;cases e;have e0:F'.μ=[]:=gI (by rw[<-D.hl,we.mp z];rfl)
  exact b.mono ⟨λb o e=>fR e,λn a e=>by rw[e0]at e;simp at e⟩
 ·exact D.j7 μ _ _ _ _ e b
def p6{K:W.Frag}{aa H:Hp}{ab F:Fz}{st:bN}{σ:St}{as:List PV}{vs:List V}(R:Rep K aa ab F st σ H)(hn:(st.h.isEmpty || aM as)=true)(b:ao K F as vs)(μ:List Addr):ao K ⟨F.F,μ⟩ as vs:=by
 rcases Bool.or_eq_true _ _▸hn with z | z
 ·have e0:F.μ=[]:=gI (by rw[<-R.c.hl,we.mp z];rfl)
  exact ao.mono (F:=F) (F':=⟨F.F,μ⟩) ⟨bQ.refl _,λn a e=>by rw[e0]at e;simp at e⟩ b
 ·exact b.any z
def LN(G:FnOk X.prog X.w X.K X.mg X.base (js X.prog X.w) k f fd ps (Ax X.K n g))(hr:dw k X.A)(hb:eO X.K fd ps []):Hr X f (i6 n g):=by
 rintro aa H ab F st σ ae s Q as us vs I R b r ⟨q,e1,e2⟩
 obtain⟨⟨hl,hn⟩,e1⟩:=bt e1;obtain⟨⟨rs,h'⟩,e3,e4⟩:=aD e1;have full:∀b o,H b=some o->H b=some o\/∃n:Nat,(Fz.mk F.F []).μ[n]?=some b:=by grind
 have b3:=p6 R hn b [];cases rs with
 | ok p' =>
  obtain⟨p2,e5,e6⟩:=aI e4;subst e6;refine lU G hr hb (λe s' hx=>CP ae σ H s e s' I hx) I r ⟨H,⟨F.F,[]⟩,[],as,_,h',R.c.pure,full,b3,hl,e3,λv F' H' D b'=>?_⟩
  obtain⟨R3,g3⟩:=R.back (bQ.refl _) D;exact e2 v H' _ R3 g3 (DI F.μ D e5 b')
 | ex m c =>
  cases e4;refine thn (lU (Q:=λ_ _=>False) G hr hb (λe s' hx=>e2 σ ae H s e s' I hx) I r ⟨H,⟨F.F,[]⟩,[],as,_,h',R.c.pure,full,b3,hl,e3,λcls F' H' D hc=>?_⟩) (by rintro v s3 ⟨_,_,_,_,z⟩;exact z.elim)
  obtain⟨R3,g3⟩:=R.back (bQ.refl _) D;exact⟨hc,_,R3,g3⟩
def LO{w:List PV->Gx PV}(G:Hr X f w)(hg:Gl X x)(hm:X.mg x=some (.ref f))(hk:W.keepIn X.K (.ref f)=true)(ha:PA X (e::es) (tA X aa ab ts))(yr:(x==("__debug__":Str))=false)
  (he:starEach (e::es) X.env=(false,eval e X.env)::starEach es X.env) (jA:(backTo pos (starEach es X.env)).any (·.1)=false):PE X (.Call (.Name x p) (e::es) [] pos) (tE X aa ab (bnd ts w)):=by
 rintro ae s σ H Q I ⟨F1,st,R,h⟩
 refine gN (ld_glob I hg hm ?_ yr);exact W.callWith_K I.ok.mod.kin hk (thn (ha pos ae s σ H (λvs H2=>∃F2 da as,Rep X.K aa ab F2 da σ H2/\ao X.K F2 as vs/\Tx X aa ab (aS X.K) F2 da (w as) σ Q) I
  ⟨F1,st,R,h.bnd λas vs F2 da H2 R2 g2 b2 h2=>⟨F2,da,as,R2,b2,h2⟩⟩) (by rintro us s1 ⟨vs,H2,I2,r,F2,da,as,R2,b2,z⟩;exact⟨I2.mO,G _ _ _ _ _ _ _ _ _ _ _ _ I2 R2 b2 r z⟩)) he jA
end
end L2.U
namespace L2
open PySem PySem.Spec PyProof.Rows
section
variable {X:Cx} {ae:List (Addr×Obj)} {σ:St} {H:Hp} {s:Shared} {a b:Addr} {k:List b8} {xs:List (List b8×Addr×Value)}
theorem fS{α β:Type}(f:α->β):∀(l:List α) (i:Nat),(l.eraseIdx i).map f=(l.map f).eraseIdx i
 | [],_=>rfl
 | _::_,0=>rfl
 | x::l,i+1=>d9 (f x::·) (fS f l i)
def PD(K:W.Frag):V->List V->Hp->VK->Prop:=λx vs H Q=>∃a b xs k j p y,x=.ref a/\vs=[.ref b]/\H a=some (.dT xs)/\dM K H xs/\ek K H b (k.map kV)/\xs[j]?=some (k,p)/\RelV y p.2/\Q y (bS H a (.dT (xs.eraseIdx j)))
def LP{α β:Type}{xs:List (α×β)}{i j:Nat}{k:α}{p q:β}(hn:(xs.map (·.1)).Nodup)(h1:xs[i]?=some (k,p))(h2:xs[j]?=some (k,q)):i=j:=by
 refine(vW (l:=xs.map (·.1)) ?_ hn).mp ?_
 ·rw[ah];exact(cw.mp h1).1
 ·rw[bu,bu,h1,h2];rfl
def LQ(hu:X.A.units+1150<cLine):KJ X "dict.pop" (PD X.K):=by
 intro ae s σ H x vs v us Q I rx rv h;obtain⟨a,b,xs,k,j,p,y,rfl,rfl,e,hk,eb,hj,ry,q⟩:=h;cases rx;obtain⟨u1,rfl,r1⟩:=rv.one;cases r1;obtain⟨z,hd,dd⟩:=pK I (.inl e) hk;have hT:=dd.typeIs;obtain⟨o,es,ep,h1,h2,h3,h4,h5,h6⟩:=dd;have Wj:es[j]?=some (entryOfKey (tupleKind (bg X.prog X.w)) (k,p)):=by rw[entry_at h4,hj];rfl
 have ky:=key_is I eb;have Wk:(tupleKind (bg X.prog X.w)).room X.A.in1:=mr (by lia)
 refine d7 PySem.F.slot_dict_pop hT PySem.F.entry_dict_pop ?_ (PySem.F.args_dict_pop_2 _ _);unfold Builtin.«dict.pop» Builtin.Dict.keyAndDefault;refine af (af (vN hT ?_));show wpAny _ _ (pure (a,Value.ref b,none)) _ _ s;refine ag ?_;simp only[show(keyPart (Value.ref b)).isSome=false from rfl,dt,cB]
 refine af (vU h1 h3 (af (ag ?_)));have hne:es.isEmpty=false:=by
  rw[Array.isEmpty_eq_false_iff]
  rintro rfl
  simp at Wj
 rw[hne];simp only[dt,cB];refine af ?_;unfold Builtin.Dict.takeOut
 try with_reducible refine cz ?_
 refine af ((tupleKind (bg X.prog X.w)).pyHash Wk ky (af (wpAny_dictFind_heap (s:={s with toks:=s.toks+(tupleKind (bg X.prog X.w)).draws k}) Wk ky h1 h3 h4 h5 h6 (λS8=>absurd hj (S8 j p)) λj' p' X2=>?_)))
 cases LP h6 hj X2;refine af (vU (s:={s with toks:=s.toks+(tupleKind (bg X.prog X.w)).draws k}) h1 h3 ?_)
 rw[Wj];refine af (wpAny_updateDictKeys (hz:=by rw[size_of_entries h4];exact z) (s:={s with toks:=s.toks+(tupleKind (bg X.prog X.w)).draws k}) h1 h3 (ag ?_))
 simp only[Option.isNone_some,dt,cB];refine af (kx (ag ⟨_,rfl,y,_,I.write (x:=a) (e:=a) (o:=.dT (xs.eraseIdx j)) (by rw[e];exact True.intro) (.inl rfl) (λc q' hc z=>((vQ ..).2 c hc).trans z) ⟨_,gL _ h1 (Obj.isFreed_of_dict (vP h3 _))⟩ ⟨?_,hd,_,_,_,gL _ h1 (Obj.isFreed_of_dict (vP h3 _)),h2.mapDictKeys _,vP h3 _,?_,?_⟩,ry,q⟩))
 ·exact aL (List.length_eraseIdx_le ..) z
 ·rw[fS,<-h4];obtain⟨l⟩:=es;simp
 ·rw[fS];exact h6.sublist (List.eraseIdx_sublist ..)
end
end L2
namespace L2.U
open PySem PySem.Spec PyProof.Rows
def LR:MG:=λc as=>match c.k,as with
 | .dZ true ks,[kp]=>(g7 true kp).bind λk=>(ks.findIdx? λx=>decide (x=k)).bind λj=>(c.ps[j]?).map λp=>(⟨.dZ true (ks.eraseIdx j),c.ps.eraseIdx j⟩,p)
 | _,_=>none
section
variable {X:Cx}
def Ht:uv X.K (PD X.K) LR:=by
 intro aa H ab F st σ n c c' a as ws q Q R hc hl ha hg hb k;unfold LR at hg;split at hg
 ·rename_i ks kp hk;obtain⟨kk,e1,e2⟩:=aD hg;obtain⟨j,e5,e3⟩:=aD e2;obtain⟨p,e6,e4⟩:=aI e3;cases e4;obtain⟨w1,rfl,b1⟩:=bU hb;obtain⟨cc,rfl,Nu⟩:=g8 e1 b1;obtain⟨_,vs,h2,h3⟩:=R.c.cell n c a hc ha hl;rw[hk]at h2;obtain⟨xs,g1,g2,g3,g4⟩:=h2;obtain⟨f1,f2,_⟩:=BD.mp e5;have f2:=d6 f2;subst g3;rw[ah]at f1;rw[List.getElem_map]at f2;have hx:xs[j]?=some (kk,xs[j].2):=by rw[bF f1,<-f2]
  obtain⟨y,hy,X3⟩:=h3.get e6;obtain⟨u,hu,ry⟩:=g4.get hy;rw[bu,bF f1]at hu;cases hu;refine⟨a,cc,xs,kk,j,xs[j].2,y,rfl,rfl,g1,λz hz=>aO R.sub (g2 z hz),aO R.sub Nu,hx,ry,k y F _ (R.put (vs:=vs.eraseIdx j) hc hl ha ⟨xs.eraseIdx j,ar,λz hz=>g2 z (List.mem_of_mem_eraseIdx hz),fS _ _ _,by rw[fS];exact g4.eraseIdx j⟩ ?_) (Gr.refl _) ?_⟩
  ·show ao _ _ (c.ps.eraseIdx j) (vs.eraseIdx j);rw[BE,BE];exact(h3.take _).append (h3.drop _)
  ·exact X3
 ·cases hg
end
end L2.U
namespace L2
open PySem PySem.Spec PyProof.Rows
section
variable {X:Cx}
def Jn(K:W.Frag):V->List V->Hp->VK->Prop:=λx vs H Q=>∃a kvs k,x=.ref a/\vs=[kV k]/\H a=some (.dK kvs)/\Q ((fu kvs k).getD .aV) H
def Hu(hu:X.A.units+1150<cLine):KJ X "dict.get" (Jn X.K):=by
 intro ae s σ H x xs v us Q I rx rv h;obtain⟨a,kvs,k,rfl,rfl,e,h1⟩:=h;cases rx;obtain⟨u1,rfl,r1⟩:=rv.one;obtain⟨z,hd,vs,rel,dd⟩:=CN I.hok e;refine call_meetsIn PySem.F.slot_dict_get dd.typeIs PySem.F.entry_dict_get (PySem.F.args_dict_get_2 _ _) (meets_dict_get (bg X.prog X.w) a (k6 r1) hd) ⟨_,dd.mapOf,(fu kvs k).getD .aV,H,I.tok _,?_,h1⟩;have rk:=rel.val k;cases hv:fu kvs k<;>cases hw:valueAt vs k<;>rw[hv,hw]at rk
 ·rfl
 ·exact rk.elim
 ·exact rk.elim
 ·exact rk
end
end L2
namespace L2.U
open PySem PySem.Spec PyProof.Rows
def LU(h:List aj)(p:PV)(as:List PV):Option PV:=match cX h p,as with
 | some (.dZ false ks,ps),[kp]=>(g7 false kp).bind λk=>if fH k ks=true then cM k ks ps else some .aV
 | _,_=>none
def LV(p:PV)(as:List PV):Gx PV:=hp λh=>LU h p as
section
variable {X:Cx} {aa H:Hp} {ab F:Fz} {st:bN} {σ:St}
def Tx.get{Q:VK}(h:Tx X aa ab (aS X.K) F st (LV p as) σ Q)(R:Rep X.K aa ab F st σ H)(bp:aS X.K F p v)(ba:ao X.K F as ws):Jn X.K v ws H Q:=by
 obtain⟨x,h1,h2⟩:=h.hp;unfold LU at h1;split at h1
 ·rename_i ks ps kp z;obtain⟨kk,e1,e2⟩:=aD h1;obtain⟨a,vs,rfl,ha,dU⟩:=R.at z bp;obtain⟨kvs,k1,k2,k3⟩:=ha;obtain⟨w,X4,rfl,b1,b2⟩:=ba.bh;cases b2.bC;obtain⟨j,rfl,rfl⟩:=fN e1 b1;rw[<-k3]at dU;rw[<-k2]at e2;refine⟨a,kvs,j,rfl,rfl,k1,h2 _ _ F R (Gr.refl _) ?_⟩;cases hv:fu kvs j with
  | none =>
   rw[if_neg (by rw[g9,hv];simp)]at e2
   cases e2;exact bZ.mpr rfl
  | some v =>
   rw[if_pos (by rw[g9,hv];rfl)]at e2
   obtain⟨v',Kw,bv⟩:=lS e2 dU;rw[hv]at Kw;cases Kw;exact bv
 ·cases h1
end
def PF(T:String):Kd->Bool
 | .lst=>T=="list"
 | .dZ _ _=>T=="dict"
 | _=>false
def X5(T:String)(p:PV):Gx Unit:=hp λh=>(cX h p).bind λq=>if PF T q.1=true then some ()else none
section
variable {X:Cx} {aa:Hp} {ab:Fz} {e o:Expr} {es:List Expr} {fo fe:Gx PV} {ts:Gx (List PV)} {pos ju fq:Pos} {T id:String} {name:Str} {r:V->List V->Hp->VK->Prop}
def Rep.tyV{K:W.Frag}{st:bN}(R:Rep K aa ab F st σ H)(e:cX st.h p=some (k,ps))(ht:PF T k=true)(b:aS K F p v):L2.tyV K T v H:=by
 obtain⟨a,vs,rfl,h2,h3⟩:=R.at e b
 match k,ht,h2 with
 | .lst,ht,h2=>exact .inl ⟨aE ht,vs,fJ.sq h2⟩
 | .dZ false ks,ht,⟨kvs,h2,_⟩=>exact .inr (.inr (.inl ⟨aE ht,.inl ⟨kvs,h2⟩⟩))
 | .dZ true ks,ht,⟨xs,h2,_⟩=>exact .inr (.inr (.inl ⟨aE ht,.inr ⟨xs,h2⟩⟩))
def Hv(T:String)(w:PV->List PV->Gx PV)(fo:Gx PV)(ts:Gx (List PV)):Gx PV:=bnd fo λp=>bnd (X5 T p) λ_=>bnd ts λas=>w p as
def PH(X:Cx)(r:V->List V->Hp->VK->Prop)(w:PV->List PV->Gx PV):Prop:=∀(aa H:Hp) (ab F:Fz) (st:bN) (σ:St) (p:PV) (as:List PV) (v:V) (ws:List V) (Q:VK),Tx X aa ab (aS X.K) F st (w p as) σ Q->Rep X.K aa ab F st σ H->aS X.K F p v->ao X.K F as ws->r v ws H Q
def i7(hw:PH X r w)(h:tE X aa ab (Hv T w fo ts) σ H Q):VQ X.K T r (tE X aa ab fo) (tA X aa ab ts) σ H Q:=by
 obtain⟨F,st,R,h⟩:=h;refine⟨F,st,R,h.bnd λp v F1 aH H1 R1 g1 b1 h1=>?_⟩
 obtain⟨u,e,z⟩:=At.hp (At.bnd h1);obtain⟨⟨k,ps⟩,e1,e2⟩:=aD e;obtain⟨hk,_⟩:=aw e2;refine⟨R1.tyV e1 hk b1,F1,aH,R1,Tx.bnd z λas ws F2 da H2 R2 g2 b2 h2=>hw aa H2 ab F2 da σ p as v ws Q h2 R2 (b1.mono g2) b2⟩
def Hw(hw:PH X r w)(h:tE X aa ab (Hv T w fo (bP [])) σ H Q):OC X.K T r (tE X aa ab fo) σ H Q:=by
 obtain⟨F,st,R,h⟩:=h;refine⟨F,st,R,h.bnd λp v F1 aH H1 R1 g1 b1 h1=>?_⟩
 obtain⟨u,e,z⟩:=At.hp (At.bnd h1);obtain⟨⟨k,ps⟩,e1,e2⟩:=aD e;obtain⟨hk,_⟩:=aw e2;exact⟨R1.tyV e1 hk b1,hw aa H1 ab F1 aH σ p [] v [] Q (At.bP (At.bnd z)) R1 b1 .nil⟩
def nC(hg:uv X.K r g):PH X r (oK g):=λ_ _ _ _ _ _ _ _ _ _ _ h R bp ba=>Tx.mut hg h R bp ba
def LW:PH X (Lv X.K) De:=λ_ _ _ _ _ _ _ _ _ _ _ h R bp ba=>Tx.ext h R bp ba
def uB(m:Str):Option (String×(PV->List PV->Gx PV)) :=
 if m==("append":Str)then some ("list",oK (gV xb))
 else if m==("extend":Str)then some ("list",De)
 else if m==("insert":Str)then some ("list",oK (gV G6))
 else if m==("setdefault":Str)then some ("dict",oK G8)
 else if m==("pop":Str)then some ("dict",oK LR)
 else if m==("get":Str)then some ("dict",LV)
 else none
def xi(m:Str):Option (String×(PV->List PV->Gx PV)) :=
 if m==("reverse":Str)then some ("list",oK (gV G4))
 else if m==("pop":Str)then none
 else if m==("clear":Str)then none
 else none
def Ud(hu:X.A.units+1150<cLine)(ht:uB name=some (T,w))(ho:PE X o (tE X aa ab fo))(ha:PA X (e::es) (tA X aa ab ts))(fy:attributeBase o name X.env (eval o X.env)=eval o X.env)
  (oH:((backTo fq (starEach (e::es) X.env)).all (λx=>!x.1)&&(backToKw fq (keywordEach [] X.env)).all (λx=>x.1.isSome)&&decide ((e::es).length+([]:List Keyword).length+(if([]:List Keyword).isEmpty then 0 else 1)<30))=true)
  (er:(ju.endLine==fq.line)=true) (jr:starEach (e::es) X.env=(false,eval e X.env)::starEach es X.env) (jA:(backTo fq (starEach es X.env)).any (·.1)=false):PE X (.Call (.Attribute o name ju) (e::es) [] fq) (tE X aa ab (Hv T w fo ts)):=by
 unfold uB at ht;split at ht
 ·rename_i hx;cases ht;have hx:=aE hx;subst hx;exact(m4 me PySem.F.slot_list_append PySem.F.type_list_append zX ho ha fy oH er jr jA).imp λ_ _ _ h=>i7 (nC G3) h
 ·split at ht
  ·rename_i hx;cases ht;have hx:=aE hx;subst hx;exact(m4 me PySem.F.slot_list_extend PySem.F.type_list_extend Lw ho ha fy oH er jr jA).imp λ_ _ _ h=>i7 LW h
  ·split at ht
   ·rename_i hx;cases ht;have hx:=aE hx;subst hx;exact(m4 me PySem.F.slot_list_insert PySem.F.type_list_insert Al ho ha fy oH er jr jA).imp λ_ _ _ h=>i7 (nC G7) h
   ·split at ht
    ·rename_i hx;cases ht;have hx:=aE hx;subst hx;exact(m4 vI BG PySem.F.type_dict_setdefault Ls ho ha fy oH er jr jA).imp λ_ _ _ h=>i7 (nC G9) h
    ·split at ht
     ·rename_i hx;cases ht;have hx:=aE hx;subst hx;exact(m4 vI PySem.F.slot_dict_pop PySem.F.type_dict_pop (LQ hu) ho ha fy oH er jr jA).imp λ_ _ _ h=>i7 (nC Ht) h
     ·split at ht
      ·rename_i hx;cases ht;have hx:=aE hx;subst hx;exact(m4 vI PySem.F.slot_dict_get PySem.F.type_dict_get (Hu hu) ho ha fy oH er jr jA).imp λ_ _ _ h=>i7 (λ_ _ _ _ _ _ _ _ _ _ _ h R bp ba=>Tx.get h R bp ba) h
      ·cases ht
def PJ(ht:xi name=some (T,w))(ho:PE X o (tE X aa ab fo))(fy:attributeBase o name X.env (eval o X.env)=eval o X.env)(er:(ju.endLine==fq.line)=true) :
  PE X (.Call (.Attribute o name ju) [] [] fq) (tE X aa ab (Hv T w fo (bP []))):=by
 unfold xi at ht;split at ht
 ·rename_i hx;cases ht;have hx:=aE hx;subst hx;exact(CJ me PySem.F.slot_list_reverse PySem.F.type_list_reverse wW ho fy er).imp λ_ _ _ h=>Hw (nC G5) h
 ·grind
def PK(po pi pv:PV):bN->Option bN:=λst=>(Am st.h po).bind λc=>match c.2.k with
 | .lst=>(oJ pi).bind λi=>(Fg c.2.ps.length i).map λj=>⟨st.ρ,st.h.set c.1 ⟨.lst,c.2.ps.set j pv⟩⟩
 | .dZ t ks=>(g7 t pi).bind λk=>if ks.length<gY then some ⟨st.ρ,st.h.set c.1 (rY t k pv ks c.2.ps)⟩else none
 | _=>none
def Ue(K:W.Frag):Cm:=λo i v H Q=>∃aa ab F st τ po pi pv bB,PK po pi pv st=some bB/\Rep K aa ab F st τ H/\aS K F po o/\aS K F pi i/\aS K F pv v/\∀H' F',Rep K aa ab F' bB τ H'->Gr F F'->Q H'
def PL(hu:X.A.units+1150<cLine):Cn X (Ue X.K):=by
 rintro ae s σ H o i v ov iv u Q I ro ri rv ⟨aa,ab,F,st,τ,po,pi,pv,bB,e,R,bo,bi,bv,k⟩
 obtain⟨⟨n,c⟩,e1,e0⟩:=aD e;clear e;have e:=e0;clear e0;obtain⟨rfl,hc,hl⟩:=fO e1;obtain⟨a,ha,rfl⟩:=cU.mp bo;obtain⟨_,vs,h2,h3⟩:=R.c.cell n c a hc ha hl;split at e
 ·rename_i hk;obtain⟨j,e2,e⟩:=aD e;obtain⟨m,e3,rfl⟩:=aI e;rw[dO e2]at bi;have hk:=hk;rw[hk]at h2;refine CH ae s σ H _ _ v ov iv u Q I ro ri rv ⟨a,vs,j,m,rfl,au.mp bi,h2,by rw[<-h3.length];exact e3,k _ F (R.put hc hl ha ar (h3.set bv m)) (Gr.refl _)⟩
 ·rename_i t ks hk;have hk:=hk;obtain⟨kk,e2,e⟩:=aD e;obtain⟨hz,rfl⟩:=aw e;rw[hk]at h2;cases t with
  | false =>
   obtain⟨kvs,g1,g2,g3⟩:=h2;obtain⟨j,rfl,rfl⟩:=fN e2 bi;rw[<-g3]at h3;obtain⟨pU,tm,p1,p2,p3⟩:=C9 (j:=j) bv h3;have cS:kvs.length<sizeLine:=by
    have:ks.length=kvs.length:=by grind
    exact bG (by grind) (cL (aq _))
   rw[g2]at p1;refine Lx ae s σ H _ _ v ov iv u Q I ro ri rv ⟨a,kvs,j,rfl,rfl,g1,cS,k _ F ?_ (Gr.refl _)⟩;simp only[p1];exact R.put hc hl ha ⟨_,ar,p2,rfl⟩ p3
  | true =>
   obtain⟨xs,g1,g2,g3,g4⟩:=h2;obtain⟨cc,rfl,Nu⟩:=g8 e2 bi;refine Ly (by lia) ae s σ H _ _ v ov iv u Q I ro ri rv ⟨a,cc,xs,kk,rfl,rfl,g1,λz hz=>aO R.sub (g2 z hz),aO R.sub Nu,(by
    have:ks.length=xs.length:=by grind
    exact bG (by grind) (cL (aq _))),λr hr=>?_⟩
   obtain⟨pU,tm,uq,p1,p2,p3,p4,p5⟩:=Lp bv hr Nu g2 h3 g4;rw[g3]at p1;refine k _ F ?_ (Gr.refl _);simp only[p1];exact R.put hc hl ha ⟨_,ar,p3,p2,p5⟩ p4
 ·cases e
def LX(fv fo fi:Gx PV):Gx dN:=bnd fv λv=>bnd fo λo=>bnd fi λi=>stp (PK o i v)
def PM(hu:X.A.units+1150<cLine)(he:PE X e (tE X aa ab fv))(ho:PE X o (tE X aa ab fo))(hi:PE X k (tE X aa ab fi))
  (ha:∀v,assign (.Subscript o k Ao) X.env v=(do
   let ov <-holding [v] (eval o X.env)
   let iv <-holding [v,ov] (eval k X.env)
   standAt Ao
   holding [v,ov,iv] (setItem ov iv v)
   release [v,ov,iv] []))
  (hs:swapsWithSole [.Subscript o k Ao] e pos.line X.env=pure false) (hw:swappedStores [.Subscript o k Ao] e X.env=pure none):PS X (.Assign [.Subscript o k Ao] e pos) (tS X aa ab (LX fv fo fi)) :=
 (Cp he (Ke ho hi (PL hu) ha) hs hw rfl).imp λD σ H ⟨F,st,R,h⟩=>⟨F,st,R,h.bnd λpv v F1 aH H1 R1 g1 b1 h1=>⟨F1,aH,R1,h1.bnd λpo o F2 da H2 R2 g2 b2 h2=>⟨F2,da,R2,h2.bnd λpi i F3 FZ H3 R3 g3 b3 h3=>by
  obtain⟨bB,e,z⟩:=h3.stp;exact⟨aa,ab,F3,FZ,σ,po,pi,pv,bB,e,R3,b2.mono g3,b3,b1.mono (g2.trans g3),λH' F' R' g'=>z F' σ H' R' g'⟩⟩⟩⟩
def LY(t:Bool):Gx PV:=gC ⟨.dZ t [],[]⟩
def PN(t:Bool):PE X (.Dict [] [] pos) (tE X aa ab (LY t)):=by
 cases t with
 | false=>exact Dd.imp (by rintro σ H Q ⟨F,st,R,h⟩ p hp;exact Tx.gC h R hp ⟨[],ar,rfl,rfl⟩ .nil)
 | true=>exact GA.imp (by rintro σ H Q ⟨F,st,R,h⟩ p hp;exact Tx.gC h R hp ⟨[],ar,(λ_ z=>nomatch z),rfl,.nil⟩ .nil)
end
def yU(K:W.Frag)(mg:Str->Option Value)(P:Params)(T:Str)(rows:List (Str×Str)):Prop :=
 ∃a es n,mg T=some (.ref a)/\K.lookup a=some ⟨.type "dict",none,.dict es n,#[]⟩/\W.KeysLit P es.toList/\∀k fn,rows.lookup k=some fn->∃f,W.nsIn K a k=some (some (.ref f))/\mg fn=some (.ref f)/\W.nsIn K mainGlobals fn=some (some (.ref f))
def nD(K:W.Frag)(mg:Str->Option Value)(P:Params)(T:Str)(rows:List (Str×PV)):Prop :=
 ∃a es n,(a==sysModules)=false/\mg T=some (.ref a)/\K.lookup a=some ⟨.type "dict",none,.dict es n,#[]⟩/\W.KeysLit P es.toList/\∀k p,rows.lookup k=some p->∃u v,W.nsIn K a k=some (some u)/\RelV v u/\∀F,aS K F p v
def Ug(K:W.Frag)(a:Addr):R2:=λx y H Q=>∃k u v,x=.ref a/\y=.str k/\W.nsIn K a k=some (some u)/\RelV v u/\Q v H
def uC:PV->Option Str | .str x=>some x | _=>none
def ix(h:uC p=some i):p=.str i:=by
 cases p<;>first | (cases h;rfl) | cases h
section
variable {X:Cx} {aa:Hp} {ab:Fz} {e ke:Expr} {es:List Expr} {fk fe ff:Gx PV} {ts:Gx (List PV)} {pos p sp:Pos} {T:Str}
def DJ{es:Array DictEntry}(hl:X.K.lookup a=some ⟨.type "dict",none,.dict es n,#[]⟩)(hk:W.KeysLit X.w.params es.toList):Nw X (Ug X.K a):=by
 rintro value slice ae s σ H x y v u Q I rx ry ⟨k,u',v',ex,ey,e,rv,q⟩ hs
 subst ex ey;cases rx;obtain⟨t,rfl⟩:=ry;have hm:=W.mapOf_K (prog:=X.prog) I.mO hl hk;exact kz hm.typeIs slot_dict_getitem.lookup (wpAny_getItem_of (mJ X.prog X.w k t) hm (W.find_K hl e) ⟨v',H,I.tok _,rv,q⟩) hs
def DK(Gd:Str->Option PV)(fk:Gx PV):Gx PV:=bnd fk λq=>ez ((uC q).bind Gd)
def PQ(ht:nD X.K X.mg X.w.params T rows)(hg:Gl X T)(hk:PE X ke (tE X aa ab fk))(hs:jD ke)(yr:(T==("__debug__":Str))=false):PE X (.Subscript (.Name T p) ke sp) (tE X aa ab (DK (λk=>rows.lookup k) fk)):=by
 obtain⟨a,IP,n,_,t1,t2,t3,t4⟩:=ht;refine(CG (DJ t2 t3) (jy (v:=.ref a) hg t1 rfl yr) hk hs).imp λσ H Q ⟨F,st,R,h⟩=>?_
 refine⟨F,st,R,h.bnd λpk v F1 aH H1 R1 g1 b1 h1=>?_⟩
 obtain⟨q,e1,z⟩:=h1.ez;obtain⟨k,e2,e3⟩:=aD e1;rw[ix e2]at b1;obtain⟨u,w,n1,n2,n3⟩:=t4 k q e3;exact⟨k,u,w,rfl,aX.mp b1,n1,n2,z _ H1 F1 R1 (Gr.refl _) (n3 F1)⟩
def Hx(K:W.Frag)(a:Addr)(n:Bool):R2:=λx y H Q=>∃k u,x=.str k/\y=.ref a/\W.nsIn K a k=some (some u)/\Q (.bl (!n)) H
def LZ{es:Array DictEntry}(hd:(a==sysModules)=false)(hl:X.K.lookup a=some ⟨.type "dict",none,.dict es n,#[]⟩)(hk:W.KeysLit X.w.params es.toList):OpR X (compareOp .In) (Hx X.K a false):=by
 rintro ae s σ H x y v u Q I rx ry ⟨k,u',ex,ey,e,q⟩
 subst ex ey;cases ry;obtain⟨t,rfl⟩:=rx;have hm:=W.mapOf_K (prog:=X.prog) I.mO hl hk;exact wpAny_in_of (mJ X.prog X.w k t) hd hm ⟨.bl true,H,I.tok _,by rw[W.find_K hl e];rfl,q⟩
def L0{es:Array DictEntry}(hd:(a==sysModules)=false)(hl:X.K.lookup a=some ⟨.type "dict",none,.dict es n,#[]⟩)(hk:W.KeysLit X.w.params es.toList):OpR X (compareOp .NotIn) (Hx X.K a true):=by
 rintro ae s σ H x y v u Q I rx ry ⟨k,u',ex,ey,e,q⟩
 subst ex ey;cases ry;obtain⟨t,rfl⟩:=rx;have hm:=W.mapOf_K (prog:=X.prog) I.mO hl hk;exact wpAny_notIn_of (mJ X.prog X.w k t) hd hm ⟨.bl false,H,I.tok _,by rw[W.find_K hl e];rfl,q⟩
def Az(rows:List (Str×PV))(n:Bool)(fk:Gx PV):Gx PV:=bnd fk λq=>ez ((uC q).bind λk=>(rows.lookup k).map λ_=>.bl (!n))
def DL(t0:(a==sysModules)=false)(t2:X.K.lookup a=some ⟨.type "dict",none,.dict IP n',#[]⟩)(t3:W.KeysLit X.w.params IP.toList)(RU:op=.In/\n=false\/op=.NotIn/\n=true):OpR X (compareOp op) (Hx X.K a n):=by
 rcases RU with⟨rfl,rfl⟩ | ⟨rfl,rfl⟩
 ·exact LZ t0 t2 t3
 ·exact L0 t0 t2 t3
def Jo(ht:nD X.K X.mg X.w.params T rows)(hg:Gl X T)(hk:PE X ke (tE X aa ab fk))(yr:(T==("__debug__":Str))=false)(RU:op=.In/\n=false\/op=.NotIn/\n=true)(hb:behindInMarks op (.Name T p)=false) :
  PE X (.Compare ke [op] [.Name T p] sp) (tE X aa ab (Az rows n fk))/\PT X (.Compare ke [op] [.Name T p] sp) (tT X aa ab (toB (Az rows n fk))):=by
 obtain⟨a,IP,n',t0,t1,t2,t3,t4⟩:=ht;have im:∀{σ H Q},tE X aa ab (Az rows n fk) σ H Q->Kk (Hx X.K a n) (tE X aa ab fk) (tC (.ref a)) σ H Q:=by
  intro σ H Q;rintro ⟨F,st,R,h⟩
  refine⟨F,st,R,h.bnd λpk v F1 aH H1 R1 g1 b1 h1=>?_⟩
  obtain⟨q,e1,z⟩:=h1.ez;obtain⟨k,e2,e3⟩:=aD e1;obtain⟨q',e4,rfl⟩:=aI e3;rw[ix e2]at b1;obtain⟨u,w,n1,n2,n3⟩:=t4 k q' e4;exact⟨k,u,aX.mp b1,rfl,n1,z _ H1 F1 R1 (Gr.refl _) (aN.mpr rfl)⟩
 exact⟨(yn (DL t0 t2 t3 RU) hk (jy (v:=.ref a) hg t1 rfl yr) hb).imp λ_ _ _ h=>im h,(yo (DL t0 t2 t3 RU) hk (jy (v:=.ref a) hg t1 rfl yr) hb).imp λ_ _ _ h=>im (toB_imp h)⟩
def PR(ht:yU X.K X.mg X.w.params T rows)(hg:Gl X T)(hk:PE X ke (tE X aa ab fk))(hs:jD ke)(yr:(T==("__debug__":Str))=false):PE X (.Subscript (.Name T p) ke sp) (tE X aa ab (DK (λk=>(rows.lookup k).map .fn) fk)):=by
 obtain⟨a,IP,n,t1,t2,t3,t4⟩:=ht;refine(CG (DJ t2 t3) (jy (v:=.ref a) hg t1 rfl yr) hk hs).imp λσ H Q ⟨F,st,R,h⟩=>?_
 refine⟨F,st,R,h.bnd λpk v F1 aH H1 R1 g1 b1 h1=>?_⟩
 obtain⟨q,e1,z⟩:=h1.ez;obtain⟨k,e2,e3⟩:=aD e1;obtain⟨fn,e4,rfl⟩:=aI e3;rw[ix e2]at b1;obtain⟨f,n1,n2,n3⟩:=t4 k fn e4;exact⟨k,.ref f,.ref f,rfl,aX.mp b1,n1,rfl,z _ H1 F1 R1 (Gr.refl _) (kD.mpr ⟨f,rfl,n3⟩)⟩
def DM(X:Cx)(fns:List (Str×Nat))(call:Str->lG):Prop:=∀x n,fns.lookup x=some n->∃k f fd ps,FnOk X.prog X.w X.K X.mg X.base (js X.prog X.w) k f fd ps (Ax X.K n (call x))/\dw k X.A/\X.mg x=some (.ref f)/\W.keepIn X.K (.ref f)=true/\eO X.K fd ps []
def RV:PV->Option Str | .fn x=>some x | _=>none
def uD{p:PV}(h:RV p=some i):p=.fn i:=by
 cases p<;>first | (cases h;rfl) | cases h
def p7(fns:List (Str×Nat))(call:Str->lG)(ff:Gx PV)(ts:Gx (List PV)):Gx PV:=bnd ff λq=>bnd (ez ((RV q).bind λx=>(fns.lookup x).map λn=>(x,n))) λx=>DH x.2 (call x.1) ts
def sh(v k:Expr)(sp:Pos)(args:List Expr)(pos:Pos)(env:Env):eval (.Call (.Subscript v k sp) args [] pos) env=(do callWith pos (<-eval (.Subscript v k sp) env) [] (backTo pos (starEach args env)) (backToKw pos (keywordEach [] env))):=rfl
def Hy{call:Str->lG}(J1:DM X fns call)(Gz:∀x a,W.nsIn X.K mainGlobals x=some (some (.ref a))->X.mg x=some (.ref a))(hf:PE X (.Subscript v k sp) (tE X aa ab ff))(ha:PA X (e::es) (tA X aa ab ts))
  (he:starEach (e::es) X.env=(false,eval e X.env)::starEach es X.env) (jA:(backTo pos (starEach es X.env)).any (·.1)=false):PE X (.Call (.Subscript v k sp) (e::es) [] pos) (tE X aa ab (p7 fns call ff ts)):=by
 rintro ae s σ H Q I ⟨F,st,R,h⟩
 rw[sh];refine af (thn (hf ae s σ H (λv H1=>∃F1 aH q,Rep X.K aa ab F1 aH σ H1/\aS X.K F1 q v/\Tx X aa ab (aS X.K) F1 aH (bnd (ez ((RV q).bind λx=>(fns.lookup x).map λn=>(x,n))) λx=>DH x.2 (call x.1) ts) σ Q) I
  ⟨F,st,R,h.bnd λq v F1 aH H1 R1 g1 b1 h1=>⟨F1,aH,q,R1,b1,h1⟩⟩) λu s1 ⟨x,H1,I1,rx,F1,aH,q,R1,b1,h1⟩=>?_)
 obtain⟨⟨y,n⟩,e1,z⟩:=At.ez (At.bnd h1);obtain⟨y',e2,e3⟩:=aD e1;obtain⟨n',e4,e5⟩:=aI e3;simp only[iU]at e5;obtain⟨rfl,rfl⟩:=e5;rw[uD e2]at b1;obtain⟨a,rfl,Lb⟩:=kD.mp b1;obtain⟨j,f',fd,ps,G,hr,m1,m2,m3⟩:=J1 _ _ e4;have:=bz ((Gz _ a Lb).symm.trans m1);cases this;cases rx;exact W.callWith_K I.ok.mod.kin m2 (thn (ha pos ae s1 σ H1 (λvs H2=>∃F2 da as,Rep X.K aa ab F2 da σ H2/\ao X.K F2 as vs/\Tx X aa ab (aS X.K) F2 da (i6 _ _ as) σ Q) I1
  ⟨F1,aH,R1,Tx.bnd z λas vs F2 da H2 R2 g2 b2 h2=>⟨F2,da,as,R2,b2,h2⟩⟩) (by rintro us s2 ⟨vs,H2,I2,r,F2,da,as,R2,b2,z⟩;exact⟨I2.mO,LN G hr m3 _ _ _ _ _ _ _ _ _ _ _ _ I2 R2 b2 r z⟩)) he jA
def Hz{call:Str->lG}(J1:DM X fns call)(Gz:∀x a,W.nsIn X.K mainGlobals x=some (some (.ref a))->X.mg x=some (.ref a))(hf:PE X (.Name y p) (tE X aa ab ff))(ha:PA X (e::es) (tA X aa ab ts))
  (he:starEach (e::es) X.env=(false,eval e X.env)::starEach es X.env) (jA:(backTo pos (starEach es X.env)).any (·.1)=false):PE X (.Call (.Name y p) (e::es) [] pos) (tE X aa ab (p7 fns call ff ts)):=by
 rintro ae s σ H Q I ⟨F,st,R,h⟩
 refine gN (thn (hf ae s σ H (λv H1=>∃F1 aH q,Rep X.K aa ab F1 aH σ H1/\aS X.K F1 q v/\Tx X aa ab (aS X.K) F1 aH (bnd (ez ((RV q).bind λx=>(fns.lookup x).map λn=>(x,n))) λx=>DH x.2 (call x.1) ts) σ Q) I
  ⟨F,st,R,h.bnd λq v F1 aH H1 R1 g1 b1 h1=>⟨F1,aH,q,R1,b1,h1⟩⟩) λu s1 ⟨x,H1,I1,rx,F1,aH,q,R1,b1,h1⟩=>?_)
 obtain⟨⟨y1,n⟩,e1,z⟩:=At.ez (At.bnd h1);obtain⟨y',e2,e3⟩:=aD e1;obtain⟨n',e4,e5⟩:=aI e3;simp only[iU]at e5;obtain⟨rfl,rfl⟩:=e5;rw[uD e2]at b1;obtain⟨a,rfl,Lb⟩:=kD.mp b1;obtain⟨j,f',fd,ps,G,hr,m1,m2,m3⟩:=J1 _ _ e4;have:=bz ((Gz _ a Lb).symm.trans m1);cases this;cases rx;exact W.callWith_K I.ok.mod.kin m2 (thn (ha pos ae s1 σ H1 (λvs H2=>∃F2 da as,Rep X.K aa ab F2 da σ H2/\ao X.K F2 as vs/\Tx X aa ab (aS X.K) F2 da (i6 _ _ as) σ Q) I1
  ⟨F1,aH,R1,Tx.bnd z λas vs F2 da H2 R2 g2 b2 h2=>⟨F2,da,as,R2,b2,h2⟩⟩) (by rintro us s2 ⟨vs,H2,I2,r,F2,da,as,R2,b2,z⟩;exact⟨I2.mO,LN G hr m3 _ _ _ _ _ _ _ _ _ _ _ _ I2 R2 b2 r z⟩)) he jA
def yV(f:Str):List Str->List PV->Option PV
 | g::ns,p::ps=>if g=f then some p else yV f ns ps
 | _,_=>none
def L3(f:Str)(fe:Gx PV):Gx PV:=bnd fe λp=>hp λh=>match cX h p with
 | some (.ins _ ns,ps)=>yV f ns ps
 | _=>none
theorem uE{K:W.Frag}:∀{fs:List (Str×V)} {ps:List PV} {p:PV},yV f (fs.map (·.1)) ps=some p->ao K F ps (fs.map (·.2))->f∈fs.map (·.1)/\∃v,fs.lookup f=some v/\aS K F p v
 | [],_,_,h,_=>by cases h
 | (g,v)::r,[],_,h,_=>by cases h
 | (g,v)::r,q::ps,p,h,b=>by
  obtain⟨v',w,e,b1,b2⟩:=b.bh;cases e;have h:(if g=f then some q else yV f (r.map (·.1)) ps)=some p:=h
  by_cases hg:g=f
  ·grind
  ·rw[if_neg hg]at h;obtain⟨h1,v2,h2,h3⟩:=uE h b2;have Y7:(f==g)=false:=by grind
   exact⟨bW _ h1,v2,by grind,h3⟩
def PU(he:PE X e (tE X aa ab fe))(hb:attributeBase e f X.env (eval e X.env)=eval e X.env):PE X (.Attribute e f pos) (tE X aa ab (L3 f fe)):=(Kx he hb).imp λσ H Q ⟨F,st,R,h⟩=>⟨F,st,R,h.bnd λq v F1 aH H1 R1 g1 b1 h1=>by
 obtain⟨o,e,z⟩:=h1.hp;split at e
 ·rename_i C ns ps hd;obtain⟨a,vs,rfl,⟨Ca,dx,fs,h2,h3,h4,h5,h6,h7⟩,h8⟩:=R1.at hd b1;subst h6 h7;obtain⟨hm,w,hl,bw⟩:=uE e h8;exact⟨a,Ca,dx,fs,w,rfl,h5,h3,h4 f hm,hl,z _ H1 F1 R1 (Gr.refl _) bw⟩
 ·cases e⟩
def lH(f:Str)(q:PV):List Str->List PV->List Str×List PV
 | g::ns,p::ps=>if g=f then(g::ns,q::ps)else(g::(lH f q ns ps).1,p::(lH f q ns ps).2)
 | _,_=>([f],[q])
theorem yW{K:W.Frag}(bq:aS K F q v):∀{fs:List (Str×V)} {ps:List PV},ao K F ps (fs.map (·.2))->(fK f v fs).map (·.1)=(lH f q (fs.map (·.1)) ps).1/\ao K F (lH f q (fs.map (·.1)) ps).2 ((fK f v fs).map (·.2))/\∀g∈(lH f q (fs.map (·.1)) ps).1,g=f\/g∈fs.map (·.1)
 | [],ps,b=>by
  have e:=gI b.length;subst e;exact⟨rfl,.cons bq .nil,λg hg=>.inl (by simpa[lH]using hg)⟩
 | (g,w)::r,[],b=>by have:=b.length;simp at this
 | (g,w)::r,p::ps,b=>by
  obtain⟨v',w',e,b1,b2⟩:=b.bh;cases e;obtain⟨h1,h2,h3⟩:=yW bq b2;by_cases hg:g=f
  ·subst hg;have e1:fK g v ((g,w)::r)=(g,v)::r:=if_pos rfl;have e2:lH g q (((g,w)::r).map (·.1)) (p::ps)=(g::r.map (·.1),q::ps):=if_pos rfl;rw[e1,e2];exact⟨rfl,.cons bq b2,λy hy=>.inr hy⟩
  ·have e1:fK f v ((g,w)::r)=(g,w)::fK f v r:=if_neg hg;have e2:lH f q (((g,w)::r).map (·.1)) (p::ps)=(g::(lH f q (r.map (·.1)) ps).1,p::(lH f q (r.map (·.1)) ps).2):=if_neg hg;rw[e1,e2];refine⟨by rw[aA,h1],.cons b1 h2,λy hy=>?_⟩
   rcases aY.mp hy with rfl | hy
   ·grind
   ·grind
def DN(K:W.Frag)(cls:List Str)(flds:List Str):Prop:=∀C,cls.contains C=true->∃Ca,ClsAt K C (.ref Ca)/\zz K Ca/\∀f,flds.contains f=true->gg K Ca f
def Uh(cls flds:List Str)(f:Str)(po pv:PV):bN->Option bN:=λst=>(Am st.h po).bind λc=>match c.2.k with
 | .ins C ns=>if(cls.contains C&&flds.contains f&&decide (ns.length<900))=true then some ⟨st.ρ,st.h.set c.1 ⟨.ins C (lH f pv ns c.2.ps).1,(lH f pv ns c.2.ps).2⟩⟩else none
 | _=>none
def xj(cls flds:List Str)(f:Str)(fv fo:Gx PV):Gx dN:=bnd fv λv=>bnd fo λo=>stp (Uh cls flds f o v)
def PX{cls flds:List Str}(hc:DN X.K cls flds)(ho:PE X o (tE X aa ab fo))(he:PE X e (tE X aa ab fv))(hs:swapsWith e (some (.Attribute o f oF)) pos.line X.env=pure false):PS X (.Assign [.Attribute o f oF] e pos) (tS X aa ab (xj cls flds f fv fo)) :=
 (Kz ho he hs).imp λD σ H ⟨F,st,R,h⟩=>⟨F,st,R,h.bnd λpv v F1 aH H1 R1 g1 b1 h1=>⟨F1,aH,R1,h1.bnd λpo o F2 da H2 R2 g2 b2 h2=>by
  obtain⟨bB,e,z⟩:=h2.stp;obtain⟨⟨n,c⟩,e1,e0⟩:=aD e;clear e;have e:=e0;clear e0;obtain⟨rfl,By,hl⟩:=fO e1;obtain⟨a,ha,rfl⟩:=cU.mp b2;obtain⟨_,vs,Wl,g3⟩:=R2.c.cell n c a By ha hl;split at e
  ·rename_i C ns hk;have hk:=hk;obtain⟨hq,rfl⟩:=aw e;rw[aC,aC]at hq;rw[hk]at Wl;obtain⟨Ca,dx,fs,k1,k2,k3,k4,rfl,rfl⟩:=Wl;obtain⟨Cb,m1,m2,m3⟩:=hc C hq.1.1;have eC:Ca=Cb:=by
    have:=k1.symm.trans m1;cases this;rfl
   subst eC;have cS:=d6 hq.2;rw[ah]at cS;obtain⟨p1,p2,p3⟩:=yW (b1.mono g2) g3;refine⟨a,Ca,dx,fs,rfl,k4,k2,m3 f hq.1.2,(Nat.le_add_left_of_le ‹_›),z F2 σ _ (R2.put By hl ha ⟨Ca,dx,_,k1,k2,λg hg=>?_,ar,p1,rfl⟩ p2) (Gr.refl _)⟩
   rcases p3 g hg with rfl | hg
   ·exact m3 _ hq.1.2
   ·exact k3 g hg
  ·cases e⟩⟩
def PY(st:bN):Rs PV×List aj->Option (Rs PV×bN)
 | (.ok .aV,h)=>(j7 h 4 (.ref 0)).map λq=>(.ok q,st)
 | _=>none
def PZ(C:Str)(n:Nat)(g:lG)(ts:Gx (List PV)):Gx PV:=bnd ts λas st=>if as.length+1=n/\(st.h.isEmpty || aM as)=true then(g (.ref 0::as) [⟨.ins C [],[]⟩]).bind (PY st)else none
section
variable {C:Str} {Ca f:Addr} {fd:FuncData} {ps:List Str} {g:lG} {k n:Nat}
def HA(hC:ClsAt X.K C (.ref Ca))(c:zz X.K Ca)(h:tE X aa ab (PZ C n g ts) σ H Q):IW Ca (Ax X.K n g) [] E0 (tA X aa ab ts) σ H Q:=by
 obtain⟨F,st,R,h⟩:=h;refine⟨F,st,R,h.bnd λas vs F1 aH H1 R1 g1 b1 h1 y dx hy X6 hne=>?_⟩
 obtain⟨q,e1,e2⟩:=h1;obtain⟨⟨hl,hn⟩,e1⟩:=bt e1;obtain⟨r,e3,e4⟩:=aD e1;have Ui:bS H1 dx (.own y) y=none:=by rw[aF hne.symm];exact hy
 have up:bQ H1 (bS H1 dx (.own y)):=c7 X6;have b2:ao X.K ⟨F1.F,[y]⟩ (.ref 0::as) (.ref y::vs):=.cons (cU.mpr ⟨y,rfl,rfl⟩) (p6 R1 hn b1 [y]);have C0:i3 X.K (bS H1 dx (.own y)) ⟨F1.F,[y]⟩ ⟨F1.F,[y]⟩ [⟨.ins C [],[]⟩] (bS (bS H1 dx (.own y)) y (.ins Ca dx [])):=by
  refine⟨λb o e=>c7 Ui _ _ (up _ _ (R1.sub _ _ e)),c7 Ui,Gr.refl _,λa o e=>.inl e,λm a e=>?_,rfl,by simp,λm d a e1 e2 e3=>?_⟩
  ·cases m with
   | zero=>cases e;exact⟨Ui,_,ar⟩
   | succ m=>simp at e
  ·cases m with
   | zero=>cases e1;cases e2;exact⟨R1.sub.free hy,[],⟨Ca,dx,[],hC,c,(λ_ z=>nomatch z),ar,rfl,rfl⟩,.nil⟩
   | succ m=>simp at e1
 match r,e4 with
 | (.ok .aV,h'),e4 =>
  obtain⟨p,e5,rfl⟩:=aI e4;refine⟨_,_,_,.ref 0::as,_,h',C0,λb o e=>?_,by grind,by grind,e3,λv F' H' D b'=>⟨bZ.mp b',?_⟩⟩
  ·by_cases hb:b=y
   ·subst hb;exact .inr ⟨0,rfl⟩
   ·rw[aF hb]at e;exact .inl e
  ·obtain⟨R3,g3⟩:=R1.back up D;exact e2 _ H' _ R3 g3 (D.j7 F1.μ _ _ _ _ e5 (cU.mpr ⟨y,D.base.m 0 y rfl,rfl⟩))
end
end
def Uj(X:Cx)(aa:Hp)(ab:Fz)(fa:Addr)(ω:PV->Gx PV):Prop:=∀(H:Hp) (F:Fz) (st:bN) (σ:St) (ae:List (Addr×Obj)) (s:Shared) (Q:VK) (p:PV) (u:Value) (v:V),Inv X ae σ H s->Rep X.K aa ab F st σ H->aS X.K F p v->RelV v u->Tx X aa ab (aS X.K) F st (ω p) σ Q ->
 wpAny (model X.prog X.w) X.A (call (.ref fa) [u]) (EP X ae σ Q) X.xe s
structure DO (X:Cx) (aa:Hp) (ab:Fz) (n:Nat) (ω:PV->Gx PV):Prop where
 ex:∃fa o u Uk,ab.μ[n]?=some fa/\X.aa fa=some (.tx o u)/\o.data=.func Uk/\Uj X aa ab fa ω
structure P1 (X:Cx):Prop where
 ex:∃x c T,x∈cJ/\W.tabIn X.K x=some (c,T)/\W.codeHdIn X.K c T=true/\X.env.code=.ref c/\X.env.qual++"<lambda>"=FJ x
 blt:CO X.mg X.base
end L2.U
namespace PySem
open Sem (wp)
abbrev BT(w:World):Bool:=w.params.followText "set-order"
end PySem
namespace PySem
open PyProof.Rows
section
variable {prog:Program} {w:World} {A:Around} {E:Value->Shared->Prop} {s:Shared}
def oO(a:Value)
  (h:Q₁ (.ref s.heap.objs.size) {s with heap:=s.heap.push {cls:=.type "set",dict:=none,data:=.set #[] 0 (.fresh 0 0 (!BT w))}}) :
  codeAny (model prog w) A (.call (.builtin "set.__new__") ⟨[.type "set",a],[]⟩) (wants Q₁ E) s:=by
 refine codeAny_of_tree ?_;refine af (wpAny_of_eq (F.newCall_set_1 a) (ag ⟨iV F.plain_set_new _,gP F.entry_set_new ?_⟩));rw[iL F.plain_set_new _];unfold Builtin.«set.__new__» Builtin.Frozenset.newClass;have se:=sub_set_self;obtain⟨hp,g,d,tk,os⟩:=s;dsimp only
 wp_walk
 refine wpAny_askSetting (ag ?_);dsimp only
 simp only[newObj];refine af (wpAny_alloc (ag ?_));exact ag h
end
end PySem
namespace L2.U
open PySem PySem.Spec PyProof.Rows
theorem p8{K:W.Frag}:∀ns:List Int,ao K F (ns.map .int) (ns.map V.int)
 | []=>.nil
 | n::r=>.cons (au.mpr rfl) (p8 r)
section
variable {X:Cx} {aa:Hp} {ab:Fz} {e o:Expr} {fe fo:Gx PV} {pos p nE zp ap cp:Pos}
def nF(h:starEach [e] X.env=(false,eval e X.env)::starEach [] X.env)(hq:wpAny M A (eval e X.env) (λv s1=>Q [v] s1) E s):wpAny M A (spliced (backTo pos (starEach [e] X.env))) Q E s:=by
 rw[h];exact Calls.spliced_cons (thn hq λv s1 q=>Calls.spliced_nil q)
def Ul:PV->Option PV
 | .str a=>some (.bl (Txt.isdigit a))
 | _=>none
def L4(fo:Gx PV):Gx PV:=bnd fo λp=>ez (Ul p)
def AA:KJ X "str.isdigit" (λx xs H Q=>∃a,x=.str a/\xs=[]/\Q (.bl (Txt.isdigit a)) H):=by
 rintro ae s σ H x xs v us Q I rx rs ⟨a,e1,e2,q⟩
 subst e1 e2;obtain⟨t,rfl⟩:=rx;have Ti:=rs.zero;subst Ti;exact SC.isdigit ⟨.bl _,H,I,rfl,q⟩
def P2(ho:PE X o (tE X aa ab fo))(hb:attributeBase o "isdigit" X.env (eval o X.env)=eval o X.env)(er:(ap.endLine==cp.line)=true):PE X (.Call (.Attribute o "isdigit" ap) [] [] cp) (tE X aa ab (L4 fo)) :=
 (CJ F.plainAttrs_str F.slot_str_isdigit F.type_str_isdigit AA ho hb er).imp λσ H Q ⟨F,st,R,h⟩=>⟨F,st,R,h.bnd λp v F1 aH H1 R1 g1 b1 h1=>by
  obtain⟨o,e,z⟩:=h1.ez;cases p<;>cases e
  rw[aX.mp b1];exact⟨rfl,_,rfl,rfl,z _ H1 F1 R1 (Gr.refl _) (aN.mpr rfl)⟩⟩
end
end L2.U
namespace PySem
open PyProof.Rows
namespace F
def dy:entryFor table "dict.update.loop"=some Builtin.«dict.update.loop» := entryFor_of_tree (by kernel_rfl)
def br:plainId "dict.update.loop"=true:=by decide +kernel
end F
section
variable {prog:Program} {w:World} {K:Type} [DecidableEq K] {knd:KeyKind prog w K} {A:Around} {R:Result->Shared->Prop} {I:Addr} {fp wr:List Addr} {G:Array GenState->Array GenState->Prop} {n:Nat} {P:Nat->Value->Prop} {St:Nat->Shared->Prop}
def nG(h:Heap)(b:Addr)(key v:Value):Prop:=∃o m,h.get? b=some o/\o.cls=.type "tuple"/\o.data=.seq #[key,v] m
def lI(hp:nG s.heap b key v)(h:Q [key,v] s):wpAny (model prog w) A (Builtin.Dict.pairItems (.ref b)) Q E s:=by
 obtain⟨o,m,h1,h2,h3⟩:=hp;unfold Builtin.Dict.pairItems;refine af (iW ⟨o,h1,h2⟩ ?_);rw[if_pos (by decide)]
 refine af ?_;unfold seqItems?;obtain⟨Um,Jp,P4,DP⟩:=o;simp only at h2 h3;subst h2 h3
 wp_walk
 exact h
def p9(W:WalksS prog w A.in1 I fp wr G n P St)(S:Addr)(hSf:S∉fp)(hl:kvs.length=n)(hn:n<=sizeLine){s₀:Shared}
  (xk:∀i v,P i v->∃b k key u,v=.ref b/\kvs[i]?=some (k,u)/\knd.is k key=true/\b∉S::wr/\nG s₀.heap b key u) :
  ∀(c i:Nat) (s:Shared),n-i=c->i<=n->St i s->(∀b o,b∉S::wr->s₀.heap.get? b=some o->s.heap.get? b=some o)->s.heap.DictOf knd S (merged [] (kvs.take i)) ->
   (∀s',Moved (S::wr) G s s'->s'.heap.DictOf knd S (merged [] kvs)->R (.ok (.ret .none)) s') ->
   codeAny (model prog w) A (.builtin "dict.update.loop" ⟨[.ref S,.ref I,rawInt (i:Int),.none],[]⟩) R s:=by
 have P5:S∉wr:=λh=>hSf (W.sub _ h)
 have se:∀b∈wr,b∈S::wr:=by grind
 intro c;induction c with
 | zero =>
  intro i s hk hi jr ho hS hR;have L5:i=n:=by lia
  subst L5;refine gP F.dy ?_;rw[iL F.br _];refine af (W.done s _ _ jr λs' hm=>?_)
  refine af (ag ?_);rw[j9 (gR ‹_›)]at hS;refine ag (hR s' (hm.mono se) ?_);obtain⟨o,es,ep,h1,r⟩:=hS;exact⟨o,es,ep,hm.heap S _ P5 h1,r⟩
 | succ c ih =>
  intro i s hk hi jr ho hS hR;have ux:i<n:=by lia
  refine gP F.dy ?_;rw[iL F.br _];refine af (W.item i s _ _ ux jr λv s' hP DQ hm=>?_)
  obtain⟨b,k,key,u,rfl,X7,Kv,X8,P6⟩:=xk i v hP;have mP:∀b o,b∉S::wr->s₀.heap.get? b=some o->s'.heap.get? b=some o:=λb o hb e=>hm.heap b o (λz=>hb (bW _ z)) (ho b o hb e)
  refine af (cz ?_);refine af (wpAny_tryCatch (lI (by
   obtain⟨o,m,h1,r⟩:=P6;exact⟨o,m,mP b o X8 h1,r⟩) ?_))
  refine cz ?_;have hsz:(merged [] (kvs.take i)).length<=sizeLine:=by
   have:=merged_length_le ([]:List (K×Value)) (kvs.take i);rw[km]at this;simp at this
   lia
  refine wpAny_dictSet_pairs Kv (by
   obtain⟨o,es,ep,h1,r⟩:=hS;exact⟨o,es,ep,hm.heap S _ P5 h1,r⟩) λh' hd NC=>?_
  rw[<-merged_take_succ _ _ _ _ X7]at hd;have Uo:∀b o,b∉S::wr->s₀.heap.get? b=some o->h'.get? b=some o:=λb o hb e=>(NC.2 b (λh:b=S=>hb (by grind))).trans (mP b o hb e)
  refine ag ⟨iV F.br _,ih (i+1) _ (by lia) ux (W.frame _ s' _ _ DQ (wd ..) λb hb o e=>?_) Uo hd λKC L6 L7=>?_⟩
  ·exact(NC.2 b (λh:b=S=>hSf (by grind))).trans e
  ·refine hR KC (Moved.trans W.gtrans ((hm.mono se).then_heap (wd ..) λb o hb e=>?_) L6) L7
   exact(NC.2 b (λh:b=S=>hb (by grind))).trans e
end
namespace F
theorem sj:typeLookup (.type "list") "keys"=pure none:=by rw[qZ,qM];kernel_rfl
def oP:typeLookup (.type "tuple") "keys"=pure none:=by rw[qZ,qM];kernel_rfl
end F
section
variable {prog:Program} {w:World} {A:Around} {E:Value->Shared->Prop} {s:Shared} {a:Addr} {o:Obj} {xs:Array Value} {k:Nat} {Q:Option Value->Shared->Prop}
def lJ(hx:s.heap.get? a=some o)(hc:o.cls=.type "tuple")(kK:o.data=.seq xs k)(hd:o.dict=none)(hA:A.handled=none)
  (h:∀h' tk,(∀b ob,s.heap.get? b=some ob->h'.get? b=some ob)->Q none {s with heap:=h',toks:=tk}) :
  wpAny (model prog w) A (getAttr? (.ref a) "keys") Q E s:=by
 obtain⟨c,HB,V2,sl⟩:=o;simp only at hc kK hd;subst hc kK hd;obtain⟨hp,g,d,tk,os⟩:=s;have hT:∀DR,(⟨hp,g,d,DR,os⟩:Shared).TypeIs (.ref a) "tuple":=λ_=>⟨_,hx,rfl⟩
 have f1:=sub_AttributeError;have f3:=vA.lookup;have f4:=vA.bind (.ref a);have f5:=am_tuple_getattr_none;unfold getAttr? getAttrBy? getAttrBy
 repeat (any_goals (first | assumption | exact hT _ | ((with_reducible show wpAny _ _ (call (Value.builtin "tuple.__getattribute__") _ _) _ _ _);refine dh vA (hT _) am_entry_tuple_getattribute (F.args_tuple_getattribute_2 _ _) (meets_getattribute_miss_tuple a xs k sl "keys" _ F.oP (by decide +kernel) (by decide +kernel)) ⟨hx,hA,λh' DR e pW=>?_⟩) | wp_step))
 obtain⟨t',u',he⟩:=pW.there;show wpAny _ _ (getattributeRaised _ _ _ _ _ _ _) _ _ _;unfold getattributeRaised
 repeat (any_goals (first | assumption | wp_step))
 exact h _ _ pW.keeps
theorem nH(hx:s.heap.get? a=some o)(hc:o.cls=.type "list")(kK:o.data=.seq xs k)(hd:o.dict=none)(hA:A.handled=none)
  (h:∀h' tk,(∀b ob,s.heap.get? b=some ob->h'.get? b=some ob)->Q none {s with heap:=h',toks:=tk}) :
  wpAny (model prog w) A (getAttr? (.ref a) "keys") Q E s:=by
 obtain⟨c,HB,V2,sl⟩:=o;simp only at hc kK hd;subst hc kK hd;obtain⟨hp,g,d,tk,os⟩:=s;have hT:∀DR,(⟨hp,g,d,DR,os⟩:Shared).TypeIs (.ref a) "list":=λ_=>⟨_,hx,rfl⟩
 have f1:=sub_AttributeError;have f3:=vB.lookup;have f4:=vB.bind (.ref a);have f5:=am_list_getattr_none;unfold getAttr? getAttrBy? getAttrBy
 repeat (any_goals (first | assumption | exact hT _ | ((with_reducible show wpAny _ _ (call (Value.builtin "list.__getattribute__") _ _) _ _ _);refine dh vB (hT _) am_entry_list_getattribute (F.args_list_getattribute_2 _ _) (meets_getattribute_miss_list a xs k sl "keys" _ F.sj (by decide +kernel) (by decide +kernel)) ⟨hx,hA,λh' DR e pW=>?_⟩) | wp_step))
 obtain⟨t',u',he⟩:=pW.there;show wpAny _ _ (getattributeRaised _ _ _ _ _ _ _) _ _ _;unfold getattributeRaised
 repeat (any_goals (first | assumption | wp_step))
 exact h _ _ pW.keeps
end
section
variable {prog:Program} {w:World} {A:Around} {E:Value->Shared->Prop} {s:Shared} {K:Type} [DecidableEq K] {knd:KeyKind prog w K}
def nI(hh:A.handled=none)(hx:s.heap.get? l=some ol)(hc:ol.cls=.type "tuple")(kK:ol.data=.seq items m)(P7:ol.dict=none)
  (hi:∀(i:Nat) (v:Value),items[i]?=some v->∃b k key u,v=.ref b/\kvs[i]?=some (k,u)/\knd.is k key=true/\nG s.heap b key u) (Up:kvs.length=items.size) (hb:items.size<=sizeLine)
  (h:∀(h':Heap) (tk:Nat),h'.DictOf knd s.heap.objs.size (merged [] kvs)->(∀b o,b<s.heap.objs.size->s.heap.get? b=some o->h'.get? b=some o)->Q (.ref s.heap.objs.size) {s with heap:=h',toks:=tk}) :
  wpAny (model prog w) A (call (.type "dict") [.ref l]) Q E s:=by
 refine callType_codes (Q₁:=λobj s₁=>obj=.ref s.heap.objs.size/\s₁={s with heap:=s.heap.push {cls:=.type "dict",data:=.dict #[]}}) F.kt_called_dict (F.kt_typeCall_dict_1 _) F.entry_dict_init (kt_code_dict_new _ ⟨rfl,rfl⟩) ?_
 rintro obj s₁ ⟨rfl,rfl⟩
 have nJ:(s.heap.push {cls:=.type "dict",data:=.dict #[]}).DictOf knd s.heap.objs.size []:=wm s.heap
 have pW:(s.heap.push {cls:=.type "dict",data:=.dict #[]}).get? l=some ol:=ax _ hx
 have L8:=az hx;refine⟨nJ.typeIs,F.args_dict_init_2 _ _,?_⟩;unfold Builtin.«dict.__init__»;refine af ?_;unfold Builtin.Dict.selfAndRest;refine af (vN nJ.typeIs ?_);refine ag ?_;show wpAny _ _ (Builtin.Dict.updateFrom "dict.__init__" s.heap.objs.size (.ref l) [] .none) _ _ _;unfold Builtin.Dict.updateFrom;refine af (iW ⟨ol,pW,hc⟩ ?_);rw[if_pos (by decide)]
 refine af (lJ pW hc kK P7 (by simp[hh]) λh2 X9 kp=>?_)
 rw[if_pos (show(none:Option Value).isNone=true from rfl)]
 have Uq:=kp l ol pW;have uF:h2.DictOf knd s.heap.objs.size []:=by
  obtain⟨o,es,ep,h1,r⟩:=nJ;exact⟨o,es,ep,kp _ _ h1,r⟩
 have P8:h2.IsTuple l items:=⟨ol,Uq,hc,m,kK⟩;refine af (gS ?_);refine af ?_;refine vT P8 ?_;refine ag ⟨iV F.br _,?_⟩;have Jq:s.heap.objs.size<h2.objs.size:=by
  obtain⟨o,_,_,h1,_⟩:=uF;exact az h1
 have L9:=aJ (gf L8 Jq);have xk:∀i (v:Value),items[i]?=some v->∃b k key u,v=.ref b/\kvs[i]?=some (k,u)/\knd.is k key=true/\b∉[s.heap.objs.size,h2.objs.size]/\nG s.heap b key u:=λi v hv=>by
  obtain⟨b,k,key,u,e1,e2,e3,e4⟩:=hi i v hv;refine⟨b,k,key,u,e1,e2,e3,?_,e4⟩;obtain⟨o,_,ho,_⟩:=e4;have:=az ho;simp only[aY,cx,cA,not_or];exact⟨aJ this,aJ (gf this Jq)⟩
 refine p9 (knd:=knd) (s₀:=s) ((Walks.tuple (by simp[hh]) h2.objs.size l L9 items).toS) s.heap.objs.size (by grind) Up hb xk (items.size-0) 0 _ (by lia) (eN _) ⟨⟨_,aU _ rfl,rfl,rfl⟩,P8.push _⟩ (λb o _ e=>ax _ (kp _ _ (ax _ e))) ?_ ?_
 ·obtain⟨o,es,ep,h1,r⟩:=uF;exact⟨o,es,ep,ax _ h1,r⟩
 ·intro s' hm vz;obtain⟨h',g',d',DR,Gi⟩:=s';have eg:g'=s.gens:=hm.gens;have ed:d'=s.drawn:=hm.drawn;have eo:Gi=s.os:=hm.os;subst eg;subst ed;subst eo;refine⟨rfl,h h' DR vz λb o hb e=>?_⟩
  refine hm.heap b o ?_ (ax _ (kp _ _ (ax _ e)));simp only[aY,cx,cA,not_or];exact⟨aJ hb,aJ (gf hb Jq)⟩
theorem uG{l:Addr}{ol:Obj}{items:Array Value}{m:Nat}{kvs:List (K×Value)}{Q:Value->Shared->Prop}(hh:A.handled=none)(hx:s.heap.get? l=some ol)(hc:ol.cls=.type "list")(kK:ol.data=.seq items m)(P7:ol.dict=none)
  (hi:∀(i:Nat) (v:Value),items[i]?=some v->∃b k key u,v=.ref b/\kvs[i]?=some (k,u)/\knd.is k key=true/\nG s.heap b key u) (Up:kvs.length=items.size) (hb:items.size<=sizeLine)
  (h:∀(h':Heap) (tk:Nat),h'.DictOf knd s.heap.objs.size (merged [] kvs)->(∀b o,b<s.heap.objs.size->s.heap.get? b=some o->h'.get? b=some o)->Q (.ref s.heap.objs.size) {s with heap:=h',toks:=tk}) :
  wpAny (model prog w) A (call (.type "dict") [.ref l]) Q E s:=by
 refine callType_codes (Q₁:=λobj s₁=>obj=.ref s.heap.objs.size/\s₁={s with heap:=s.heap.push {cls:=.type "dict",data:=.dict #[]}}) F.kt_called_dict (F.kt_typeCall_dict_1 _) F.entry_dict_init (kt_code_dict_new _ ⟨rfl,rfl⟩) ?_
 rintro obj s₁ ⟨rfl,rfl⟩
 have nJ:(s.heap.push {cls:=.type "dict",data:=.dict #[]}).DictOf knd s.heap.objs.size []:=wm s.heap
 have pW:(s.heap.push {cls:=.type "dict",data:=.dict #[]}).get? l=some ol:=ax _ hx
 have L8:l<s.heap.objs.size:=az hx;refine⟨nJ.typeIs,F.args_dict_init_2 _ _,?_⟩;unfold Builtin.«dict.__init__»;refine af ?_;unfold Builtin.Dict.selfAndRest;refine af (vN nJ.typeIs ?_);show wpAny _ _ (pure (s.heap.objs.size,[Value.ref l])) _ _ _;refine ag ?_;show wpAny _ _ (Builtin.Dict.updateFrom "dict.__init__" s.heap.objs.size (.ref l) [] .none) _ _ _;unfold Builtin.Dict.updateFrom;refine af (iW (T:="list") ⟨ol,pW,hc⟩ ?_);rw[if_pos (by decide)]
 refine af (nH pW hc kK P7 (by simp[hh]) λh2 X9 kp=>?_)
 rw[if_pos (show(none:Option Value).isNone=true from rfl)]
 have Uq:h2.get? l=some ol:=kp l ol pW;have uF:h2.DictOf knd s.heap.objs.size []:=by
  obtain⟨o,es,ep,h1,r⟩:=nJ;exact⟨o,es,ep,kp _ _ h1,r⟩
 have P8:h2.IsList l items:=⟨ol,Uq,hc,m,kK⟩;refine af (gS ?_);refine af ?_;refine kh P8 ?_;refine ag ⟨iV F.br _,?_⟩;have Jq:s.heap.objs.size<h2.objs.size:=by
  obtain⟨o,_,_,h1,_⟩:=uF;exact az h1
 have L9:l≠h2.objs.size:=aJ (gf L8 Jq);have hSf:s.heap.objs.size∉[h2.objs.size,l]:=by
  simp only[aY,cx,cA,not_or];exact⟨aJ Jq,kr L8⟩
 have Yb:A.in1.in1.handled=none:=by simp[hh]
 have xk:∀(i:Nat) (v:Value),items[i]?=some v->∃b k key u,v=.ref b/\kvs[i]?=some (k,u)/\knd.is k key=true/\b∉[s.heap.objs.size,h2.objs.size]/\nG s.heap b key u:=λi v hv=>by
  obtain⟨b,k,key,u,e1,e2,e3,e4⟩:=hi i v hv;refine⟨b,k,key,u,e1,e2,e3,?_,e4⟩;obtain⟨o,_,ho,_⟩:=e4;have:=az ho;simp only[aY,cx,cA,not_or];exact⟨aJ this,aJ (gf this Jq)⟩
 refine p9 (knd:=knd) (s₀:=s) ((Walks.list Yb h2.objs.size l L9 items).toS) s.heap.objs.size hSf Up hb xk (items.size-0) 0 _ (by lia) (eN _) ⟨⟨_,aU _ rfl,rfl,rfl⟩,P8.push _⟩ (λb o _ e=>ax _ (kp _ _ (ax _ e))) ?_ ?_
 ·obtain⟨o,es,ep,h1,r⟩:=uF;exact⟨o,es,ep,ax _ h1,r⟩
 ·intro s' hm vz;obtain⟨h',g',d',DR,Gi⟩:=s';have eg:g'=s.gens:=hm.gens;have ed:d'=s.drawn:=hm.drawn;have eo:Gi=s.os:=hm.os;subst eg;subst ed;subst eo;refine⟨rfl,h h' DR vz λb o hb e=>?_⟩
  refine hm.heap b o ?_ (ax _ (kp _ _ (ax _ e)));simp only[aY,cx,cA,not_or];exact⟨aJ hb,aJ (gf hb Jq)⟩
end
end PySem
namespace L2.U
open PySem PySem.Spec PyProof.Rows
section
variable {X:Cx} {a b:Expr} {ta tb:TE} {p cp bp:Pos}
def jQ(K:W.Frag)(H:Hp):List V->List (b8×V)->Prop:=Paired λv kv=>∃c,v=.ref c/\ek K H c [kV kv.1,kv.2]
def dc(kvs:List (b8×V)):List (b8×V):=kvs.foldl (λacc kv=>putK acc kv.1 kv.2) []
def P9(K:W.Frag):R2:=λx y H Q=>∃a b xs ys kvs,x=.ref a/\y=.ref b/\ek K H a xs/\ek K H b ys/\(xs≠[]->ys≠[])/\xs.length+ys.length<=1000/\jQ K H (xs++ys) kvs/\∀p,H p=none->Q (.ref p) (bS H p (.dK (dc kvs)))
theorem jR:∀{kvs:List (b8×V)} {vs:List (b8×Value)} {acc:List (b8×V)} {Qa:List (b8×Value)},L2.KV kvs vs->L2.KV acc Qa->L2.KV (kvs.foldl (λacc kv=>putK acc kv.1 kv.2) acc) (vs.foldl (λacc kv=>stored acc kv.1 kv.2) Qa)
 | _,_,_,_,.nil,h=>h
 | _,_,_,_,.cons (a:=x) r t,h=>by
  have h2:=h.put x.1 r.2;rw[mG,mG];rw[r.1]at h2 ⊢;exact jR (t) h2
def nK(f:List (b8×V)):∀acc:List (b8×V),(f.foldl (λacc kv=>putK acc kv.1 kv.2) acc).length<=acc.length+f.length:=by
 induction f with
 | nil=>intro acc;simp
 | cons x f ih =>
  intro acc;have:=ih (putK acc x.1 x.2);have:=yL acc x.1 x.2;rw[mG,bX]
  lia
theorem lV(I:Inv X ae σ H s):∀{vs:List V} {kvs:List (b8×V)},jQ X.K H vs kvs->∀{us:List Value},Vals vs us->∃AB:List (b8×Value),L2.KV kvs AB/\AB.length=us.length/\∀(i:Nat) (u:Value),us[i]?=some u->∃b k key w,u=.ref b/\AB[i]?=some (k,w)/\(bg X.prog X.w).is k key=true/\nG s.heap b key w
 | _,_,.nil,us,r=>by
  cases r;exact⟨[],.nil,rfl,λi u h=>by cases h⟩
 | _,_,.cons (b:=kv) q t,us,r=>by
  cases r with
  | cons r1 r2 =>
   obtain⟨AB,g1,g2,g3⟩:=lV I t r2;obtain⟨c,rfl,hs⟩:=q;obtain⟨ai,rr,⟨o,h1,h2,n,h3⟩,_⟩:=I.tuple hs;obtain⟨key,w,e,hk,hw⟩:=rr.two;subst e;cases r1;refine⟨(kv.1,w)::AB,.cons ⟨rfl,hw⟩ g1,by rw[bX,bX,g2],λi u hu=>?_⟩
   cases i with
   | zero =>
    cases hu;exact⟨c,kv.1,key,w,rfl,rfl,k6 hk,o,n,h1,h2,h3⟩
   | succ i=>exact g3 i u hu
def HC(hh:X.A.handled=none)(hg:Gl X "dict")(hm:X.mg "dict"=none)(ha:PE X a ta)(hb:PE X b tb)(hs:starEach [.BinOp a .Add b bp] X.env=[(false,eval (.BinOp a .Add b bp) X.env)]):PE X (.Call (.Name "dict" p) [.BinOp a .Add b bp] [] cp) (Kk (P9 X.K) ta tb):=by
 intro ae s σ H Q I h;refine Call_ (ld_blt I hg hm (show bootBuiltins "dict"=some (.type "dict") by decide +kernel) (dD (nF hs (wpAny_BinOp (F6 ha hb I h λv u s2 x y H2 I2 rx ry q=>?_))) hs rfl))
 obtain⟨t1,t2,xs,ys,kvs,rfl,rfl,h1,h2,h4,h5,h6,q⟩:=q;cases rx;cases ry;obtain⟨ai,r1,p1,_⟩:=I2.tuple h1;obtain⟨b9,r2,⟨o2,d1,d2,⟨d3,d4⟩,d5⟩,_⟩:=I2.Ci h2;have p2:IsTup s2.heap t2 b9.toArray:=⟨o2,d1,d2,d3,d4⟩;by_cases h3:xs=[]
 ·subst h3;cases r1;refine ug p1 p2 ?_;obtain⟨AB,g1,g2,g3⟩:=lV I2 h6 r2;have Jr:1000<=sizeLine:=by decide
  have Wm:b9.length<=1000:=by rw[<-r2.length];simpa using h5
  refine nI (knd:=bg X.prog X.w) (items:=b9.toArray) (kvs:=AB) hh d1 d2 d4 d5 (λi v hv=>?_) (by rw[g2];simp) (by simp;lia) λh' tk dd kp=>?_
  ·rw[kc]at hv;exact g3 i v hv
  ·have Bz:=jR g1 .nil;refine⟨.ref _,_,I2.laid (o:=.dK (dc kvs)) (λb u e=>kp b u (az e) e) (aq _) ?_,rfl,q _ (I2.hok.fresh (aq _))⟩
   refine⟨?_,gM.mpr (bA (aJ (gW I2))),_,Bz,dd⟩;have:=nK kvs [];have e:kvs.length=AB.length:=gQ g1;unfold dc;simp only[qU]at this
   lia
 replace h4:=h4 h3;have hz:ai.length+b9.length<=1000:=by rw[<-r1.length,<-r2.length];exact h5
 have Jr:1000<=sizeLine:=by decide
 refine HT.yt p1 p2 (λz=>h3 (r1.jC.mp z)) (λz=>absurd (r2.jC.mp z) h4) (λz=>?_) (aL ‹_› ‹_›)
 obtain⟨AB,g1,g2,g3⟩:=lV I2 h6 (r1.append r2);obtain⟨BB,Yc⟩:=nw (s2.heap.push {cls:=.type "tuple",data:=.seq (ai++b9).toArray})
 have hsz:(ai++b9).toArray.size=ai.length+b9.length:=by simp
 refine nI (knd:=bg X.prog X.w) hh (aU _ rfl) rfl rfl rfl (λi v hv=>?_) (by rw[g2];simp) (by grind) λh' tk dd kp=>?_
 ·rw[kc]at hv;obtain⟨c,k,key,w,e1,e2,e3,o,n,e4,e5⟩:=g3 i v hv;exact⟨c,k,key,w,e1,e2,e3,o,n,ax _ e4,e5⟩
 ·have hS:s2.heap.objs.size<=(s2.heap.push {cls:=.type "tuple",data:=.seq (ai++b9).toArray}).objs.size:=by simp_all
  have Bz:=jR g1 .nil;refine⟨.ref _,_,I2.laid (λb u e=>kp b u (bG (az e) hS) (ax _ e)) hS ?_,rfl,q _ (I2.hok.fresh hS)⟩
  refine⟨?_,gM.mpr (bA (aJ (bG (gW I2) hS))),_,Bz,dd⟩;have:=nK kvs [];have e:=gQ g1;rw[cG]at g2;unfold dc;simp only[qU]at this
  lia
end
def Wn(K:W.Frag):List V->Hp->VK->Prop:=λxs H Q=>∃a vs kvs,xs=[.ref a]/\fJ K H a vs/\vs.length<=1000/\jQ K H vs kvs/\∀p,H p=none->Q (.ref p) (bS H p (.dK (dc kvs)))
theorem xm{X:Cx}(hh:X.A.handled=none):iG X (.type "dict") (Wn X.K):=by
 intro ae s σ H xs us Q I rs ⟨a,vs,kvs,ex,ha,hl,hp,q⟩;subst ex;obtain⟨u,rfl,ru⟩:=gy rs;cases ru;obtain⟨ai,n,r,hx,_⟩:=I.jI ha;obtain⟨AB,g1,g2,g3⟩:=lV I hp r;have Jr:1000<=sizeLine:=by decide
 have Wm:ai.length<=1000:=by rw[<-r.length];exact hl
 refine uG (knd:=bg X.prog X.w) (items:=ai.toArray) (kvs:=AB) hh hx rfl rfl rfl (λi v hv=>?_) (by rw[g2];simp) (by simp;lia) λh' tk dd kp=>?_
 ·rw[kc]at hv;exact g3 i v hv
 ·have Bz:L2.KV (dc kvs) (merged [] AB):=jR g1 .nil;refine⟨.ref _,_,I.laid (o:=.dK (dc kvs)) (λb u e=>kp b u (az e) e) (aq _) ?_,rfl,q _ (I.hok.fresh (aq _))⟩
  refine⟨?_,gM.mpr (bA (aJ (gW I))),_,Bz,dd⟩;have:=nK kvs [];have e:kvs.length=AB.length:=gQ g1;unfold dc;simp only[qU]at this
  lia
def HE{X:Cx}{a:Expr}{ta:TE}{p cp:Pos}(hh:X.A.handled=none)(hg:Gl X "dict")(hm:X.mg "dict"=none)(ha:PE X a ta)(hs:starEach [a] X.env=[(false,eval a X.env)]):PE X (.Call (.Name "dict" p) [a] [] cp) (λσ H Q=>ta σ H λx H1=>Wn X.K [x] H1 Q):=by
 intro ae s σ H Q I h;refine Call_ (ld_blt I hg hm (show bootBuiltins "dict"=some (.type "dict") by decide +kernel) (dD (nF hs (thn (ha ae s σ H _ I h) λv s1 ⟨x,H1,I1,r1,q1⟩=>?_)) hs rfl))
 exact xm hh ae s1 σ H1 [x] [v] Q I1 (.cons r1 .nil) q1
def uH:PV->Option (b8×PV)
 | .nd .ak [k,v]=>(C8 k).map λj=>(j,v)
 | _=>none
def nL:List (b8×PV)->aj->aj
 | [],c=>c
 | (k,v)::r,c=>match c.k with
  | .dZ t ks=>nL r (rY t [k] v ks c.ps)
  | _=>c
def uI(ps:List PV):Option aj:=if ps.length<=1000 then(aQ uH ps).map λkvs=>nL kvs ⟨.dZ false [],[]⟩else none
section
variable {K:W.Frag} {F:Fz}
theorem uJ:∀{ps:List PV} {kvs:List (b8×PV)} {vs:List V},aQ uH ps=some kvs->ao K F ps vs->∃ks:List (b8×V),jQ K F.F vs ks/\ks.map (·.1)=kvs.map (·.1)/\ao K F (kvs.map (·.2)) (ks.map (·.2))
 | [],_,_,h,b=>by
  cases h;rw[b.bC];exact⟨[],.nil,rfl,.nil⟩
 | p::ps,kvs,vs,h,b=>by
  obtain⟨kv,r,h1,h2,rfl⟩:=cu h;obtain⟨v,w,rfl,b1,b2⟩:=b.bh;obtain⟨ks,g1,g2,g3⟩:=uJ h2 b2;unfold uH at h1;split at h1
  ·rename_i k q;obtain⟨j,e1,rfl⟩:=aI h1;obtain⟨c,ws,rfl,hs,hb⟩:=aZ.mp b1;obtain⟨x,y,rfl,bx,bq⟩:=jM hb;rw[nv e1 bx]at hs;exact⟨(j,y)::ks,.cons ⟨c,rfl,hs⟩ g1,by rw[aA,aA,g2],.cons bq g3⟩
  ·cases h1
theorem yX:∀{kvs:List (b8×PV)} {ks:List (b8×V)} {acc:List (b8×V)} {ps:List PV},ks.map (·.1)=kvs.map (·.1)->ao K F (kvs.map (·.2)) (ks.map (·.2))->ao K F ps (acc.map (·.2)) ->
  ∃pU tm,nL kvs ⟨.dZ false (acc.map λy=>[y.1]),ps⟩=⟨.dZ false pU,tm⟩/\(ks.foldl (λacc kv=>putK acc kv.1 kv.2) acc).map (λy=>[y.1])=pU/\ao K F tm ((ks.foldl (λacc kv=>putK acc kv.1 kv.2) acc).map (·.2))
 | [],ks,acc,ps,h1,h2,h3=>by
  have:=List.map_eq_nil_iff.mp h1;subst this;exact⟨_,_,rfl,rfl,h3⟩
 | (k,q)::kvs,[],acc,ps,h1,h2,h3=>by cases h1
 | (k,q)::kvs,(j,v)::ks,acc,ps,h1,h2,h3=>by
  simp only[aA,qV]at h1;obtain⟨rfl,h1⟩:=h1;obtain⟨v',w,e,b1,b2⟩:=h2.bh;cases e;obtain⟨pU,tm,e1,e2,e3⟩:=C9 b1 h3;obtain⟨Yd,Ye,e4,e5,e6⟩:=yX h1 b2 e3;refine⟨Yd,Ye,?_,e5,e6⟩;show nL kvs (rY false [j] q (acc.map λy=>[y.1]) ps)=_
  rw[e1,<-e2];exact e4
end
def yY{K:W.Frag}(h:uI ps=some c)(b:ao K F ps vs):∃ks:List (b8×V),jQ K F.F vs ks/\ps.length<=1000/\∃pU qs,c=⟨.dZ false pU,qs⟩/\(dc ks).map (λy=>[y.1])=pU/\ao K F qs ((dc ks).map (·.2)):=by
 obtain⟨hl,h⟩:=bt h;obtain⟨kvs,h1,rfl⟩:=aI h;obtain⟨ks,g1,g2,g3⟩:=uJ h1 b;obtain⟨pU,tm,e1,e2,e3⟩:=yX (acc:=[]) g2 g3 .nil;exact⟨ks,g1,hl,pU,tm,e1,e2,e3⟩
theorem jQ.mono{K:W.Frag}(h:bQ F G):∀{vs:List V} {ks:List (b8×V)},jQ K F vs ks->jQ K G vs ks
 | _,_,.nil=>.nil
 | _,_,.cons ⟨c,e,q⟩ t=>.cons ⟨c,e,aO h q⟩ (jQ.mono h t)
def HF:PV->Option (List PV)
 | .nd .ak ps=>some ps
 | _=>none
def Qb(p q:PV):Gx PV:=λst=>(HF p).bind λps=>(HF q).bind λqs=>if(!ps.isEmpty&&qs.isEmpty)=true then none else(uI (ps++qs)).bind λc=>gC c st
def yZ(fa fb:Gx PV):Gx PV:=bnd fa λp=>bnd fb λq=>Qb p q
section
variable {X:Cx} {aa:Hp} {ab:Fz} {a b e:Expr} {fa fb fe:Gx PV} {p cp bp:Pos}
def Ma(hh:X.A.handled=none)(hg:Gl X "dict")(hm:X.mg "dict"=none)(ha:PE X a (tE X aa ab fa))(hb:PE X b (tE X aa ab fb))(hs:starEach [.BinOp a .Add b bp] X.env=[(false,eval (.BinOp a .Add b bp) X.env)]):PE X (.Call (.Name "dict" p) [.BinOp a .Add b bp] [] cp) (tE X aa ab (yZ fa fb)) :=
 (HC hh hg hm ha hb hs).imp λσ H Q ⟨F,st,R,h⟩=>⟨F,st,R,h.bnd λq v F1 aH H1 R1 g1 b1 h1=>⟨F1,aH,R1,h1.bnd λq2 v2 F2 da H2 R2 g2 b2 h2=>by
  obtain⟨r,e1,e2⟩:=h2;obtain⟨ps,e3,e1⟩:=aD e1;obtain⟨qs,e4,e1⟩:=aD e1;split at e1
  ·cases e1
  ·rename_i hne;obtain⟨c,e5,e1⟩:=aD e1;have t1:q=.ak ps:=by
    unfold HF at e3;split at e3
    ·grind
    ·cases e3
   have t2:q2=.ak qs:=by
    unfold HF at e4;split at e4
    ·grind
    ·cases e4
   subst t1 t2;obtain⟨a1,vs,rfl,Ur,Mb⟩:=aZ.mp (b1.mono g2);obtain⟨a2,ws,rfl,vx,RW⟩:=aZ.mp b2;obtain⟨ks,k1,hl,pU,tm,rfl,e6,e7⟩:=yY e5 (Mb.append RW);rw[cG]at hl;refine⟨a1,a2,vs,ws,ks,rfl,rfl,aO R2.sub Ur,aO R2.sub vx,λy z=>hne ?_,by rw[<-Mb.length,<-RW.length];exact hl,k1.mono R2.sub,λp hp=>?_⟩
   ·subst z;have z2:qs=[]:=gI RW.length;have z1:ps≠[]:=λz=>y (gI (by rw[<-Mb.length,z];rfl))
    simp[z2,z1]
   ·exact Tx.gC (show Tx X aa ab (aS X.K) F2 da (gC ⟨.dZ false pU,tm⟩) σ Q from⟨r,e1,e2⟩) R2 hp ⟨dc ks,ar,e6,rfl⟩ e7⟩⟩
def HG(fa:Gx PV):Gx PV:=bnd fa λp st=>match p with
 | .nd .lst ps=>(uI ps).bind λc=>gC c st
 | _=>none
def DS(hh:X.A.handled=none)(hg:Gl X "dict")(hm:X.mg "dict"=none)(ha:PE X a (tE X aa ab fa))(hs:starEach [a] X.env=[(false,eval a X.env)]):PE X (.Call (.Name "dict" p) [a] [] cp) (tE X aa ab (HG fa)) :=
 (HE hh hg hm ha hs).imp λσ H Q ⟨F,st,R,h⟩=>⟨F,st,R,h.bnd λq v F1 aH H1 R1 g1 b1 h1=>by
  obtain⟨r,e1,e2⟩:=h1;split at e1
  ·rename_i ps;obtain⟨c,e5,e1⟩:=aD e1;obtain⟨ad,vs,rfl,Ur,Mb⟩:=cg.mp b1;obtain⟨ks,k1,hl,pU,tm,rfl,e6,e7⟩:=yY e5 Mb;refine⟨ad,vs,ks,rfl,fM R1.sub Ur,by rw[<-Mb.length];exact hl,k1.mono R1.sub,λp hp=>?_⟩
   exact Tx.gC (show Tx X aa ab (aS X.K) F1 aH (gC ⟨.dZ false pU,tm⟩) σ Q from⟨r,e1,e2⟩) R1 hp ⟨dc ks,ar,e6,rfl⟩ e7
  ·cases e1⟩
end
def Mc:List PV->Option (List Int)
 | [.int n]=>if 0<=n/\n<=1000 then some (rangeInts 0 1 n.toNat)else none
 | [.int a,.int b]=>if 0<=a/\a<=b/\b<=1000 then some (rangeInts a 1 (b-a).toNat)else none
 | _=>none
def jS(m:Nat)(ps:List PV):Gx PV:=λst=>match m with
 | 0=>some (.ok (.lst ps),st)
 | _=>gC ⟨.lst,ps⟩ st
def Us(m:Nat)(ts:Gx (List PV)):Gx PV:=bnd ts λps=>bnd (ez (Mc ps)) λl=>jS m (l.map .int)
def boot_range:bootBuiltins "range"=some (.type "range"):=by kernel_rfl
section
variable {X:Cx} {aa:Hp} {ab:Fz} {e:Expr} {es:List Expr} {ts:Gx (List PV)} {pos p nE zp:Pos} {m:Nat}
def Tx.jS{st:bN}(h:Tx X aa ab (aS X.K) F st (jS m ps) σ Q)(R:Rep X.K aa ab F st σ H)(hq:H q=none)(hb:ao X.K F ps vs):Q (.ref q) (bS H q (.lst vs)):=by
 cases m with
 | zero =>
  obtain⟨r,e1,e2⟩:=h;cases e1;obtain⟨R2,s2⟩:=R.laid (.lst vs) hq;exact e2 _ _ _ R2 s2 (cg.mpr ⟨q,vs,rfl,fJ.of ar,hb.mono s2⟩)
 | succ m=>exact Tx.gC (h) R hq ar hb
def xn(h:ItemsOf (fun(i:Nat) (v:Value)=>∃t:Tok,v=Value.int (a+i*c) t) acc n):Vals ((rangeInts a c n).map V.int) acc.toList:=by
 have:∀l k,(∀j v,l[j]?=some v->∃t:Tok,v=Value.int (a+(k+j:Nat)*c) t)->Vals (((List.range' k l.length).map fun(i:Nat)=>a+i*c).map V.int) l:=by
  intro l;induction l with
  | nil=>intro k _;exact .nil
  | cons x l ih =>
   intro k hx;obtain⟨t,ht⟩:=hx 0 x rfl;rw[bX,List.range'_succ,aA,aA];refine .cons ⟨t,by rw[ht];rfl⟩ (ih (k+1) λj v hv=>?_)
   have:=hx (j+1) v (by simpa using hv)
   rw[show k+(j+1)=k+1+j by lia]at this
   exact this
 have h2:=this acc.toList 0 λj v hv=>by
  rw[Nat.zero_add];exact h.2 j v (by rw[<-vM];exact hv)
 rw[kd,h.1,<-List.range_eq_range']at h2;exact h2
def Qc(hh:X.A.handled=none)(Md:Gl X "list")(Me:X.mg "list"=none)(hg:Gl X "range")(hm:X.mg "range"=none)(ha:PA X (e::es) (tA X aa ab ts))(hs:starEach (e::es) X.env=(false,eval e X.env)::starEach es X.env)(vx:(backTo nE (starEach es X.env)).any (·.1)=false) :
  PE X (.Call (.Name "list" p) [.Call (.Name "range" zp) (e::es) [] nE] [] pos) (tE X aa ab (Us m ts)):=by
 rintro ae s σ H Q I ⟨F,st,Rp,h⟩
 refine gN (ld_blt I Md Me (gq .list) ?_ (by decide) (by decide))
 refine dD (nF rfl ?_) rfl rfl;have hA:=ha nE ae s σ H (λvs H'=>∃F' bB ps,Rep X.K aa ab F' bB σ H'/\ao X.K F' ps vs/\Tx X aa ab (aS X.K) F' bB (bnd (ez (Mc ps)) λl=>jS m (l.map .int)) σ Q) I ⟨F,st,Rp,h.bnd λps vs F1 aH H1 R1 g1 b1 h1=>⟨F1,aH,ps,R1,b1,h1⟩⟩
 refine Call_ (ld_blt I hg hm boot_range (dD (thn hA λus s1 z9=>?_) hs vx))
 obtain⟨vs,H1,I1,r1,F1,aH,ps,R1,b1,h1⟩:=z9;obtain⟨ns,f2,h1⟩:=At.ez (At.bnd h1);have gT:∀r h1 Ut (a b c:Int) (t u v:Tok) (n:Nat),(∀b o,s1.heap.get? b=some o->h1.get? b=some o)->IsRange h1 r a b c t u v->Builtin.Range.small a b c=true->Builtin.Range.rangeSize a b c=n->n<=3000->ns=rangeInts a c n ->
   wpAny (model X.prog X.w) X.A (call (.type "list") [.ref r]) (EP X ae σ Q) X.xe {s1 with heap:=h1,toks:=Ut}:=λr h2 Ut a b c t u v n hk hr Yg hn RO Gz=>by
  refine call_list_range hh hr Yg hn (by lia) λh' tk acc c' RQ hS Uu=>?_
  have I2:=I1.kept (t':=Ut) hk;have hz:=I2.hok.fresh (aq _);have hv:=xn Uu;rw[<-Gz]at hv;refine⟨.ref h2.objs.size,bS H1 h2.objs.size (.lst (ns.map V.int)),I2.laid RQ (aq _) ⟨?_,acc.toList,c',hv,hS⟩,rfl,Tx.jS h1 R1 hz (p8 ns)⟩;rw[ah,Gz,rangeInts_length];exact aL RO (by decide)
 clear h1;unfold Mc at f2;split at f2
 ·rename_i n;obtain⟨⟨h0,h1⟩,e1⟩:=aw f2;obtain⟨v,rfl,bv⟩:=bU b1;rw[au.mp bv]at r1;obtain⟨u,rfl,ru⟩:=gy r1;obtain⟨Y8,rfl⟩:=ru;refine call_range_1 ?_;refine gT _ _ _ 0 n 1 _ _ _ n.toNat (λb o e=>ax _ e) (IsRange.new ..) ?_ ?_ (by lia) e1.symm
  ·exact small_one (by decide) (by decide) (by lia) (by lia)
  ·unfold Builtin.Range.rangeSize;rw[if_pos (by decide)]
   split<;>lia
 ·rename_i a b;obtain⟨⟨h0,h1,h2⟩,e1⟩:=aw f2;obtain⟨v1,v2,rfl,Yh,Yi⟩:=jM b1;rw[au.mp Yh,au.mp Yi]at r1;obtain⟨u1,u2,rfl,LD,Qd⟩:=yp r1;obtain⟨k1,rfl⟩:=LD;obtain⟨k2,rfl⟩:=Qd;refine call_range_2 ?_;refine gT _ _ _ a b 1 _ _ _ (b-a).toNat (λb o e=>ax _ e) (IsRange.new ..) (small_one (by lia) (by lia) (by lia) (by lia)) (rangeSize_nat a b) (by lia) e1.symm
 ·cases f2
end
def i8(ps:List PV):Option (List Bool):=aQ ub ps
def uK:GC:=λh ps=>match ps with
 | [p]=>(kH h p).bind λqs=>(i8 qs).map λbs=>.bl (bs.all id)
 | _=>none
def HH:GC:=λh ps=>match ps with
 | [p]=>(kH h p).bind λqs=>(i8 qs).map λbs=>.bl (bs.any id)
 | _=>none
section
variable {X:Cx} {aa:Hp} {ab:Fz} {e:Expr} {fe:Gx PV} {pos p:Pos} {m:Nat}
theorem qa{K:W.Frag}{F:Fz}:∀{ps:List PV} {ns:List Bool} {vs:List V},i8 ps=some ns->ao K F ps vs->vs=ns.map V.bl
 | [],ns,vs,h,b=>by cases h;exact b.bC
 | p::r,ns,vs,h,b=>by
  obtain⟨i,ms,h1,h2,rfl⟩:=cu h;obtain⟨v,vr,rfl,c,d⟩:=b.bh;rw[i4 h1]at c;rw[aN.mp c,qa h2 d];rfl
theorem nM:∀{bs:List Bool} {us:List Value},Vals (bs.map V.bl) us->us=bs.map Value.bool
 | [],_,r=>by cases r;rfl
 | b::bs,_,r=>by
  cases r with
  | cons ra rr =>
   cases ra;rw[nM rr];rfl
theorem AD(bs:List Bool):(List.range bs.length).any (λi=>bs[i]?.getD false)=bs.any id:=by
 rw[mI,v7,v7];refine⟨λ⟨i,hi,h⟩=>?_,λ⟨b,hb,h⟩=>?_⟩
 ·have hi:=dI.mp hi;rw[bF hi]at h;exact⟨_,wc hi,h⟩
 ·obtain⟨i,hi,e⟩:=List.getElem_of_mem hb;refine⟨i,dI.mpr hi,?_⟩;rw[bF hi,e];exact h
theorem nN{ae:List (Addr×Obj)}{s:Shared}{σ τ:St}{H aa:Hp}{ab F:Fz}{st:bN}{us:List Value}{v:V}{p:PV}{qs:List PV}{ns:List Bool}(I:Inv X ae σ H s)(rs:Vals [v] us)(R:Rep X.K aa ab F st τ H)(b:aS X.K F p v)(e1:kH st.h p=some qs)(e2:i8 qs=some ns) :
  ∃a,us=[.ref a]/\s.heap.IsList a (ns.map Value.bool).toArray/\a≠s.heap.objs.size:=by
 obtain⟨a,vs,rfl,ha,dU⟩:=R.at (cV e1) b;obtain⟨ai,r,pl,_⟩:=I.list (fJ.sq ha);have ev:=qa e2 dU;subst ev;have ei:=nM r;subst ei;obtain⟨u,rfl,ru⟩:=gy rs;cases ru;refine⟨a,rfl,pl.isList,?_⟩;obtain⟨o,ho,_⟩:=pl.isList;exact aJ (az ho)
theorem qb{ns:List Bool}{d:Bool}{i:Nat}{v:Value}{s':Shared}{Q':Bool->Shared->Prop}{E':Value->Shared->Prop}{M:Model}{A:Around}(hP:(ns.map Value.bool).toArray[i]?=some v)(hQ:Q' (ns[i]?.getD d) s'):wpAny M A (truthy v) Q' E' s':=by
 rw[kc,bu]at hP;cases w:ns[i]? with
 | none=>rw[w]at hP;cases hP
 | some bb =>
  rw[w]at hP hQ;cases hP;exact gO hQ
theorem AE(hc:X.A.handled=none):w5 X (.builtin "any") HH:=by
 intro ae s σ H xs us Q I rs ⟨aa,ab,F,st,τ,ps,p,e,R,bs,k⟩;unfold HH at e;split at e
 ·obtain⟨qs,e1,e⟩:=aD e;obtain⟨ns,e2,rfl⟩:=aI e;obtain⟨v,rfl,b⟩:=bU bs;obtain⟨a,rfl,hL,hne⟩:=nN I rs R b e1 e2;refine call_any_walk (kh hL ?_);refine⟨_,_,_,_,_,_,λi=>ns[i]?.getD false,rfl,Walks.list (A:=X.A.in1) hc s.heap.objs.size a hne _,⟨⟨_,aU _ rfl,rfl,rfl⟩,v3 hL _⟩,λi v s' Q' E' hP hQ=>qb hP hQ,λh' tk hk=>?_⟩
  refine⟨.bl (ns.any id),H,I.kept (t':=tk) λb o e=>?_,?_,k _ H F R (Gr.refl F) (aN.mpr rfl)⟩
  ·exact hk b o (λhm=>absurd (b6.mp hm▸az e) (dg _)) (ax _ e)
  ·show Value.bool _=_;rw[<-AD ns];simp
 ·cases e
theorem AF(bs:List Bool):(List.range bs.length).all (λi=>bs[i]?.getD true)=bs.all id:=by
 rw[mI,dG,dG];refine⟨λh b hb=>?_,λh i hi=>?_⟩
 ·obtain⟨i,hi,e⟩:=List.getElem_of_mem hb;have:=h i (dI.mpr hi);rw[bF hi,e]at this;exact this
 ·have hi:=dI.mp hi;rw[bF hi];exact h _ (wc hi)
theorem AG(hc:X.A.handled=none):w5 X (.builtin "all") uK:=by
 intro ae s σ H xs us Q I rs ⟨aa,ab,F,st,τ,ps,p,e,R,bs,k⟩;unfold uK at e;split at e
 ·obtain⟨qs,e1,e⟩:=aD e;obtain⟨ns,e2,rfl⟩:=aI e;obtain⟨v,rfl,b⟩:=bU bs;obtain⟨a,rfl,hL,hne⟩:=nN I rs R b e1 e2;refine call_all_walk (kh hL ?_);refine⟨_,_,_,_,_,_,λi=>ns[i]?.getD true,rfl,Walks.list (A:=X.A.in1) hc s.heap.objs.size a hne _,⟨⟨_,aU _ rfl,rfl,rfl⟩,v3 hL _⟩,λi v s' Q' E' hP hQ=>qb hP hQ,λh' tk hk=>?_⟩
  refine⟨.bl (ns.all id),H,I.kept (t':=tk) λb o e=>?_,?_,k _ H F R (Gr.refl F) (aN.mpr rfl)⟩
  ·exact hk b o (λhm=>absurd (b6.mp hm▸az e) (dg _)) (ax _ e)
  ·show Value.bool _=_;rw[<-AF ns];simp
 ·cases e
def Mf(p:PV):Option (List PV):=match p with
 | .nd .ak ps=>some ps
 | _=>none
def HI(m:Nat)(fe:Gx PV):Gx PV:=bnd fe λp=>bnd (ez (Mf p)) λps=>jS m ps
def Mg(Md:Gl X "list")(Me:X.mg "list"=none)(he:PE X e (tE X aa ab fe))(hs:∀es,starEach (e::es) X.env=(false,eval e X.env)::starEach es X.env):PE X (.Call (.Name "list" p) [e] [] pos) (tE X aa ab (HI m fe)):=by
 rintro ae s σ H Q I ⟨F,st,Rp,h⟩
 refine gN (ld_blt I Md Me (gq .list) ?_ (by decide) (by decide))
 refine dD (nF (hs []) ?_) (hs []) rfl;have hA:=he ae s σ H (λv H'=>∃F' bB q,Rep X.K aa ab F' bB σ H'/\aS X.K F' q v/\Tx X aa ab (aS X.K) F' bB (bnd (ez (Mf q)) λps=>jS m ps) σ Q) I ⟨F,st,Rp,h.bnd λq v F1 aH H1 R1 g1 b1 h1=>⟨F1,aH,q,R1,b1,h1⟩⟩
 refine thn hA λu s1 z9=>?_
 obtain⟨x,H1,I1,r1,F1,aH,q,R1,b1,h1⟩:=z9;obtain⟨ps,f2,h1⟩:=At.ez (At.bnd h1);obtain rfl:q=.ak ps:=by
  unfold Mf at f2;split at f2
  ·cases f2;rfl
  ·cases f2
 obtain⟨a,vs,rfl,ha,dU⟩:=aZ.mp b1;cases r1;obtain⟨ai,rv,⟨o,ho,hc,n,hd⟩,hz⟩:=I1.tuple (aO R1.sub ha);refine call_list_seq (hsz:=by rw[bK,<-rv.length];exact hz) a (.inr rfl) ho hc hd λh' c' hk hS=>?_
 exact⟨.ref s1.heap.objs.size,bS H1 s1.heap.objs.size (.lst vs),I1.laid hk (aq _) ⟨hz,ai,c',rv,hS⟩,rfl,Tx.jS h1 R1 (I1.hok.fresh (aq _)) dU⟩
def Qe(h:List aj)(p q:PV):Option (List PV):=(kH h p).bind λxs=>(kH h q).bind λys=>if xs.length+ys.length<=gY then some (xs++ys)else none
def Mh(m:Nat)(fa fb:Gx PV):Gx PV:=bnd fa λp=>bnd fb λq=>bnd (hp λh=>Qe h p q) λl=>jS m l
def Uv(X:Cx)(aa:Hp)(ab:Fz)(m:Nat):R2:=λx y H Q=>∃F st σ pa pb l,Qe st.h pa pb=some l/\Rep X.K aa ab F st σ H/\aS X.K F pa x/\aS X.K F pb y/\Tx X aa ab (aS X.K) F st (jS m l) σ Q
def HJ:OpR X (binaryOp .Add) (Uv X aa ab m):=by
 rintro ae s σ H x y v u Q I rx ry ⟨F,st,τ,pa,pb,l,e,R,ba,bb,k⟩
 obtain⟨xs,e1,e⟩:=aD e;obtain⟨ys,e2,e⟩:=aD e;obtain⟨hz,rfl⟩:=aw e;obtain⟨a,vs,rfl,ha,dU⟩:=R.at (cV e1) ba;obtain⟨b,ws,rfl,hb,Fj⟩:=R.at (cV e2) bb;cases rx;cases ry;obtain⟨ai,n,r,e1,z1⟩:=I.jI ha;obtain⟨b9,n2,r2,e2,z2⟩:=I.jI hb;have hl:=r.length;have RM:=r2.length;have XB:vs.length+ws.length<=sizeLine:=by rw[<-dU.length,<-Fj.length];exact cL hz
 refine PySem.P.add_list e1 e2 ?_ (by grind)
 have ea:ai.toArray++b9.toArray=(ai++b9).toArray:=by simp
 rw[ea];exact⟨.ref _,_,I.KP (r.append r2) (by grind),rfl,Tx.jS k R I.fresh (dU.append Fj)⟩
def Mi{a b:Expr}{fa fb:Gx PV}(ha:PE X a (tE X aa ab fa))(hb:PE X b (tE X aa ab fb)):PE X (.BinOp a .Add b pos) (tE X aa ab (Mh m fa fb)):=(IU HJ ha hb).imp λσ H Q ⟨F,st,R,h⟩ =>
 ⟨F,st,R,h.bnd λp v F1 aH H1 R1 g1 b1 h1=>⟨F1,aH,R1,h1.bnd λq w F2 da H2 R2 g2 b2 h2=>by
  obtain⟨l,e,z⟩:=At.hp (At.bnd h2);exact⟨F2,da,σ,p,q,l,e,R2,b1.mono g2,b2,z⟩⟩⟩
def Mj(h:List aj)(p:PV)(as:List PV):Option PV:=match as with
 | [q]=>(kH h p).bind λps=>(toT h eS q).bind λx=>(aQ (toT h eS) ps).map λys=>.int (ys.countP λy=>eqT y x:Nat)
 | _=>none
def HK(p:PV)(as:List PV):Gx PV:=hp λh=>Mj h p as
def Qf(K:W.Frag):V->List V->Hp->VK->Prop:=λv ws H Q=>∃aa ab F st σ p as o,Mj st.h p as=some o/\Rep K aa ab F st σ H/\aS K F p v/\ao K F as ws/\∀u H' F',Rep K aa ab F' st σ H'->Gr F F'->aS K F' o u->Q u H'
theorem y0{s:Shared}{p:Tr}:∀{ts:List Tr} {us:List Value},bj s ts us->us.countP (iA s p)=ts.countP λy=>eqT y p
 | [],_,b=>by simp only[bj]at b;subst b;rfl
 | q::ts,_,b=>by
  simp only[bj]at b;obtain⟨u,r,rfl,c1,d1⟩:=b;rw[List.countP_cons,List.countP_cons,rW c1,y0 d1]
def Ml(hu:X.A.units+1150<cLine):KJ X "list.count" (Qf X.K):=by
 rintro ae s σ H x vs v us Q I rx rv ⟨aa,ab,F,st,τ,p,as,o,e,R,bp,ba,k⟩
 unfold Mj at e;split at e
 ·obtain⟨ps,e1,e⟩:=aD e;obtain⟨t,e2,e⟩:=aD e;obtain⟨ts,e3,rfl⟩:=aI e;obtain⟨y,rfl,b⟩:=bU ba;obtain⟨a,ws,rfl,ha,dU⟩:=R.at (cV e1) bp;cases rx;obtain⟨u,rfl,ru⟩:=rv.one;have tp:=R.tree I _ _ _ _ _ e2 b ru;obtain⟨ai,r,pl,_⟩:=I.list (fJ.sq ha);obtain⟨h1,h2⟩:=R.trees I _ _ _ _ _ e3 dU r;obtain⟨⟨cls,dd,data,sl⟩,ho,hc,n,hd⟩:=pl.isList;simp only at hc hd;subst hc hd;refine dh PySem.F.slot_list_count ⟨_,ho,rfl⟩ PySem.F.entry_list_count (PySem.F.args_list_count_2 _ _) (SeqAt.list_countAt a ai.toArray n dd sl u (iA s t)) ⟨ho,λy hy=>lR tp h1 (by rw[mz];unfold eS at h2;lia) y (by simpa using hy),?_⟩
  rw[show ai.toArray.toList=ai from rfl,y0 h1]
  exact⟨.int _,H,I.tok _,⟨_,rfl⟩,k _ H F R (Gr.refl F) (au.mpr rfl)⟩
 ·cases e
def Mm:PH X (Qf X.K) HK:=λaa H ab F st σ p as v ws Q h R bp ba=>by
 obtain⟨o,e,z⟩:=At.hp h;exact⟨aa,ab,F,st,σ,p,as,o,e,R,bp,ba,z⟩
def Qg{o:Expr}{es:List Expr}{fo:Gx PV}{ts:Gx (List PV)}{ju fq:Pos}(hu:X.A.units+1150<cLine)(ho:PE X o (tE X aa ab fo))(ha:PA X (e::es) (tA X aa ab ts))(fy:attributeBase o "count" X.env (eval o X.env)=eval o X.env)
  (oH:((backTo fq (starEach (e::es) X.env)).all (λx=>!x.1)&&(backToKw fq (keywordEach [] X.env)).all (λx=>x.1.isSome)&&decide ((e::es).length+([]:List Keyword).length+(if([]:List Keyword).isEmpty then 0 else 1)<30))=true)
  (er:(ju.endLine==fq.line)=true) (jr:starEach (e::es) X.env=(false,eval e X.env)::starEach es X.env) (jA:(backTo fq (starEach es X.env)).any (·.1)=false):PE X (.Call (.Attribute o "count" ju) (e::es) [] fq) (tE X aa ab (Hv "list" HK fo ts)) :=
 (m4 me PySem.F.slot_list_count PySem.F.type_list_count (Ml hu) ho ha fy oH er jr jA).imp λ_ _ _ h=>i7 Mm h
def DT:bootBuiltins "all"=some (.builtin "all"):=by kernel_rfl
def DU:bootBuiltins "any"=some (.builtin "any"):=by kernel_rfl
end
theorem ng{a b:Nat}(h:b<a):@Ne Addr a b:=kr h
structure Zp (h:Heap) (z TI TO i1 i2 l1 l2:Nat) (f0:Value) (k:Nat) (xs ys:Array Value):Prop where
 hz:IsZip h z TI TO f0
 hTI:IsPair h TI (.ref i1) (.ref i2)
 hTO:∃a b,IsPair h TO a b
 s1:SI h i1 l1 k xs
 s2:SI h i2 l2 k ys
 ord:i1<i2/\i2<TI/\TI<TO/\TO<z
 o1:l1<i1
 o2:l2<i1
section
variable {prog:Program} {w:World} {A:Around} {E:Value->Shared->Prop} {s:Shared} {z TI TO i1 i2 l1 l2:Nat} {k:Nat} {xs ys:Array Value}
theorem y9{x y:Value}{Q:Value->Shared->Prop}(Z:Zp s.heap z TI TO i1 i2 l1 l2 .none k xs ys)(hx:xs[k]?=some x)(hy:ys[k]?=some y)
  (hQ:∀h',Zp h' z TI TO i1 i2 l1 l2 (rawInt s.heap.objs.size) (k+1) xs ys->IsPair h' s.heap.objs.size x y->h'.objs.size=s.heap.objs.size+1->(∀c o,c≠z->c≠TO->c≠i1->c≠i2->s.heap.get? c=some o->h'.get? c=some o)->Q (.ref s.heap.objs.size) {s with heap:=h'}) :
  wpAny (model prog w) A (Builtin.«zip.__next__» ⟨[.ref z],[]⟩) (λgT s'=>∃v,gT=.done (.ret v)/\Q v s') E s:=by
 obtain⟨hz,hTI,⟨a,b,hTO⟩,s1,s2,⟨o1,o2,o3,o4⟩,q1,q2⟩:=Z;show wpAny _ _ (field (.ref z) 2 >>= _) _ _ _;refine af (bR hz rfl (x:=.bool false) rfl ?_);show wpAny _ _ (field (.ref z) 3 >>= _) _ _ _;refine af (bR hz rfl (x:=.ref TI) rfl (af (eM hTI rfl ?_)));show wpAny _ _ (Builtin.SmallTypes.ownedTupleIsFree (.ref z) >>= _) _ _ _;refine af ?_;unfold Builtin.SmallTypes.ownedTupleIsFree;refine af (bR hz rfl (x:=.none) rfl (ag ?_));simp only[ee];refine af (gS (af (bR hz rfl (x:=.ref TO) rfl (af (iM hz (by simp) λeV hz₁ e₁=>?_)))))
 replace hz₁:IsZip eV z TI TO .ellipsis:=hz₁;refine af ?_;simp only[List.zipIdx_cons,List.zipIdx_nil,mC,rf];refine af (af (rj ?_));show wpAny _ _ (Builtin.SmallTypes.nextOf (.ref i1) >>= _) _ _ _;have jT:SI eV i1 l1 k xs:=s1.at (λo e=>e₁.extBut _ _ (by first | exact nl (by lia) | exact ng (by lia)) e) (λo e=>e₁.extBut _ _ (by first | exact nl (by lia) | exact ng (by lia)) e)
 refine af (SI.next jT hx λnO uL e₂=>ag ?_)
 have nP:IsPair nO TO a b:=e₂.extBut _ _ (by first | exact nl (by lia) | exact ng (by lia)) (e₁.extBut _ _ (by first | exact nl (by lia) | exact ng (by lia)) hTO)
 refine af (eM nP rfl (af (vO nP λi9 hTO₃ gF=>?_)))
 replace hTO₃:IsPair i9 TO x b:=hTO₃;refine af (kx (ag (af (af (rj ?_)))));show wpAny _ _ (Builtin.SmallTypes.nextOf (.ref i2) >>= _) _ _ _;have uM:SI i9 i2 l2 k ys:=s2.at (λo e=>gF.extBut _ _ (by first | exact nl (by lia) | exact ng (by lia)) (e₂.extBut _ _ (by first | exact nl (by lia) | exact ng (by lia)) (e₁.extBut _ _ (by first | exact nl (by lia) | exact ng (by lia)) e))) (λo e=>gF.extBut _ _ (by first | exact nl (by lia) | exact ng (by lia)) (e₂.extBut _ _ (by first | exact nl (by lia) | exact ng (by lia)) (e₁.extBut _ _ (by first | exact nl (by lia) | exact ng (by lia)) e)))
 refine af (SI.next uM hy λMn Qh e₄=>ag ?_)
 have DV:IsPair Mn TO x b:=e₄.extBut _ _ (by first | exact nl (by lia) | exact ng (by lia)) hTO₃
 refine af (eM DV rfl (af (vO DV λia hTO₅ xo=>?_)))
 replace hTO₅:IsPair ia TO x y:=hTO₅;refine af (kx (ag (ag ?_)));refine af (eM hTO₅ rfl (af (wpAny_newTuple ?_)));have hsz:ia.objs.size=s.heap.objs.size:=by rw[xo.1,e₄.1,gF.1,e₂.1,e₁.1]
 have Js:IsZip ia z TI TO .ellipsis:=xo.extBut _ _ (by first | exact nl (by lia) | exact ng (by lia)) (e₄.extBut _ _ (by first | exact nl (by lia) | exact ng (by lia)) (gF.extBut _ _ (by first | exact nl (by lia) | exact ng (by lia)) (e₂.extBut _ _ (by first | exact nl (by lia) | exact ng (by lia)) hz₁)))
 have kp:∀c o,c≠z->c≠TO->c≠i1->c≠i2->s.heap.get? c=some o->ia.get? c=some o:=λc o c1 c2 c3 c4 e=>xo.extBut _ _ c2 (e₄.extBut _ _ c4 (gF.extBut _ _ c2 (e₂.extBut _ _ c3 (e₁.extBut _ _ c1 e))))
 have Qi:SI ia i1 l1 (k+1) xs:=uL.at (λo e=>xo.extBut _ _ (by first | exact nl (by lia) | exact ng (by lia)) (e₄.extBut _ _ (by first | exact nl (by lia) | exact ng (by lia)) (gF.extBut _ _ (by first | exact nl (by lia) | exact ng (by lia)) e))) (λo e=>xo.extBut _ _ (by first | exact nl (by lia) | exact ng (by lia)) (e₄.extBut _ _ (by first | exact nl (by lia) | exact ng (by lia)) (gF.extBut _ _ (by first | exact nl (by lia) | exact ng (by lia)) e)))
 have Qj:SI ia i2 l2 (k+1) ys:=Qh.at (λo e=>xo.extBut _ _ (by first | exact nl (by lia) | exact ng (by lia)) e) (λo e=>xo.extBut _ _ (by first | exact nl (by lia) | exact ng (by lia)) e)
 have Y9:z<ia.objs.size:=az Js;show wpAny _ _ (Builtin.SmallTypes.ownedTupleHandOut (.ref z) (.ref ia.objs.size) >>= _) _ _ _;refine af ?_;unfold Builtin.SmallTypes.ownedTupleHandOut;have Qk:IsZip (ia.push {cls:=.type "tuple",data:=.seq #[x,y]}) z TI TO .ellipsis:=ax _ Js
 refine af (iM Qk (by simp) λUw DW e₇=>?_)
 replace DW:IsZip Uw z TI TO (rawInt ia.objs.size):=DW;refine iM DW (by simp) λDX za Mo=>?_
 replace za:IsZip DX z TI TO (rawInt ia.objs.size):=za;have up:∀c o,c≠z->ia.get? c=some o->DX.get? c=some o:=λc o c1 e=>Mo.extBut _ _ c1 (e₇.extBut _ _ c1 (ax _ e))
 have hT₈:IsPair DX ia.objs.size x y:=Mo.extBut _ _ (by first | exact nl (by lia) | exact ng (by lia)) (e₇.extBut _ _ (by first | exact nl (by lia) | exact ng (by lia)) (aU _ rfl))
 have Wo:DX.objs.size=ia.objs.size+1:=by rw[Mo.1,e₇.1,cy]
 rw[hsz]at za hT₈ Wo;refine ag ⟨_,rfl,?_⟩;show Q (.ref ia.objs.size) _;rw[hsz];refine hQ DX ⟨za,up _ _ (by first | exact nl (by lia) | exact ng (by lia)) (kp _ _ (by first | exact nl (by lia) | exact ng (by lia)) (by first | exact nl (by lia) | exact ng (by lia)) (by first | exact nl (by lia) | exact ng (by lia)) (by first | exact nl (by lia) | exact ng (by lia)) hTI),⟨x,y,up _ _ (by first | exact nl (by lia) | exact ng (by lia)) hTO₅⟩,Qi.at (λo e=>up _ o (by first | exact nl (by lia) | exact ng (by lia)) e) (λo e=>up _ o (by first | exact nl (by lia) | exact ng (by lia)) e),Qj.at (λo e=>up _ o (by first | exact nl (by lia) | exact ng (by lia)) e) (λo e=>up _ o (by first | exact nl (by lia) | exact ng (by lia)) e),⟨o1,o2,o3,o4⟩,q1,q2⟩ hT₈ Wo λc o c1 c2 c3 c4 e=>up c o c1 (kp c o c1 c2 c3 c4 e)
theorem DY{Q:Fin->Shared->Prop}(hh:A.handled=none)(Z:Zp s.heap z TI TO i1 i2 l1 l2 .none k xs ys)(uN:xs[k]?=none\/ys[k]?=none)
  (hE:∀h' e,(∀c o,c≠z->c≠TO->c≠i1->c≠i2->s.heap.get? c=some o->h'.get? c=some o)->(∃o,h'.get? e=some o/\o.cls=.type "StopIteration")->E (.ref e) {s with heap:=h'}):wpAny (model prog w) A (Builtin.«zip.__next__» ⟨[.ref z],[]⟩) Q E s:=by
 obtain⟨hz,hTI,⟨a,b,hTO⟩,s1,s2,⟨o1,o2,o3,o4⟩,q1,q2⟩:=Z;show wpAny _ _ (field (.ref z) 2 >>= _) _ _ _;refine af (bR hz rfl (x:=.bool false) rfl ?_);show wpAny _ _ (field (.ref z) 3 >>= _) _ _ _;refine af (bR hz rfl (x:=.ref TI) rfl (af (eM hTI rfl ?_)));show wpAny _ _ (Builtin.SmallTypes.ownedTupleIsFree (.ref z) >>= _) _ _ _;refine af ?_;unfold Builtin.SmallTypes.ownedTupleIsFree;refine af (bR hz rfl (x:=.none) rfl (ag ?_));simp only[ee];refine af (gS (af (bR hz rfl (x:=.ref TO) rfl (af (iM hz (by simp) λeV hz₁ e₁=>?_)))))
 replace hz₁:IsZip eV z TI TO .ellipsis:=hz₁;refine af ?_;simp only[List.zipIdx_cons,List.zipIdx_nil,mC,rf];refine af (af (rj ?_));show wpAny _ _ (Builtin.SmallTypes.nextOf (.ref i1) >>= _) _ _ _;have jT:SI eV i1 l1 k xs:=s1.at (λo e=>e₁.extBut _ _ (by first | exact nl (by lia) | exact ng (by lia)) e) (λo e=>e₁.extBut _ _ (by first | exact nl (by lia) | exact ng (by lia)) e)
 cases hx:xs[k]? with
 | none =>
  refine af (SI.stop hh jT hx λnO e hs₂ he=>?_)
  obtain⟨oe,Mp,Ql⟩:=he;have Jt:IsZip nO z TI TO .ellipsis:=hs₂ _ _ (by first | exact nl (by lia) | exact ng (by lia)) hz₁
  have Ux:e≠z:=λx=>by subst x;rw[Jt]at Mp;cases Mp;simp at Ql
  exact iM Jt (by simp) λi9 _ hs₃=>hE i9 e (λc o c1 _ c3 _ x=>hs₃.extBut _ _ c1 (hs₂ _ _ c3 (e₁.extBut _ _ c1 x))) ⟨oe,hs₃.extBut _ _ Ux Mp,Ql⟩
 | some x =>
  have hy:ys[k]?=none:=by
   rcases uN with h | h
   ·rw[hx]at h;cases h
   ·exact h
  refine af (SI.next jT hx λnO uL e₂=>ag ?_)
  have nP:IsPair nO TO a b:=e₂.extBut _ _ (by first | exact nl (by lia) | exact ng (by lia)) (e₁.extBut _ _ (by first | exact nl (by lia) | exact ng (by lia)) hTO)
  refine af (eM nP rfl (af (vO nP λi9 hTO₃ gF=>?_)))
  refine af (kx (ag (af (af (rj ?_)))));show wpAny _ _ (Builtin.SmallTypes.nextOf (.ref i2) >>= _) _ _ _;have uM:SI i9 i2 l2 k ys:=s2.at (λo e=>gF.extBut _ _ (by first | exact nl (by lia) | exact ng (by lia)) (e₂.extBut _ _ (by first | exact nl (by lia) | exact ng (by lia)) (e₁.extBut _ _ (by first | exact nl (by lia) | exact ng (by lia)) e))) (λo e=>gF.extBut _ _ (by first | exact nl (by lia) | exact ng (by lia)) (e₂.extBut _ _ (by first | exact nl (by lia) | exact ng (by lia)) (e₁.extBut _ _ (by first | exact nl (by lia) | exact ng (by lia)) e)))
  refine af (SI.stop hh uM hy λMn e Ju he=>?_)
  obtain⟨oe,Mp,Ql⟩:=he;have Jv:IsZip Mn z TI TO .ellipsis:=Ju _ _ (by first | exact nl (by lia) | exact ng (by lia)) (gF.extBut _ _ (by first | exact nl (by lia) | exact ng (by lia)) (e₂.extBut _ _ (by first | exact nl (by lia) | exact ng (by lia)) hz₁))
  have Ux:e≠z:=λx=>by subst x;rw[Jv]at Mp;cases Mp;simp at Ql
  exact iM Jv (by simp) λia _ hs₅=>hE ia e (λc o c1 c2 c3 c4 x=>hs₅.extBut _ _ c1 (Ju _ _ c4 (gF.extBut _ _ c2 (e₂.extBut _ _ c3 (e₁.extBut _ _ c1 x))))) ⟨oe,hs₅.extBut _ _ Ux Mp,Ql⟩
theorem uO(l1 l2:Addr)(xs ys:Array Value)(c1 c2:String) :
  Meets (Builtin.«zip.__new__» ⟨[.type "zip",.ref l1,.ref l2],[]⟩) (λ_ R s=>fQ s.heap l1 xs c1/\fQ s.heap l2 ys c2 /\
   ∀h1 h2 h3 h4:Heap,h1=s.heap.push {cls:=.type c1,data:=.fields #[.ref l1,.int 0 0]}->h2=h1.push {cls:=.type c2,data:=.fields #[.ref l2,.int 0 0]}->h3=h2.push {cls:=.type "tuple",data:=.seq #[.ref s.heap.objs.size,.ref h1.objs.size]}->h4=h3.push {cls:=.type "tuple",data:=.seq #[.none,.none]} ->
    R (.ok (.ret (.ref h4.objs.size))) {s with heap:=h4.push {cls:=.type "zip",data:=.fields #[.none,.bool false,.bool false,.ref h2.objs.size,.ref h3.objs.size]}}) :=
 .of_wp λprog w A R s h=>by
  obtain⟨hp,g,d,tk,os⟩:=s;obtain⟨Mq,RM,h⟩:=h;have se:=sub_zip;have Yj:fQ (Shared.heap ⟨hp,g,d,tk,os⟩) l1 xs c1:=Mq;have Yk:fQ (Shared.heap ⟨hp.push {cls:=.type c1,data:=.fields #[.ref l1,.int 0 0]},g,d,tk,os⟩) l2 ys c2:=by
   rcases RM with⟨e,q⟩ | ⟨e,q⟩
   ·exact .inl ⟨e,v3 q _⟩
   ·exact .inr ⟨e,Heap.IsTuple.push q _⟩
  wp_walk using iw Yj,iw Yk
  exact⟨_,rfl,h _ _ _ _ rfl rfl rfl rfl⟩
end
def Uy(h:Heap)(z TI TO t:Nat)(f:Bool):Prop:=h.get? z=some {cls:=.type "zip",data:=.fields #[rawInt t,.bool f,.bool false,.ref TI,.ref TO]}
structure Zq (h:Heap) (z TI TO i1 i2 l1 l2 t:Nat) (f:Bool) (k:Nat) (xs ys:Array Value):Prop where
 hz:Uy h z TI TO t f
 hTI:IsPair h TI (.ref i1) (.ref i2)
 s1:SI h i1 l1 k xs
 s2:SI h i2 l2 k ys
 al:∃o,h.get? t=some o
 ord:i1<i2/\i2<TI/\TI<TO/\TO<z/\z<t
 o1:l1<i1
 o2:l2<i1
section
variable {prog:Program} {w:World} {A:Around} {E:Value->Shared->Prop} {s:Shared} {z TI TO i1 i2 l1 l2 t:Nat} {f:Bool} {k:Nat} {xs ys:Array Value}
theorem Zq.at{h h':Heap}(Z:Zq h z TI TO i1 i2 l1 l2 t f k xs ys)(kp:∀b o,b<=z->h.get? b=some o->h'.get? b=some o)(ka:∀o,h.get? t=some o->∃o',h'.get? t=some o'):Zq h' z TI TO i1 i2 l1 l2 t f k xs ys:=by
 obtain⟨hz,hTI,s1,s2,⟨oa,ha⟩,⟨o1,o2,o3,o4,o5⟩,q1,q2⟩:=Z;exact⟨kp _ _ (aq _) hz,kp _ _ (by lia) hTI,s1.at (λo e=>kp _ o (by lia) e) (λo e=>kp _ o (by lia) e),s2.at (λo e=>kp _ o (by lia) e) (λo e=>kp _ o (by lia) e),ka _ ha,⟨o1,o2,o3,o4,o5⟩,q1,q2⟩
theorem zb{oa:Obj}{Q:Bool->Shared->Prop}(hz:Uy s.heap z TI TO t f)(ha:s.heap.get? t=some oa)(hQ:∀eV,Uy eV z TI TO t true->Heap.SameBut z s.heap eV->Q false {s with heap:=eV}):wpAny (model prog w) A (Builtin.SmallTypes.ownedTupleIsFree (.ref z)) Q E s:=by
 unfold Builtin.SmallTypes.ownedTupleIsFree;refine af (bR hz rfl (x:=rawInt t) rfl ?_);show wpAny _ _ (loadIfAlive ((t:Int).toNat) >>= _) _ _ _;rw[ki];refine af (W.kdx_alive ha ?_);simp only[Option.isNone_some,dt,cB];refine af (bR hz rfl (x:=.bool f) rfl ?_);cases f with
 | true =>
  rw[if_neg (show ¬((Value.bool true != Value.bool true)=true)from du)]
  exact ag (hQ _ hz (Heap.SameBut.refl _ _))
 | false =>
  rw[if_pos (show(Value.bool false != Value.bool true)=true from rfl)]
  exact af (iM hz (by simp) λeV hz₁ e₁=>ag (hQ eV hz₁ e₁))
theorem HL{x y:Value}{Q:Value->Shared->Prop}(Z:Zq s.heap z TI TO i1 i2 l1 l2 t f k xs ys)(hx:xs[k]?=some x)(hy:ys[k]?=some y)
  (hQ:∀h',Zq h' z TI TO i1 i2 l1 l2 t true (k+1) xs ys->IsPair h' s.heap.objs.size x y->h'.objs.size=s.heap.objs.size+1->(∀c o,c≠z->c≠i1->c≠i2->s.heap.get? c=some o->h'.get? c=some o)->Q (.ref s.heap.objs.size) {s with heap:=h'}) :
  wpAny (model prog w) A (Builtin.«zip.__next__» ⟨[.ref z],[]⟩) (λgT s'=>∃v,gT=.done (.ret v)/\Q v s') E s:=by
 obtain⟨hz,hTI,s1,s2,⟨oa,ha⟩,⟨o1,o2,o3,o4,o5⟩,q1,q2⟩:=Z;show wpAny _ _ (field (.ref z) 2 >>= _) _ _ _;refine af (bR hz rfl (x:=.bool false) rfl ?_);show wpAny _ _ (field (.ref z) 3 >>= _) _ _ _;refine af (bR hz rfl (x:=.ref TI) rfl (af (eM hTI rfl ?_)));show wpAny _ _ (Builtin.SmallTypes.ownedTupleIsFree (.ref z) >>= _) _ _ _;refine af (zb hz ha λeV hz₁ e₁=>?_)
 simp only[dt,cB];refine af ?_;simp only[List.forIn_toArray,mC,rf];refine af (af (cz ?_));show wpAny _ _ (Builtin.SmallTypes.nextOf (.ref i1) >>= _) _ _ _;have jT:SI eV i1 l1 k xs:=s1.at (λo e=>e₁.extBut _ _ (by first | exact nl (by lia) | exact ng (by lia)) e) (λo e=>e₁.extBut _ _ (by first | exact nl (by lia) | exact ng (by lia)) e)
 refine af (SI.next jT hx λnO uL e₂=>ag ?_)
 refine ag (af (af (cz ?_)));show wpAny _ _ (Builtin.SmallTypes.nextOf (.ref i2) >>= _) _ _ _;have DZ:SI nO i2 l2 k ys:=s2.at (λo e=>e₂.extBut _ _ (by first | exact nl (by lia) | exact ng (by lia)) (e₁.extBut _ _ (by first | exact nl (by lia) | exact ng (by lia)) e)) (λo e=>e₂.extBut _ _ (by first | exact nl (by lia) | exact ng (by lia)) (e₁.extBut _ _ (by first | exact nl (by lia) | exact ng (by lia)) e))
 refine af (SI.next DZ hy λi9 uM gF=>ag ?_)
 refine ag (ag ?_);have hsz:i9.objs.size=s.heap.objs.size:=by rw[gF.1,e₂.1,e₁.1]
 have kp:∀c o,c≠z->c≠i1->c≠i2->s.heap.get? c=some o->i9.get? c=some o:=λc o c1 c2 c3 e=>gF.extBut _ _ c3 (e₂.extBut _ _ c2 (e₁.extBut _ _ c1 e))
 have up:∀c o,c≠i1->c≠i2->eV.get? c=some o->i9.get? c=some o:=λc o c2 c3 e=>gF.extBut _ _ c3 (e₂.extBut _ _ c2 e)
 refine af (wpAny_newTuple (hsz:=by show 2<=sizeLine;decide) ?_)
 show wpAny _ _ (ret (Value.ref i9.objs.size)) _ _ {s with heap:=i9.push {cls:=.type "tuple",data:=.seq #[x,y]}}
 rw[hsz];refine ag ⟨_,rfl,?_⟩;have Z3:Zq i9 z TI TO i1 i2 l1 l2 t true (k+1) xs ys:=⟨up _ _ (by first | exact nl (by lia) | exact ng (by lia)) (by first | exact nl (by lia) | exact ng (by lia)) hz₁,kp _ _ (by first | exact nl (by lia) | exact ng (by lia)) (by first | exact nl (by lia) | exact ng (by lia)) (by first | exact nl (by lia) | exact ng (by lia)) hTI,uL.at (λo e=>gF.extBut _ _ (by first | exact nl (by lia) | exact ng (by lia)) e) (λo e=>gF.extBut _ _ (by first | exact nl (by lia) | exact ng (by lia)) e),uM,⟨oa,kp _ _ (by first | exact nl (by lia) | exact ng (by lia)) (by first | exact nl (by lia) | exact ng (by lia)) (by first | exact nl (by lia) | exact ng (by lia)) ha⟩,⟨o1,o2,o3,o4,o5⟩,q1,q2⟩
 refine hQ _ (Z3.at (λb o _ e=>ax _ e) λo e=>⟨o,ax _ e⟩) ?_ (by rw[cy,hsz]) λc o c1 c2 c3 e=>ax _ (kp c o c1 c2 c3 e)
 rw[<-hsz];exact aU _ rfl
theorem Mr{Q:Fin->Shared->Prop}(hh:A.handled=none)(Z:Zq s.heap z TI TO i1 i2 l1 l2 t f k xs ys)(uN:xs[k]?=none\/ys[k]?=none)
  (hE:∀h' e,(∀c o,c≠z->c≠i1->c≠i2->s.heap.get? c=some o->h'.get? c=some o)->(∃o,h'.get? e=some o/\o.cls=.type "StopIteration")->E (.ref e) {s with heap:=h'}):wpAny (model prog w) A (Builtin.«zip.__next__» ⟨[.ref z],[]⟩) Q E s:=by
 obtain⟨hz,hTI,s1,s2,⟨oa,ha⟩,⟨o1,o2,o3,o4,o5⟩,q1,q2⟩:=Z;show wpAny _ _ (field (.ref z) 2 >>= _) _ _ _;refine af (bR hz rfl (x:=.bool false) rfl ?_);show wpAny _ _ (field (.ref z) 3 >>= _) _ _ _;refine af (bR hz rfl (x:=.ref TI) rfl (af (eM hTI rfl ?_)));show wpAny _ _ (Builtin.SmallTypes.ownedTupleIsFree (.ref z) >>= _) _ _ _;refine af (zb hz ha λeV hz₁ e₁=>?_)
 simp only[dt,cB];refine af ?_;simp only[List.forIn_toArray,mC,rf];refine af (af (cz ?_));show wpAny _ _ (Builtin.SmallTypes.nextOf (.ref i1) >>= _) _ _ _;have jT:SI eV i1 l1 k xs:=s1.at (λo e=>e₁.extBut _ _ (by first | exact nl (by lia) | exact ng (by lia)) e) (λo e=>e₁.extBut _ _ (by first | exact nl (by lia) | exact ng (by lia)) e)
 cases hx:xs[k]? with
 | none =>
  refine af (SI.stop hh jT hx λnO e hs₂ he=>?_)
  exact hE nO e (λc o c1 c3 _ x=>hs₂ _ _ c3 (e₁.extBut _ _ c1 x)) he
 | some x =>
  have hy:ys[k]?=none:=by
   rcases uN with h | h
   ·rw[hx]at h;cases h
   ·exact h
  refine af (SI.next jT hx λnO uL e₂=>ag ?_)
  refine ag (af (af (cz ?_)));show wpAny _ _ (Builtin.SmallTypes.nextOf (.ref i2) >>= _) _ _ _;have DZ:SI nO i2 l2 k ys:=s2.at (λo e=>e₂.extBut _ _ (by first | exact nl (by lia) | exact ng (by lia)) (e₁.extBut _ _ (by first | exact nl (by lia) | exact ng (by lia)) e)) (λo e=>e₂.extBut _ _ (by first | exact nl (by lia) | exact ng (by lia)) (e₁.extBut _ _ (by first | exact nl (by lia) | exact ng (by lia)) e))
  refine af (SI.stop hh DZ hy λi9 e hs₃ he=>?_)
  exact hE i9 e (λc o c1 c2 c3 x=>hs₃ _ _ c3 (e₂.extBut _ _ c2 (e₁.extBut _ _ c1 x))) he
end
def ZS(h:Heap)(z TI TO i1 i2 l1 l2 B i:Nat)(xs ys:Array Value):Prop:=(i=0/\Zp h z TI TO i1 i2 l1 l2 .none 0 xs ys)\/(0<i/\∃f,Zq h z TI TO i1 i2 l1 l2 B f i xs ys)
def ja(B i:Nat):Array Value:=((List.range i).map λj=>Value.ref (B+j)).toArray
theorem AH(B i:Nat):(ja B i).push (.ref (B+i))=ja B (i+1):=by
 unfold ja;rw[wj,bO];simp
theorem qc(B i:Nat):(ja B i).size=i:=by unfold ja;simp
section
variable {prog:Program} {w:World} {A:Around} {E:Value->Shared->Prop} {s:Shared} {z TI TO i1 i2 l1 l2 B:Nat} {i:Nat} {xs ys:Array Value}
theorem ZS.zip{h:Heap}(Z:ZS h z TI TO i1 i2 l1 l2 B i xs ys):∃o,h.get? z=some o/\o.cls=.type "zip":=by
 rcases Z with⟨_,Z⟩ | ⟨_,f,Z⟩
 ·exact⟨_,Z.hz,rfl⟩
 ·exact⟨_,Z.hz,rfl⟩
theorem ZS.at{h h':Heap}(Z:ZS h z TI TO i1 i2 l1 l2 B i xs ys)(kp:∀b o,b<=z->h.get? b=some o->h'.get? b=some o)(ka:∀o,h.get? B=some o->∃o',h'.get? B=some o'):ZS h' z TI TO i1 i2 l1 l2 B i xs ys:=by
 rcases Z with⟨e,⟨hz,hTI,⟨a,b,hTO⟩,s1,s2,⟨o1,o2,o3,o4⟩,q1,q2⟩⟩ | ⟨e,f,Z⟩
 ·exact .inl ⟨e,⟨kp _ _ (aq _) hz,kp _ _ (by lia) hTI,⟨a,b,kp _ _ (by lia) hTO⟩,s1.at (λo e=>kp _ o (by lia) e) (λo e=>kp _ o (by lia) e),s2.at (λo e=>kp _ o (by lia) e) (λo e=>kp _ o (by lia) e),⟨o1,o2,o3,o4⟩,q1,q2⟩⟩
 ·exact .inr ⟨e,f,Z.at kp ka⟩
theorem HM{x y:Value}{Q:Option Value->Shared->Prop}(Z:ZS s.heap z TI TO i1 i2 l1 l2 B i xs ys)(hsz:s.heap.objs.size=B+i)(hx:xs[i]?=some x)(hy:ys[i]?=some y)
  (hQ:∀h',ZS h' z TI TO i1 i2 l1 l2 B (i+1) xs ys->IsPair h' (B+i) x y->h'.objs.size=B+(i+1)->(∀c o,c≠z->c≠TO->c≠i1->c≠i2->s.heap.get? c=some o->h'.get? c=some o)->Q (some (.ref (B+i))) {s with heap:=h'}) :
  wpAny (model prog w) A (pyNext (.ref z)) Q E s:=by
 obtain⟨oz,RX,Uz⟩:=Z.zip;have hT:s.TypeIs (.ref z) "zip":=⟨_,RX,Uz⟩;have UA:z<s.heap.objs.size:=az RX;unfold pyNext;rcases Z with⟨rfl,Z⟩ | ⟨hi,f,Z⟩
 ·refine af (iT (d0 (name:=Str.ofString "__next__") hT d8 (d7 d8 hT kn
   (y9 Z hx hy λh' Z' Jw Pd kp=>ag ?_) (kf _))))
  obtain⟨hz,hTI,_,s1,s2,⟨o1,o2,o3,o4⟩,q1,q2⟩:=Z';rw[hsz]at Jw hz UA ⊢;refine(hQ h' (.inr ⟨Nat.succ_pos _,false,⟨hz,hTI,s1,s2,⟨_,Jw⟩,⟨o1,o2,o3,o4,by lia⟩,q1,q2⟩⟩) Jw (by lia) kp)
 ·refine af (iT (d0 (name:=Str.ofString "__next__") hT d8 (d7 d8 hT kn
   (HL Z hx hy λh' Z' Jw Pd kp=>ag ?_) (kf _))))
  rw[hsz]at Jw ⊢;exact(hQ h' (.inr ⟨Nat.succ_pos _,true,Z'⟩) Jw (by lia) λc o c1 _ c3 c4 e=>kp c o c1 c3 c4 e)
theorem HN{Q:Option Value->Shared->Prop}(hh:A.handled=none)(Z:ZS s.heap z TI TO i1 i2 l1 l2 B i xs ys)(uN:xs[i]?=none\/ys[i]?=none)
  (hQ:∀h',(∀c o,c≠z->c≠TO->c≠i1->c≠i2->s.heap.get? c=some o->h'.get? c=some o)->Q none {s with heap:=h'}) :
  wpAny (model prog w) A (pyNext (.ref z)) Q E s:=by
 obtain⟨oz,RX,Uz⟩:=Z.zip;have hT:s.TypeIs (.ref z) "zip":=⟨_,RX,Uz⟩;unfold pyNext;rcases Z with⟨rfl,Z⟩ | ⟨hi,f,Z⟩
 ·refine af (iT (d0 (name:=Str.ofString "__next__") hT d8 (d7 d8 hT kn (DY hh Z uN λh' e kp ⟨o,ho,hcl⟩=>?_) (kf _))))
  exact af (qT (T:="StopIteration") (b:=true) ⟨o,ho,hcl⟩ q8 (ag (hQ h' kp)))
 ·refine af (iT (d0 (name:=Str.ofString "__next__") hT d8 (d7 d8 hT kn (Mr hh Z uN λh' e kp ⟨o,ho,hcl⟩=>?_) (kf _))))
  exact af (qT (T:="StopIteration") (b:=true) ⟨o,ho,hcl⟩ q8 (ag (hQ h' λc o c1 _ c3 c4 e=>kp c o c1 c3 c4 e)))
end
section
variable {prog:Program} {w:World} {A:Around} {R:Result->Shared->Prop} {z TI TO i1 i2 l1 l2 S B n:Nat} {xs ys:Array Value}
def jU(h:Heap)(B i:Nat)(xs ys:Array Value):Prop:=∀j,j<i->∃x y,xs[j]?=some x/\ys[j]?=some y/\IsPair h (B+j) x y
theorem HP(hh:A.handled=none)(hn:n=min xs.size ys.size)(Wq:z<S)(Wr:S<B)(ord:i1<z/\i2<z/\TO<z)(res:Value)(ND:n<=sizeLine) :
  ∀(k i:Nat) (s:Shared) (c:Nat),n-i=k->i<=n->ZS s.heap z TI TO i1 i2 l1 l2 B i xs ys->s.heap.objs.size=B+i->jU s.heap B i xs ys->s.heap.get? S=some {cls:=.type "list",dict:=none,data:=.seq (ja B i) c,slots:=#[]} ->
  (∀h' c',(∀b o,b≠z->b≠TO->b≠i1->b≠i2->b≠S->s.heap.get? b=some o->h'.get? b=some o)->h'.get? S=some {cls:=.type "list",dict:=none,data:=.seq (ja B n) c',slots:=#[]}->jU h' B n xs ys->R (.ok (.ret res)) {s with heap:=h'}) ->
  codeAny (model prog w) A (.builtin "list.extend.loop" ⟨[.ref S,.ref z,res],[]⟩) R s:=by
 intro k;induction k with
 | zero =>
  intro i s c hk hi jr hsz hp hS hR;have L5:i=n:=by lia
  subst L5;refine gP F.entry_extend_loop ?_;rw[iL qO _];show wpAny _ A.in1 (pyNext (.ref z) >>= _) _ _ s;refine af (HN (by simp[hh]) jr ?_ λh' kp=>?_)
  ·rcases Nat.le_total xs.size ys.size with q | q
   ·exact .inl (iJ (by lia))
   ·exact .inr (iJ (by lia))
  ·refine ag (hR h' c (λb o c1 c2 c3 c4 _ e=>kp b o c1 c2 c3 c4 e) (kp S _ (by lia) (by lia) (by lia) (by lia) hS) λj hj=>?_)
   obtain⟨x,y,e1,e2,e3⟩:=hp j hj;exact⟨x,y,e1,e2,kp _ _ (by lia) (by lia) (by lia) (by lia) e3⟩
 | succ k ih =>
  intro i s c hk hi jr hsz hp hS hR;have ux:i<n:=by lia
  have hx:xs[i]?=some (xs[i]'(by lia)):=l9 _
  have hy:ys[i]?=some (ys[i]'(by lia)):=l9 _
  refine gP F.entry_extend_loop ?_;rw[iL qO _];show wpAny _ A.in1 (pyNext (.ref z) >>= _) _ _ s;refine af (HM jr hsz hx hy λh' DQ Yl UB kp=>?_)
  have vz:=kp S _ (by lia) (by lia) (by lia) (by lia) hS
  show wpAny _ A.in1 (updateSeq S (·.push (.ref (B+i))) >>= _) _ _ _;refine af ?_;have UC:=gL (Obj.mapSeq (·.push (Value.ref (B+i)))) vz rfl;obtain⟨c1,UC⟩:∃c1,(h'.update S (Obj.mapSeq (·.push (Value.ref (B+i))))).get? S=some {cls:=.type "list",dict:=none,data:=.seq (ja B (i+1)) c1,slots:=#[]}:=⟨_,by rw[<-AH];exact UC⟩
  have oth:∀b o,b≠S->h'.get? b=some o->(h'.update S (Obj.mapSeq (·.push (Value.ref (B+i))))).get? b=some o:=λb o hb e=>(gK _ _ (bA hb)).trans e
  refine mD (s:={s with heap:=h'}) vz rfl (ag ⟨iV qO _,ih (i+1) _ c1 (by lia) ux (DQ.at (λb o hb e=>oth b o (by lia) e) λo e=>⟨o,oth _ o (by lia) e⟩) ?_ (λj hj=>?_) ?_ λh2 c2 Pm UD BB=>?_⟩)
   (by rw[qc];lia) (by show((ja B i).push _).size<=sizeLine+1;rw[Array.size_push,qc];lia)
  ·show(h'.update S _).objs.size=_;rw[qQ];exact UB
  ·by_cases Ym:j=i
   ·subst Ym;exact⟨_,_,hx,hy,oth _ _ (by lia) Yl⟩
   ·obtain⟨x,y,e1,e2,e3⟩:=hp j (by lia)
    exact⟨x,y,e1,e2,oth _ _ (by lia) (kp _ _ (by lia) (by lia) (by lia) (by lia) e3)⟩
  ·exact UC
  ·exact hR h2 c2 (λb o c1 c2 c3 c4 c5 e=>Pm b o c1 c2 c3 c4 c5 (oth b o c5 (kp b o c1 c2 c3 c4 e))) UD BB
end
theorem xp:typeLookup (.type "zip") "__len__"=pure none:=by rw[qZ,qM];kernel_rfl
theorem uP:typeLookup (.type "zip") "__length_hint__"=pure none:=by rw[qZ,qM];kernel_rfl
section
variable {prog:Program} {w:World} {A:Around} {E:Value->Shared->Prop} {s:Shared} {R:Result->Shared->Prop} {z TI TO i1 i2 l1 l2 S B n:Nat} {xs ys:Array Value}
theorem AI{c:Nat}(hh:A.handled=none)(hn:n=min xs.size ys.size)(Wq:z<S)(hB:s.heap.objs.size=B)(Wr:S<B)(ord:i1<z/\i2<z/\TO<z)(res:Value)(ND:n<=sizeLine)
  (Z:Zp s.heap z TI TO i1 i2 l1 l2 .none 0 xs ys) (hS:s.heap.get? S=some {cls:=.type "list",data:=.seq #[] c})
  (hR:∀h' c',(∀b o,b≠z->b≠TO->b≠i1->b≠i2->b≠S->s.heap.get? b=some o->h'.get? b=some o)->h'.get? S=some {cls:=.type "list",dict:=none,data:=.seq (ja B n) c',slots:=#[]}->jU h' B n xs ys->R (.ok (.ret res)) {s with heap:=h'}) :
  wpAny (model prog w) A.in1 (Builtin.List.listExtendWith (.ref S) (.ref z) res)
   (λgT s'=>match gT with | .done f=>R (.ok f) s' | .again c'=>c'.quiet=true/\codeAny (model prog w) A c' R s') (λe s'=>R (.error e) s') s:=by
 have hT:s.TypeIs (.ref z) "zip":=⟨_,Z.hz,rfl⟩;unfold Builtin.List.listExtendWith;refine af (iW hT ?_);have h1:Builtin.List.listSameRef (.ref S) (.ref z)=false:=by
  have:(S==z)=false:=by simp;lia
  exact this
 have h2:(Value.type "zip"==Value.type "list")=false:=by decide
 have h3:(Value.type "zip"==Value.type "tuple")=false:=by decide
 simp only[h1,h2,h3,Bool.or_false,dt,cB];refine af (vZ Z.hz ?_);refine af (cz ?_);unfold Builtin.List.listLengthHint;refine af (wpAny_specialOf hT xp ?_);show wpAny _ A.in1 (specialOf (Value.ref z) (Str.ofString "__length_hint__") >>= _) _ _ _;refine af (wpAny_specialOf hT uP ?_);refine ag ?_;show wpAny _ A.in1 (rule "list.extend.makes-room" >>= λ_=>Builtin.List.listTouch (.ref S) >>= λ_ =>
  again (.builtin "list.extend.loop" ⟨[.ref S,.ref z,res],[]⟩)) _ _ _
 refine af (gS ?_);refine af ?_;show wpAny _ A.in1 (updateSeq S (·.push .none) >>= λ_=>updateSeq S (·.pop)) _ _ _
 refine af (mD hS rfl ?_);have zc:=gL (Obj.mapSeq (·.push Value.none)) hS rfl;refine mD (hz:=by seq_fits) zc rfl ?_
 have Qm:=gL (Obj.mapSeq (·.pop)) zc rfl;have oth:∀b o,b≠S->s.heap.get? b=some o->((s.heap.update S (Obj.mapSeq (·.push Value.none))).update S (Obj.mapSeq (·.pop))).get? b=some o :=
  λb o hb e=>(gK _ _ (bA hb)).trans ((gK _ _ (bA hb)).trans e)
 have Z0:ZS s.heap z TI TO i1 i2 l1 l2 B 0 xs ys:=.inl ⟨rfl,Z⟩;refine ag ⟨iV qO _,HP hh hn Wq Wr ord res ND n 0 _ _ rfl (eN _) (Z0.at (λb o hb e=>oth b o (by lia) e) λo e=>?_) ?_ (λj hj=>absurd hj (Nat.not_lt_zero _)) Qm λh' c' kp vz hp=>?_⟩
 ·have q:=az e;rw[hB]at q;exact absurd q (dg _)
 ·show((s.heap.update S _).update S _).objs.size=_;rw[qQ,qQ];exact hB
 ·exact hR h' c' (λb o c1 c2 c3 c4 c5 e=>kp b o c1 c2 c3 c4 c5 (oth b o c5 e)) vz hp
theorem oQ{Q:Value->Shared->Prop}(hh:A.handled=none)(hn:n=min xs.size ys.size)(ND:n<=sizeLine)(ord:i1<z/\i2<z/\TO<z)(Z:Zp s.heap z TI TO i1 i2 l1 l2 .none 0 xs ys)
  (hQ:∀h' c',(∀b o,b≠z->b≠TO->b≠i1->b≠i2->s.heap.get? b=some o->h'.get? b=some o)->h'.get? s.heap.objs.size=some {cls:=.type "list",dict:=none,data:=.seq (ja (s.heap.objs.size+1) n) c',slots:=#[]}->jU h' (s.heap.objs.size+1) n xs ys->Q (.ref s.heap.objs.size) {s with heap:=h'}) :
  wpAny (model prog w) A (call (.type "list") [.ref z]) Q E s:=by
 refine callType_codes (Q₁:=λobj s₁=>obj=.ref s.heap.objs.size/\s₁={s with heap:=s.heap.push {cls:=.type "list",data:=.seq #[]}}) F.called_list (F.typeCall_list_1 _) F.entry_list_init
  (code_list_new _ ⟨rfl,rfl⟩) λobj s₁ eV=>?_
 obtain⟨rfl,rfl⟩:=eV;have UA:z<s.heap.objs.size:=az Z.hz;have hS:(s.heap.push {cls:=.type "list",data:=.seq #[]}).get? s.heap.objs.size=some {cls:=.type "list",data:=.seq #[]}:=aU _ rfl
 refine⟨⟨_,hS,rfl⟩,F.args_list_init_2 _ _,?_⟩;show wpAny _ _ (do let old <-Builtin.List.listItems (.ref s.heap.objs.size);Builtin.List.listUpdate (.ref s.heap.objs.size) (λ_=>#[]);letGo old.toList.reverse;Builtin.List.listExtendWith (.ref s.heap.objs.size) (.ref z) .none) _ _ _
 refine af ?_;unfold Builtin.List.listItems;refine af (eM hS rfl (ag ?_));show wpAny _ _ (updateSeq s.heap.objs.size (λ_=>#[]) >>= λ_=>letGo (#[]:Array Value).toList.reverse >>= λ_=>Builtin.List.listExtendWith (.ref s.heap.objs.size) (.ref z) .none) _ _ _
 refine af (mD hS rfl ?_);have zc:=gL (Obj.mapSeq (λ_=>(#[]:Array Value))) hS rfl
 have oth:∀b o,b≠s.heap.objs.size->s.heap.get? b=some o->((s.heap.push {cls:=.type "list",data:=.seq #[]}).update s.heap.objs.size (Obj.mapSeq (λ_=>(#[]:Array Value)))).get? b=some o :=
  λb o hb e=>(gK _ _ (bA hb)).trans (ax _ e)
 refine af (kx ?_);have Z1:ZS ((s.heap.push {cls:=.type "list",data:=.seq #[]}).update s.heap.objs.size (Obj.mapSeq (λ_=>(#[]:Array Value)))) z TI TO i1 i2 l1 l2 0 0 xs ys :=
  ZS.at (h:=s.heap) (.inl ⟨rfl,Z⟩) (λb o hb e=>oth b o (by lia) e) λo e=>⟨o,oth _ o (by lia) e⟩
 rcases Z1 with⟨_,Z1⟩ | ⟨h0,_⟩
 ·refine AI (A:=A.in1) (by simp[hh]) hn UA (B:=s.heap.objs.size+1) ?_ (kj _) ord .none ND Z1 zc λh' c' kp vz hp=>⟨rfl,?_⟩
  ·show((s.heap.push _).update _ _).objs.size=_;rw[qQ,cy]
  ·exact hQ h' c' (λb o c1 c2 c3 c4 e=>kp b o c1 c2 c3 c4 (aJ (az e)) (oth b o (aJ (az e)) e)) vz hp
 ·exact absurd h0 (dg _)
end
theorem qd{vs:List V}{us:List Value}(r:Vals vs us):∀{i:Nat} {u:Value},us[i]?=some u->∃v,vs[i]?=some v/\RelV v u:=by
 induction r with
 | nil=>intro i u e;simp at e
 | @cons v w vs ws h t ih =>
  intro i u e;cases i with
  | zero=>simp at e;subst e;exact⟨v,rfl,h⟩
  | succ i=>obtain⟨x,h1,h2⟩:=ih (i:=i) (u:=u) (by simpa using e);exact⟨x,by simpa using h1,h2⟩
theorem AJ(B n:Nat):Vals ((List.range n).map λj=>V.ref (B+j)) (ja B n).toList:=by
 unfold ja;induction n with
 | zero=>exact .nil
 | succ n ih =>
  rw[wj,bO,bO];exact ih.append (.cons rfl .nil)
theorem uQ{X:Cx}{ae:List (Addr×Obj)}{σ:St}{H1 aa:Hp}{ab F1:Fz}{st:bN}{s:Shared}{B m:Nat}{xs ys:List Value}{vs ws:List V}{ps qs:List PV}(b0:Nat)(V0:b0<=B)(fo:∀b,b0<=b->H1 b=none/\mS X ae H1 b)(hsz:X.s₀.heap.objs.size<=b0)(I:Inv X ae σ H1 s)(R:Rep X.K aa ab F1 st σ H1)(r1:Vals vs xs)(r2:Vals ws ys)(b1:ao X.K F1 ps vs)(b2:ao X.K F1 qs ws)
  (hp:jU s.heap B m xs.toArray ys.toArray):∀i,i<=m->∃Hi Fi,Inv X ae σ Hi s/\Rep X.K aa ab Fi st σ Hi/\Gr F1 Fi/\ao X.K Fi ((List.zipWith dC ps qs).take i) ((List.range i).map λj=>V.ref (B+j))/\∀b,b0<=b->(b<B\/B+i<=b)->Hi b=none:=by
 intro i;induction i with
 | zero=>intro _;exact⟨H1,F1,I,R,Gr.refl _,by simp only[List.take_zero,List.range_zero,bH];exact .nil,λb hb _=>(fo b hb).1⟩
 | succ i ih =>
  intro hi;obtain⟨Hi,Fi,Ii,Ri,si,bi,ni⟩:=ih (by lia)
  obtain⟨x,y,e1,e2,e3⟩:=hp i hi;obtain⟨v,ev,rv⟩:∃v,vs[i]?=some v/\RelV v x:=by
   exact qd r1 (by simpa using e1)
  obtain⟨w,ew,Gu⟩:∃w,ws[i]?=some w/\RelV w y:=by
   exact qd r2 (by simpa using e2)
  obtain⟨p,ep⟩:∃p,ps[i]?=some p:=⟨_,bF (by have:=(cw.mp ev).1;rw[b1.length];exact this)⟩
  obtain⟨v',Yn,bp⟩:=b1.get ep;cases bz (ev.symm.trans Yn);obtain⟨q,Ws⟩:∃q,qs[i]?=some q:=⟨_,bF (by have:=(cw.mp ew).1;rw[b2.length];exact this)⟩
  obtain⟨w',Yo,bq⟩:=b2.get Ws;cases bz (ew.symm.trans Yo);have hn:Hi (B+i)=none:=ni (B+i) (by lia) (.inr (aq _))
  obtain⟨_,f2,f3,f4,f5,f6⟩:=(fo (B+i) (by lia)).2
  have I2:=Inv.adopt (D:=B+i) (o:=.ak [v,w]) Ii hn (aL hsz (by lia)) f2 f5 f6 ⟨(by show 2<=sizeLine;decide),[x,y],.cons rv (.cons Gu .nil),⟨_,e3,rfl,⟨0,rfl⟩,rfl⟩⟩
  obtain⟨R2,s2⟩:=Ri.laid (.ak [v,w]) hn;refine⟨_,_,I2,R2,si.trans s2,?_,λb hb hc=>?_⟩
  ·have hz:(List.zipWith dC ps qs)[i]?=some (dC p q):=by rw[List.getElem?_zipWith,ep,Ws]
   rw[List.take_succ,hz,wj,bO];exact(bi.mono s2).append (.cons (aZ.mpr ⟨B+i,[v,w],rfl,ek.of ar,.cons (bp.mono (si.trans s2)) (.cons (bq.mono (si.trans s2)) .nil)⟩) .nil)
  ·rw[aF (show b≠B+i from λz=>by lia)]
   exact ni b hb (by lia)
def UE(p q:PV):Option (List PV):=(lF p).bind λps=>(lF q).bind λqs=>if(List.zipWith dC ps qs).length<=gY then some (List.zipWith dC ps qs)else none
def Ms(m:Nat)(fa fb:Gx PV):Gx PV:=bnd fa λp=>bnd fb λq=>bnd (ez (UE p q)) λl=>jS m l
section
variable {X:Cx} {aa:Hp} {ab:Fz} {a b:Expr} {fa fb:Gx PV} {pos p nE zp:Pos} {m:Nat}
def Mt(hh:X.A.handled=none)(Md:Gl X "list")(Me:X.mg "list"=none)(hg:Gl X "zip")(hm:X.mg "zip"=none)(ha:PE X a (tE X aa ab fa))(hb:PE X b (tE X aa ab fb))(hs:starEach [a,b] X.env=(false,eval a X.env)::starEach [b] X.env)(vx:starEach [b] X.env=[(false,eval b X.env)]) :
  PE X (.Call (.Name "list" p) [.Call (.Name "zip" zp) [a,b] [] nE] [] pos) (tE X aa ab (Ms m fa fb)):=by
 rintro ae s σ H Q I ⟨F,st,Rp,h⟩
 refine gN (ld_blt I Md Me (gq .list) ?_ (by decide) (by decide))
 refine dD (nF rfl ?_) rfl rfl;have hA:=fx ha (fx hb mW vx) hs nE ae s σ H (λvs H'=>∃F' bB x y pa pb,vs=[x,y]/\Rep X.K aa ab F' bB σ H'/\aS X.K F' pa x/\aS X.K F' pb y/\Tx X aa ab (aS X.K) F' bB (bnd (ez (UE pa pb)) λl=>jS m l) σ Q) I
  ⟨F,st,Rp,h.bnd λpa v F1 aH H1 R1 g1 b1 h1=>⟨F1,aH,R1,h1.bnd λpb w F2 da H2 R2 g2 b2 h2=>⟨F2,da,v,w,pa,pb,rfl,R2,b1.mono g2,b2,h2⟩⟩⟩
 refine Call_ (ld_blt I hg hm boot_zip (dD (thn hA λus s1 z9=>?_) hs (by rw[vx];rfl)))
 obtain⟨vs,H1,I1,r1,F1,aH,x,y,pa,pb,ev,R1,b1,b2,hT⟩:=z9;subst ev;obtain⟨l,e,hT⟩:=At.ez (At.bnd hT);obtain⟨ps,f3,e⟩:=aD e;obtain⟨qs,f4,e⟩:=aD e;obtain⟨wX,rfl⟩:=aw e;obtain⟨u1,u2,rfl,LD,Qd⟩:=yp r1;obtain⟨c1,l1,Wf,rfl,q1,NA,k1⟩:=hJ f3 b1;obtain⟨c2,l2,Yp,rfl,q2,RY,k2⟩:=hJ f4 b2;cases LD;cases Qd;obtain⟨ai,v1,Hl⟩:=(k1 H1 R1.sub).get I1;obtain⟨b9,v2,NF⟩:=(k2 H1 R1.sub).get I1;have lt:∀{l:Addr} {xs:Array Value} {c:String},fQ s1.heap l xs c->l<s1.heap.objs.size:=λh=>by
  rcases h with⟨_,⟨o,e,_⟩⟩ | ⟨_,⟨o,e,_⟩⟩
  ·exact az e
  ·exact az e
 have Po:=lt Hl;have Jf:=lt NF;refine callType_new PySem.F.called_zip (by decide) (PySem.F.typeCall_zip_2 _ _) (PySem.F.newCall_zip_2 _ _) (λobj=>BM obj _ _) PySem.F.entry_zip_new (uO l1 l2 ai.toArray b9.toArray (iB c1) (iB c2)) ⟨Hl,NF,λh1 h2 h3 h4 e1 e2 e3 e4=>?_⟩
 have z1:h1.objs.size=s1.heap.objs.size+1:=by rw[e1];exact cy ..
 have z2:h2.objs.size=s1.heap.objs.size+2:=by rw[e2,cy,z1]
 have z3:h3.objs.size=s1.heap.objs.size+3:=by rw[e3,cy,z2]
 have z4:h4.objs.size=s1.heap.objs.size+4:=by rw[e4,cy,z3]
 generalize e5:h4.push {cls:=.type "zip",data:=.fields #[.none,.bool false,.bool false,.ref h2.objs.size,.ref h3.objs.size]}=h5
 have z5:h5.objs.size=s1.heap.objs.size+5:=by rw[<-e5,cy,z4]
 have p1:∀b o,s1.heap.get? b=some o->h1.get? b=some o:=λb o e=>by rw[e1];exact ax _ e
 have p2:∀b o,h1.get? b=some o->h2.get? b=some o:=λb o e=>by rw[e2];exact ax _ e
 have p3:∀b o,h2.get? b=some o->h3.get? b=some o:=λb o e=>by rw[e3];exact ax _ e
 have p4:∀b o,h3.get? b=some o->h4.get? b=some o:=λb o e=>by rw[e4];exact ax _ e
 have p5:∀b o,h4.get? b=some o->h5.get? b=some o:=λb o e=>by rw[<-e5];exact ax _ e
 have pp:∀b o,s1.heap.get? b=some o->h5.get? b=some o:=λb o e=>p5 _ _ (p4 _ _ (p3 _ _ (p2 _ _ (p1 _ _ e))))
 have g5:IsZip h5 h4.objs.size h2.objs.size h3.objs.size .none:=by rw[<-e5];exact aU _ rfl
 have g4:IsPair h5 h3.objs.size .none .none:=p5 _ _ (by rw[e4];exact aU _ rfl)
 have g3:IsPair h5 h2.objs.size (.ref s1.heap.objs.size) (.ref h1.objs.size):=p5 _ _ (p4 _ _ (by rw[e3];exact aU _ rfl))
 have g2:h5.get? h1.objs.size=some {cls:=.type (iB c2),data:=.fields #[.ref l2,.int 0 0]}:=p5 _ _ (p4 _ _ (p3 _ _ (by rw[e2];exact aU _ rfl)))
 have g1:h5.get? s1.heap.objs.size=some {cls:=.type (iB c1),data:=.fields #[.ref l1,.int 0 0]}:=p5 _ _ (p4 _ _ (p3 _ _ (p2 _ _ (by rw[e1];exact aU _ rfl))))
 have Wt:∀{c:Bool} {it l:Addr} {xs:Array Value},h5.get? it=some {cls:=.type (iB c),data:=.fields #[.ref l,.int 0 0]}->fQ s1.heap l xs (iB c)->SI h5 it l 0 xs:=λ{c it l xs} e k=>by
  cases c with
  | true =>
   rcases k with⟨_,⟨o,eo,r⟩⟩ | ⟨k,_⟩
   ·exact .inl ⟨⟨_,e,rfl,rfl⟩,⟨o,pp _ _ eo,r⟩⟩
   ·exact absurd k (by decide)
  | false =>
   rcases k with⟨k,_⟩ | ⟨_,⟨o,eo,r⟩⟩
   ·exact absurd k (by decide)
   ·exact .inr ⟨⟨_,e,rfl,rfl⟩,⟨o,pp _ _ eo,r⟩⟩
 have Z:Zp h5 h4.objs.size h2.objs.size h3.objs.size s1.heap.objs.size h1.objs.size l1 l2 .none 0 ai.toArray b9.toArray:=⟨g5,g3,⟨_,_,g4⟩,Wt g1 Hl,Wt g2 NF,⟨by lia,by lia,by lia,by lia⟩,Po,Jf⟩
 refine⟨⟨_,g5,rfl⟩,?_⟩;have Yq:=NA.length;have Yr:=RY.length;have Za:=v1.length;have Zb:=v2.length;have UG:min ai.toArray.size b9.toArray.size=(List.zipWith dC ps qs).length:=by rw[List.length_zipWith,bK,bK];lia
 refine oQ (s:={s1 with heap:=h5,toks:=s1.toks}) hh UG.symm (cL wX) ⟨by lia,by lia,by lia⟩ Z λh' c' kp hS hp=>?_
 have hS:h'.get? h5.objs.size=some {cls:=.type "list",dict:=none,data:=.seq (ja (h5.objs.size+1) (List.zipWith dC ps qs).length) c',slots:=#[]}:=hS
 have I2:Inv X ae σ H1 {s1 with heap:=h',toks:=s1.toks}:=I1.kept λb o e=>by
  have hb:@LT.lt Nat _ b s1.heap.objs.size:=az e;exact kp b o (show @Ne Nat _ _ by lia) (show @Ne Nat _ _ by lia) (show @Ne Nat _ _ by lia) (show @Ne Nat _ _ by lia) (pp _ _ e)
 have fo:∀b,s1.heap.objs.size<=b->H1 b=none/\mS X ae H1 b:=λb hb=>⟨I1.hok.fresh hb,I1.rH hb (I1.hok.fresh hb)⟩
 obtain⟨Hn,Fn,In,Rn,sn,bn,nn⟩:=uQ s1.heap.objs.size (B:=h5.objs.size+1) (by lia) fo I1.sz I2 R1 v1 v2 NA RY hp _ (aq _)
 rw[qR]at bn;have Wu:Hn h5.objs.size=none:=nn _ (by lia) (.inl (by lia))
 obtain⟨_,f2,f3,Zc,f5,f6⟩:=(fo h5.objs.size (by lia)).2
 have I3:=Inv.adopt (D:=h5.objs.size) (o:=.lst ((List.range (List.zipWith dC ps qs).length).map λj=>V.ref (h5.objs.size+1+j))) In Wu (aL I1.sz (by lia)) f2 f5 f6
  ⟨by simp only[ah,fE];exact cL wX,(ja (h5.objs.size+1) (List.zipWith dC ps qs).length).toList,c',AJ _ _,by simpa using hS⟩
 exact⟨.ref h5.objs.size,_,I3,rfl,Tx.jS (Tx.mono hT sn λ_ _ z=>z) Rn Wu bn⟩
end
section
variable {X:Cx}
theorem sk{α:Type}(xs:List α):∀n:Nat,(List.replicate n xs).flatten.length=n*xs.length
 | 0=>by simp
 | n+1=>by rw[fZ,iP,cG,sk xs n,Nat.succ_mul,Nat.add_comm]
theorem su(ai:List Value):∀(m:Nat) (acc:List Value),List.foldl (λx1 x2=>x1++x2) acc.toArray (List.replicate m ai.toArray)=(acc++(List.replicate m ai).flatten).toArray
 | 0,acc=>by simp
 | m+1,acc=>by
  rw[fZ,mG,show acc.toArray++ai.toArray=(acc++ai).toArray by simp,su ai m,fZ,iP,mw]
theorem nQ{xs:List V}{ai:List Value}(r:Vals xs ai):∀n:Nat,Vals (List.replicate n xs).flatten (List.replicate n ai).flatten
 | 0=>.nil
 | n+1=>by rw[fZ,fZ,iP,iP];exact r.append (nQ r n)
theorem sv{K:W.Frag}{F:Fz}{ps:List PV}{vs:List V}(r:ao K F ps vs):∀n:Nat,ao K F (List.replicate n ps).flatten (List.replicate n vs).flatten
 | 0=>.nil
 | n+1=>by rw[fZ,fZ,iP,iP];exact r.append (sv r n)
def Qn(K:W.Frag):R2:=λx y H Q=>∃l k xs,x=.ref l/\y=.int k/\fJ K H l xs /\ -(2^63)<=k/\k<2^63/\xs.length*k.toNat<=sizeLine /\
 ∀p,H p=none->Q (.ref p) (bS H p (.lst (List.replicate k.toNat xs).flatten))
theorem HQ:OpR X (binaryOp .Mult) (Qn X.K):=by
 intro ae s σ H x y v u Q I rx ry h;obtain⟨l,k,xs,rfl,rfl,hH,h1,h2,hz,q⟩:=h;cases rx;obtain⟨t,rfl⟩:=ry;obtain⟨ai,n,r,e,z⟩:=I.jI hH;have hl:=r.length;have cS:ai.toArray.size*k.toNat<=sizeLine:=by rw[bK,<-hl];exact hz
 have UH:¬ai.toArray.size*k.toNat>(2^63-1)/8:=by
  have:(sizeLine:Nat)<=(2^63-1)/8:=by decide
  lia
 have O5:¬(!Builtin.List.listFitsIndex k)=true:=by
  rw[fitsIndex_both h1 h2];exact du
 have Qo:¬Builtin.List.listTooLong (ai.toArray.size*k.toNat)=true:=by
  rw[t6 cS];exact du
 have nJ:List.foldl (λx1 x2=>x1++x2) #[] (List.replicate (if ai.toArray.isEmpty=true then 0 else k.toNat) ai.toArray)=(List.replicate k.toNat ai).flatten.toArray:=by
  have f0:∀m:Nat,List.foldl (λx1 x2=>x1++x2) #[] (List.replicate m ai.toArray)=(List.replicate m ai).flatten.toArray:=λm=>by
   have:=su ai m [];rw[eJ]at this;exact this
  rw[f0];cases ai with
  | nil=>simp
  | cons a r'=>rw[if_neg (by simp)]
 refine wpAny_binaryOp_repeat_ref (T:="list") (U:="int") (by decide) ⟨_,e,rfl⟩ (λs'=>mK s' k t) noFill_list_mul F.fills_int_mul F.slot_int_rmul repeat_list F.slot_int_index.lookup
  (dh F.slot_int_rmul (mK s k t) F.entry_int_rmul (F.args_int_rmul_2 _ _) (int___rmul___int_list k t l ai.toArray n)
   ⟨e,rfl,⟨_,e,rfl⟩,dh F.slot_list_mul ⟨_,e,rfl⟩ F.entry_list_mul (F.args_list_mul_2 _ _) (AutoListH.list___mul___list_int_3 l ai.toArray n k t O5 UH Qo) ⟨e,?_⟩⟩)
 rw[nJ];exact⟨.ref _,_,I.KP (t':=s.toks) (nQ r k.toNat) (by rw[sk,Nat.mul_comm];exact hz),rfl,q _ I.fresh⟩
theorem AK:fillsNumberSlot (.type "tuple") "mul"=pure false:=PySem.fillsNumberSlot_seq (id:="tuple.__mul__") (r:=some (.builtin "tuple.__rmul__")) F.slot_tuple_mul.lookup (by decide +kernel) F.slot_tuple_rmul.lookup (by decide +kernel)
theorem Mu:seqRepeat? (.type "tuple")=pure (some (.builtin "tuple.__mul__")):=by
  unfold seqRepeat?;rw[PySem.seqSlot_of (T:="tuple") (name:="__mul__") (id:="tuple.__mul__") F.slot_tuple_mul.lookup (by decide +kernel),PySem.seqSlot_of (T:="tuple") (name:="__rmul__") (id:="tuple.__rmul__") F.slot_tuple_rmul.lookup (by decide +kernel)]
  rfl
theorem HR(a:Int)(t:Tok)(l:Addr)(items:Array Value)(n:Nat)(HB:Option Addr)(sl:Array (Option Value)) :
    Meets (Builtin.«int.__rmul__» ⟨[.int a t,.ref l],[]⟩) (λ_ R s=>s.heap.get? l=some {cls:=.type "tuple",dict:=HB,data:=.seq items n,slots:=sl}/\R (.ok (.ret Value.notImplemented)) s) :=
  .of_wp λprog w A R s h=>by
    obtain⟨hp,g,d,tk,os⟩:=s;obtain⟨hl,h⟩:=h
    wp_walk
    exact⟨_,rfl,h⟩
theorem Mv(l:Addr)(items:Array Value)(n:Nat)(u:Tok)(HB:Option Addr)(sl:Array (Option Value)) :
    Meets (Builtin.«tuple.__mul__» ⟨[.ref l,.int 1 u],[]⟩) (λ_ R s=>s.heap.get? l=some {cls:=.type "tuple",dict:=HB,data:=.seq items n,slots:=sl}/\R (.ok (.ret (.ref l))) s) :=
  .of_wp λprog w A R s h=>by
    obtain⟨hp,g,d,tk,os⟩:=s;obtain⟨hl,h⟩:=h
    wp_walk
    exact⟨_,rfl,h⟩
theorem HS(l:Addr)(items:Array Value)(n:Nat)(x:Int)(u:Tok)(HB:Option Addr)(sl:Array (Option Value))(h2:2<=x)(h3:x<=1000)(ne:items.isEmpty=false)(hz:items.size<=1000) :
    Meets (Builtin.«tuple.__mul__» ⟨[.ref l,.int x u],[]⟩) (λ_ R s=>s.heap.get? l=some {cls:=.type "tuple",dict:=HB,data:=.seq items n,slots:=sl}/\R (.ok (.ret (.ref s.heap.objs.size))) {s with heap:=s.heap.push {cls:=.type "tuple",data:=.seq (List.foldl (λx1 x2=>x1++x2) #[] (List.replicate x.toNat items))}}) :=
  .of_wp λprog w A R s h=>by
    obtain⟨hp,g,d,tk,os⟩:=s;obtain⟨hl,h⟩:=h;have hx:(items.size:Int)*x<=1000*1000:=by
      have h0:(0:Int)<=items.size:=Int.natCast_nonneg _;have h1:(items.size:Int)<=1000:=by lia
      exact Int.mul_le_mul h1 h3 (by lia) (by lia)
    have hsz:(List.foldl (λx1 x2=>x1++x2) #[] (List.replicate x.toNat items)).size<=sizeLine:=by
      rw[AutoListH.size_joined,iX];have h4:x.toNat*items.size<=1000*1000:=q9 (by lia) hz
      simp
      lia
    wp_walk
    refine mH (bf ?_) ?_
    · simp
      lia
    wp_walk
    refine mH (bf ?_) ?_
    · rw[ne]
      simp
      lia
    wp_walk
    refine mH (bf ?_) ?_
    · rw[ne]
      simp
      lia
    wp_walk
    refine mH (bf ?_) ?_
    · lia
    wp_walk
    refine mH (bf ?_) ?_
    · unfold Builtin.Tuple.tupleTooMany
      rw[iX];simp
      lia
    wp_walk
    exact⟨_,rfl,h⟩
theorem HU(l:Addr)(items:Array Value)(n:Nat)(u:Tok)(HB:Option Addr)(sl:Array (Option Value))(ne:items.isEmpty=false) :
  Meets (Builtin.«tuple.__mul__» ⟨[.ref l,.int 0 u],[]⟩) (λ_ R s=>s.heap.get? l=some {cls:=.type "tuple",dict:=HB,data:=.seq items n,slots:=sl}/\R (.ok (.ret (.ref s.heap.objs.size))) {s with heap:=s.heap.push {cls:=.type "tuple",data:=.seq #[]}}) :=
 .of_wp λprog w A R s h=>by
  obtain⟨hp,g,d,tk,os⟩:=s;obtain⟨hl,h⟩:=h
  wp_walk
  exact⟨_,rfl,h⟩
theorem Mw{xs:List PV}{j:Int}(h1:0<=j)(h2:j<=1000)(h3:1<=xs.length)(h4:xs.length<=100){ae:List (Addr×Obj)}{s:Shared}{σ τ:St}{H aa:Hp}{ab F:Fz}{st:bN}{x y:V}{v u:Value}{Q:V->Hp->Prop}(I:Inv X ae σ H s)(rx:RelV x v)(ry:RelV y u)(R:Rep X.K aa ab F st τ H)(ba:aS X.K F (.ak xs) x)(bb:aS X.K F (.int j) y)
    (k:∀v' H' F',Rep X.K aa ab F' st τ H'->Gr F F'->aS X.K F' (.ak (List.replicate j.toNat xs).flatten) v'->Q v' H'):wpAny (model X.prog X.w) X.A (binaryOp .Mult v u) (EP X ae σ Q) X.xe s:=by
  obtain⟨a,vs,rfl,ha,dU⟩:=aZ.mp ba;rw[au.mp bb]at ry;cases rx;obtain⟨t,rfl⟩:=ry;obtain⟨ai,r,pl,_⟩:=I.tuple (aO R.sub ha);obtain⟨⟨cls,dd,data,sl⟩,e,hc,n,hd⟩:=id pl;simp only at hc hd;subst hc hd;have hl:=r.length;have Zd:=dU.length;refine wpAny_binaryOp_repeat_ref (T:="tuple") (U:="int") (by decide) ⟨_,e,rfl⟩ (λs'=>mK s' j t) AK PySem.F.fills_int_mul PySem.F.slot_int_rmul Mu PySem.F.slot_int_index.lookup
    (dh PySem.F.slot_int_rmul (mK s j t) PySem.F.entry_int_rmul (PySem.F.args_int_rmul_2 _ _) (HR j t a ai.toArray n dd sl) ⟨e,rfl,⟨_,e,rfl⟩,?_⟩)
  have nt:ai.toArray.isEmpty=false:=by
    cases ai with
    | nil=>rw[qU]at hl;lia
    | cons _ _=>simp
  by_cases UI:j=0
  · subst UI
    refine dh vL ⟨_,e,rfl⟩ vE (vD _ _) (HU a ai.toArray n t dd sl nt) ⟨e,?_⟩;obtain⟨R2,s2⟩:=R.laid (.ak []) I.fresh;exact⟨.ref s.heap.objs.size,_,I.laid (t':=s.toks) (o:=.ak []) (λb ob q=>ax _ q) (aq _) ⟨eN _,[],.nil,lx.new _ _⟩,rfl,k _ _ _ R2 s2 (aZ.mpr ⟨_,_,rfl,ek.of ar,.nil⟩)⟩
  by_cases hj:j=1
  · subst hj
    refine dh vL ⟨_,e,rfl⟩ vE (vD _ _) (Mv a ai.toArray n t dd sl) ⟨e,?_⟩;refine⟨.ref a,H,I,rfl,k _ H F R (Gr.refl F) ?_⟩;simpa using ba
  · refine dh vL ⟨_,e,rfl⟩ vE (vD _ _) (HS a ai.toArray n j t dd sl (by lia) h2 nt (by rw[bK];lia)) ⟨e,?_⟩
    have nJ:List.foldl (λx1 x2=>x1++x2) #[] (List.replicate j.toNat ai.toArray)=(List.replicate j.toNat ai).flatten.toArray:=by
      have:=su ai j.toNat [];rw[eJ]at this;exact this
    rw[nJ];obtain⟨R2,s2⟩:=R.laid (.ak (List.replicate j.toNat vs).flatten) I.fresh;have cS:(List.replicate j.toNat vs).flatten.length<=sizeLine:=by
      rw[sk,iX];have:j.toNat*vs.length<=1000*100:=q9 (by lia) (by lia)
      lia
    exact⟨.ref s.heap.objs.size,_,I.laid (t':=s.toks) (o:=.ak (List.replicate j.toNat vs).flatten) (λb ob q=>ax _ q) (aq _) ⟨cS,_,nQ r j.toNat,lx.new _ _⟩,rfl,k _ _ _ R2 s2 (aZ.mpr ⟨_,_,rfl,ek.of ar,(sv dU j.toNat).mono s2⟩)⟩
def Mx{x':Str}{j:Int}(h1:2<=j)(h2:j<=100)(h3:1<=x'.length)(h4:x'.length<=100){ae:List (Addr×Obj)}{s:Shared}{σ τ:St}{H aa:Hp}{ab F:Fz}{st:bN}{x y:V}{v u:Value}{Q:V->Hp->Prop}(I:Inv X ae σ H s)(rx:RelV x v)(ry:RelV y u)(R:Rep X.K aa ab F st τ H)(ba:aS X.K F (.str x') x)(bb:aS X.K F (.int j) y)
 (k:∀v' H' F',Rep X.K aa ab F' st τ H'->Gr F F'->aS X.K F' (.str (Txt.mul x' j)) v'->Q v' H'):wpAny (model X.prog X.w) X.A (binaryOp .Mult v u) (EP X ae σ Q) X.xe s:=by
 rw[au.mp bb]at ry;rw[aX.mp ba]at rx;obtain⟨t,rfl⟩:=rx;obtain⟨t',rfl⟩:=ry;refine SB.mul ⟨by simp;lia,λ_ _=>?_,λ_ _=>?_⟩ λt' m=>⟨.str _,H,I.kept (t':=m) (λ_ _ e=>e),⟨t',rfl⟩,k _ H F R (Gr.refl F) (aX.mpr rfl)⟩
 ·have:100<=(2^63-1:Int)/j:=by
   rw[Int.le_ediv_iff_mul_le (by lia)]
   lia
  lia
 ·unfold Builtin.Str.tooLong;have:x'.length*j.toNat<=100*100:=q9 h4 (by lia)
  exact bf (Nat.not_lt.mpr (aL this (by decide)))
def UJ(h:List aj)(p:PV)(j:Int):Option (List PV):=(kH h p).bind λxs=>if(-1000<=j/\j<=1000/\xs.length<=100)then some (List.replicate j.toNat xs).flatten else none
def iD:G2:=λh p q=>match p,q with
 | .int i,.int j=>if((-oI<i/\i<oI)\/(-oI<j/\j<oI))then some (.int (i*j))else none
 | .nd .ak xs,.int j=>if(0<=j/\j<=1000/\1<=xs.length/\xs.length<=100)then some (.ak (List.replicate j.toNat xs).flatten)else none
 | .str x,.int j=>if(2<=j/\j<=100/\1<=x.length/\x.length<=100)then some (.str (Txt.mul x j))else none
 | p,.int j=>(UJ h p j).map .lst
 | _,_=>none
theorem My{xs:List PV}{vs:List V}{F:Fz}{j:Int}(h:-1000<=j/\j<=1000/\xs.length<=100)(b:ao X.K F xs vs):-(2^63)<=j/\j<2^63/\vs.length*j.toNat<=sizeLine:=by
 refine⟨by lia,by lia,?_⟩
 have:=b.length;rw[iX];have:vs.length*j.toNat<=100*1000:=q9 (by lia) (by lia)
 lia
theorem D0:oA X (binaryOp .Mult) iD:=by
 intro ae s σ H x y v u Q I rx ry ⟨aa,ab,F,st,τ,pa,pb,p,e,R,ba,bb,k⟩;unfold iD at e;split at e
 ·rename_i i j;obtain⟨hc,rfl⟩:=aw e;exact yC (op:=.Mult) (g:=La) rfl ae s σ H x y v u Q I rx ry ⟨aa,ab,F,st,τ,.int i,.int j,.int (i*j),(show(if decide ((-oI<i/\i<oI)\/(-oI<j/\j<oI))=true then some (PV.int (i*j))else none)=_ from if_pos (aW hc)),R,ba,bb,k⟩
 ·obtain⟨⟨h1,h2,h3,h4⟩,rfl⟩:=aw e;exact Mw h1 h2 h3 h4 I rx ry R ba bb k
 ·obtain⟨⟨h1,h2,h3,h4⟩,rfl⟩:=aw e;exact Mx h1 h2 h3 h4 I rx ry R ba bb k
 ·obtain⟨qs,e1,rfl⟩:=aI e;obtain⟨xs,e2,e1⟩:=aD e1;obtain⟨hc,rfl⟩:=aw e1;obtain⟨a,vs,rfl,ha,dU⟩:=R.at (cV e2) ba;obtain⟨c1,c2,c3⟩:=My hc dU;refine HQ ae s σ H _ y v u Q I rx ry ⟨a,_,vs,rfl,au.mp bb,ha,c1,c2,c3,λp hp=>?_⟩
  obtain⟨R2,s2⟩:=R.laid (.lst (List.replicate _ vs).flatten) hp;exact k _ _ _ R2 s2 (cg.mpr ⟨p,_,rfl,fJ.of ar,(sv dU _).mono s2⟩)
 ·cases e
def HV(op:Operator):Option G2:=match op with
 | .Mult=>some iD
 | op=>Ld op
theorem D1{op:Operator}{g:G2}(h:HV op=some g):oA X (binaryOp op) g:=by
 cases op<;>first | (cases h;exact D0) | exact yC h
end
def Wv(K:W.Frag)(c1 c2:Bool)(l1 l2:Addr):It where
 go:=λi H=>∃vs ws v w,oC K H c1 l1 vs/\oC K H c2 l2 ws/\vs[i]?=some v/\ws[i]?=some w
 yld:=λi H x H'=>∃T v w,H T=none/\x=.ref T/\H'=bS H T (.ak [v,w])/\∀vs ws,oC K H c1 l1 vs->oC K H c2 l2 ws->vs[i]?=some v/\ws[i]?=some w
 stop:=λi H=>∃vs ws,oC K H c1 l1 vs/\oC K H c2 l2 ws/\(vs.length<=i\/ws.length<=i)
def Ys(z TI TO i1 i2 l1 l2:Nat)(c1 c2:Bool)(i:Nat)(h:Heap):Prop:=IsZip h z TI TO .none/\IsPair h TI (.ref i1) (.ref i2)/\(∃a b,IsPair h TO a b)/\BA h c1 i1 l1 i/\BA h c2 i2 l2 i
theorem D2{P:Program}{w:World}{K:W.Frag}{elts:List Expr}{x1:Nat}{zV:Pos}{z TI TO i1 i2 l1 l2:Nat}{c1 c2:Bool}(ord:i1<i2/\i2<TI/\TI<TO/\TO<z)(o1:l1<i1)(o2:l2<i1) :
  Turn P w K (.Tuple elts x1 zV) (Wv K c1 c2 l1 l2) [z,TI,TO,i1,i2] z (Ys z TI TO i1 i2 l1 l2 c1 c2) where
 mem:=cb
 obj:=by
  rintro i h ⟨a1,a2,⟨_,_,a3⟩,a4,a5⟩ b hb
  simp only[aY,cx,cA]at hb;rcases hb with rfl | rfl | rfl | rfl | rfl
  ·exact⟨_,a1,λv=>by simp⟩
  ·exact⟨_,a2,λv=>by simp⟩
  ·exact⟨_,a3,λv=>by simp⟩
  ·exact a4.obj
  ·exact a5.obj
 keep:=λi h h' ⟨a1,a2,⟨p,q,a3⟩,a4,a5⟩ k=>⟨k z (by simp) _ a1,k TI (by simp) _ a2,⟨p,q,k TO (by simp) _ a3⟩,a4.at λo e=>k i1 (by simp) o e,a5.at λo e=>k i2 (by simp) o e⟩
 item:=by
  rintro X hP hw hK hc i ae s σ H E I hf ⟨a1,a2,a3,a4,a5⟩ ⟨vs,ws,v,w',hv,RZ,ev,ew⟩
  subst hP hw hK;obtain⟨ai,r1,k1⟩:=hv.get I;obtain⟨b9,r2,k2⟩:=RZ.get I;obtain⟨x,ex,rx⟩:=r1.get ev;obtain⟨y,ey,ry⟩:=r2.get ew;have Z:Zp s.heap z TI TO i1 i2 l1 l2 .none i ai.toArray b9.toArray:=⟨a1,a2,a3,pZ a4 k1,pZ a5 k2,ord,o1,o2⟩;have hT:s.TypeIs (.ref z) "zip":=⟨_,a1,rfl⟩;unfold pyNext;refine af (iT (d0 (name:=Str.ofString "__next__") hT d8 (d7 d8 hT kn
   (y9 Z (by simpa using ex) (by simpa using ey) λh' Z' Jw Pd kp=>ag ⟨_,rfl,?_⟩) (kf _))))
  refine wpAny_letOwnedTupleGo_zip Z'.hz λLB UK sb=>?_
  have Pk:∀b∈[z,TI,TO,i1,i2],b<s.heap.objs.size:=λb hb=>by
   simp only[aY,cx,cA]at hb;have h1:=az a1;have h2:z<s.heap.objs.size:=h1;obtain⟨q1,q2,q3,q4⟩:=ord;rcases hb with rfl | rfl | rfl | rfl | rfl<;>lia
  have zT:z≠s.heap.objs.size:=aJ (Pk z (by simp))
  have Pm:∀b o,b∉[z,TI,TO,i1,i2]->s.heap.get? b=some o->LB.get? b=some o:=λb o hb e=>by
   simp only[aY,cx,cA,not_or]at hb;exact sb.extBut _ _ hb.1 (kp b o hb.1 hb.2.2.1 hb.2.2.2.1 hb.2.2.2.2 e)
  have I1:Inv X ae σ H {s with heap:=LB,toks:=s.toks}:=Inv.turns I hf Pm
  have hn:H s.heap.objs.size=none:=I.fresh;have Hg:=I.rH (H':=H) (aq _) hn;have pr:IsPair LB s.heap.objs.size x y:=sb.extBut _ _ (bA zT) Jw;have I2:=Inv.adopt (D:=s.heap.objs.size) (o:=.ak [v,w']) I1 hn (by
    rcases Hg.2.2.2.1 with q | q
    ·exact I.sz
    ·exact q) Hg.2.1 Hg.2.2.2.2.1 Hg.2.2.2.2.2 ⟨(by show 2<=sizeLine;decide),[x,y],.cons rx (.cons ry .nil),⟨_,pr,rfl,⟨0,rfl⟩,rfl⟩⟩
  refine⟨.ref s.heap.objs.size,_,I2,rfl,⟨s.heap.objs.size,v,w',hn,rfl,rfl,λuq X4 h1 h2=>?_⟩,⟨UK,sb.extBut _ _ (by first | exact nl (by lia) | exact ng (by lia)) Z'.hTI,?_,?_,?_⟩,λb hb=>?_⟩
  ·rw[<-oC.inj I hv h1,<-oC.inj I RZ h2];exact⟨ev,ew⟩
  ·obtain⟨p,q,e⟩:=Z'.hTO;exact⟨p,q,sb.extBut _ _ (by first | exact nl (by lia) | exact ng (by lia)) e⟩
  ·have q:=sd (k':=i) Z'.s1 k1 λo e=>kp l1 o (by first | exact nl (by lia) | exact ng (by lia)) (by first | exact nl (by lia) | exact ng (by lia)) (by first | exact nl (by lia) | exact ng (by lia)) (by first | exact nl (by lia) | exact ng (by lia)) e
   exact q.at λo e=>sb.extBut _ _ (by first | exact nl (by lia) | exact ng (by lia)) e
  ·have q:=sd (k':=i) Z'.s2 k2 λo e=>kp l2 o (by first | exact nl (by lia) | exact ng (by lia)) (by first | exact nl (by lia) | exact ng (by lia)) (by first | exact nl (by lia) | exact ng (by lia)) (by first | exact nl (by lia) | exact ng (by lia)) e
   exact q.at λo e=>sb.extBut _ _ (by first | exact nl (by lia) | exact ng (by lia)) e
  ·rw[aF (aJ (Pk b hb))];exact(hf b hb).1
 done:=by
  rintro X hP hw hK hc i ae s σ H E I hf ⟨a1,a2,a3,a4,a5⟩ ⟨vs,ws,hv,RZ,he⟩
  subst hP hw hK;obtain⟨ai,r1,k1⟩:=hv.get I;obtain⟨b9,r2,k2⟩:=RZ.get I;have Z:Zp s.heap z TI TO i1 i2 l1 l2 .none i ai.toArray b9.toArray:=⟨a1,a2,a3,pZ a4 k1,pZ a5 k2,ord,o1,o2⟩;have hT:s.TypeIs (.ref z) "zip":=⟨_,a1,rfl⟩;have uN:ai.toArray[i]?=none\/b9.toArray[i]?=none:=by
   rcases he with q | q
   ·exact .inl (iJ (by rw[bK,<-r1.length];exact q))
   ·exact .inr (iJ (by rw[bK,<-r2.length];exact q))
  unfold pyNext;refine af (iT (d0 (name:=Str.ofString "__next__") hT d8 (d7 d8 hT kn (DY (I.ok.hd hc) Z uN λh' e kp ⟨o,ho,hcl⟩=>?_) (kf _))))
  refine af (qT (T:="StopIteration") (b:=true) ⟨o,ho,hcl⟩ q8 (ag ⟨rfl,?_⟩));exact Inv.turns (t':=s.toks) I hf λb o hb e=>by
   simp only[aY,cx,cA,not_or]at hb;exact kp b o hb.1 hb.2.2.1 hb.2.2.2.1 hb.2.2.2.2 e
 self:=λA i s Q E ⟨a1,_⟩ q=>vZ a1 q
theorem D3{K:W.Frag}{F:Fz}{c1 c2:Bool}{l1 l2:Addr}{ps qs:List PV}{vs ws:List V}(k1:∀F',bQ F.F F'->oC K F' c1 l1 vs)(k2:∀F',bQ F.F F'->oC K F' c2 l2 ws)(b1:ao K F ps vs)(b2:ao K F qs ws):Walk K F (List.zipWith dC ps qs) (Wv K c1 c2 l1 l2):=by
 intro aa ab F' ρ σ H R s i;have h1:=k1 H (s.s.trans R.sub);have h2:=k2 H (s.s.trans R.sub);refine⟨λp e=>?_,λe=>?_⟩
 ·rw[List.getElem?_zipWith]at e;cases z1:ps[i]? with
  | none=>rw[z1]at e;cases e
  | some p1 =>
   cases z2:qs[i]? with
   | none=>rw[z1,z2]at e;cases e
   | some p2 =>
    rw[z1,z2]at e;cases e;obtain⟨v,e1,LC⟩:=b1.get z1;obtain⟨w,e2,Yt⟩:=b2.get z2;refine⟨⟨vs,ws,v,w,h1,h2,e1,e2⟩,λx H' ⟨T,v',w',hn,hx,hH,t8⟩=>?_⟩
    obtain⟨g1,g2⟩:=t8 vs ws h1 h2;rw[e1]at g1;rw[e2]at g2;cases g1;cases g2;subst hx hH;obtain⟨R2,s2⟩:=R.laid (.ak [v,w]) hn;exact⟨_,R2,s2,aZ.mpr ⟨T,[v,w],rfl,ek.of ar,.cons (LC.mono (s.trans s2)) (.cons (Yt.mono (s.trans s2)) .nil)⟩⟩
 ·refine⟨vs,ws,h1,h2,?_⟩;have:=eF.mp e;rw[List.length_zipWith,b1.length,b2.length]at this
  lia
section
variable {X:Cx} {aa:Hp} {ab:Fz} {a b tg:Expr} {fa fb:Gx PV} {pos p:Pos}
def UL(p q:PV):Option (List PV):=(lF p).bind λps=>(lF q).map λqs=>List.zipWith dC ps qs
def Mz(fa fb:Gx PV):Gx (List PV):=bnd fa λp=>bnd fb λq=>ez (UL p q)
theorem Qp(ht:yP tg=true)(hg:Gl X "zip")(hm:X.mg "zip"=none)(ha:PE X a (tE X aa ab fa))(hb:PE X b (tE X aa ab fb))(hs:starEach [a,b] X.env=(false,eval a X.env)::starEach [b] X.env)(vx:starEach [b] X.env=[(false,eval b X.env)]) :
  PI X tg (.Call (.Name "zip" p) [a,b] [] pos) (tI X aa ab (Mz fa fb)):=by
 rintro ae s σ H R I ⟨F,st,Rp,h⟩
 have hA:=fx ha (fx hb mW vx) hs pos ae s σ H (λvs H'=>∃F' bB x y pa pb ps qs,vs=[x,y]/\Rep X.K aa ab F' bB σ H'/\aS X.K F' pa x/\aS X.K F' pb y/\lF pa=some ps/\lF pb=some qs/\∀b Pn CY,Rep X.K aa ab CY bB σ Pn->Gr F' CY->Walk X.K CY (List.zipWith dC ps qs) b->R b Pn) I
  ⟨F,st,Rp,h.bnd λp v F1 aH H1 R1 g1 b1 h1=>⟨F1,aH,R1,h1.bnd λq w F2 da H2 R2 g2 b2 h2=>by
   obtain⟨o,e,z⟩:=h2.ez;obtain⟨ps,e1,e⟩:=aD e;obtain⟨qs,e2,rfl⟩:=aI e;exact⟨F2,da,v,w,p,q,ps,qs,rfl,R2,b1.mono g2,b2,e1,e2,z⟩⟩⟩
 refine Call_ (ld_blt I hg hm boot_zip (dD (thn hA λus s1 z9=>?_) hs (by rw[vx];rfl)))
 obtain⟨vs,H1,I1,r1,F1,aH,x,y,pa,pb,ps,qs,ev,R1,b1,b2,f3,f4,q⟩:=z9;subst ev;obtain⟨u1,u2,rfl,LD,Qd⟩:=yp r1;obtain⟨c1,l1,Wf,rfl,q1,NA,k1⟩:=hJ f3 b1;obtain⟨c2,l2,Yp,rfl,q2,RY,k2⟩:=hJ f4 b2;cases LD;cases Qd;obtain⟨ai,v1,Hl⟩:=(k1 H1 R1.sub).get I1;obtain⟨b9,v2,NF⟩:=(k2 H1 R1.sub).get I1;have lt:∀{l:Addr} {xs:Array Value} {c:String},fQ s1.heap l xs c->l<s1.heap.objs.size:=λh=>by
  rcases h with⟨_,⟨o,e,_⟩⟩ | ⟨_,⟨o,e,_⟩⟩
  ·exact az e
  ·exact az e
 have Po:=lt Hl;have Jf:=lt NF;refine callType_new PySem.F.called_zip (by decide) (PySem.F.typeCall_zip_2 _ _) (PySem.F.newCall_zip_2 _ _) (λobj=>BM obj _ _) PySem.F.entry_zip_new (uO l1 l2 ai.toArray b9.toArray (iB c1) (iB c2)) ⟨Hl,NF,λh1 h2 h3 h4 e1 e2 e3 e4=>?_⟩
 have z1:h1.objs.size=s1.heap.objs.size+1:=by rw[e1];exact cy ..
 have z2:h2.objs.size=s1.heap.objs.size+2:=by rw[e2,cy,z1]
 have z3:h3.objs.size=s1.heap.objs.size+3:=by rw[e3,cy,z2]
 have z4:h4.objs.size=s1.heap.objs.size+4:=by rw[e4,cy,z3]
 generalize e5:h4.push {cls:=.type "zip",data:=.fields #[.none,.bool false,.bool false,.ref h2.objs.size,.ref h3.objs.size]}=h5
 have p1:∀b o,s1.heap.get? b=some o->h1.get? b=some o:=λb o e=>by rw[e1];exact ax _ e
 have p2:∀b o,h1.get? b=some o->h2.get? b=some o:=λb o e=>by rw[e2];exact ax _ e
 have p3:∀b o,h2.get? b=some o->h3.get? b=some o:=λb o e=>by rw[e3];exact ax _ e
 have p4:∀b o,h3.get? b=some o->h4.get? b=some o:=λb o e=>by rw[e4];exact ax _ e
 have p5:∀b o,h4.get? b=some o->h5.get? b=some o:=λb o e=>by rw[<-e5];exact ax _ e
 have g5:IsZip h5 h4.objs.size h2.objs.size h3.objs.size .none:=by rw[<-e5];exact aU _ rfl
 have g4:IsPair h5 h3.objs.size .none .none:=p5 _ _ (by rw[e4];exact aU _ rfl)
 have g3:IsPair h5 h2.objs.size (.ref s1.heap.objs.size) (.ref h1.objs.size):=p5 _ _ (p4 _ _ (by rw[e3];exact aU _ rfl))
 have g2:h5.get? h1.objs.size=some {cls:=.type (iB c2),data:=.fields #[.ref l2,.int 0 0]}:=p5 _ _ (p4 _ _ (p3 _ _ (by rw[e2];exact aU _ rfl)))
 have g1:h5.get? s1.heap.objs.size=some {cls:=.type (iB c1),data:=.fields #[.ref l1,.int 0 0]}:=p5 _ _ (p4 _ _ (p3 _ _ (p2 _ _ (by rw[e1];exact aU _ rfl))))
 have Ww:∀{c:Bool} {it l:Addr},h5.get? it=some {cls:=.type (iB c),data:=.fields #[.ref l,.int 0 0]}->BA h5 c it l 0:=λ{c it l} e=>by
  cases c with
  | true=>exact(show h5.IsListIter it l 0 from⟨_,e,rfl,rfl⟩)
  | false=>exact(show h5.IsTupleIter it l 0 from⟨_,e,rfl,rfl⟩)
 have I2:Inv X ae σ H1 {s1 with heap:=h5,toks:=s1.toks}:=I1.kept λb o e=>p5 _ _ (p4 _ _ (p3 _ _ (p2 _ _ (p1 _ _ e))))
 have jw:∀b,s1.heap.objs.size<=b->H1 b=none:=λb hb=>I1.hok.fresh hb
 refine⟨⟨_,g5,rfl⟩,?_⟩;show wpAny _ _ (pyIter (.ref h4.objs.size)) _ _ {s1 with heap:=h5,toks:=s1.toks}
 refine vZ g5 ?_;cases tg with
 | Tuple elts x1 zV =>
  refine⟨h4.objs.size,[h4.objs.size,h2.objs.size,h3.objs.size,s1.heap.objs.size,h1.objs.size],_,_,H1,rfl,I2,D2 (TI:=h2.objs.size) (TO:=h3.objs.size) (i1:=s1.heap.objs.size) (i2:=h1.objs.size) (l1:=l1) (l2:=l2) (c1:=c1) (c2:=c2) ⟨by lia,by lia,by lia,by lia⟩ Po Jf,⟨g5,g3,⟨_,_,g4⟩,Ww g1,Ww g2⟩,λb hb=>?_,q _ H1 F1 R1 (Gr.refl _) (D3 k1 k2 NA RY)⟩
  simp only[aY,cx,cA]at hb;have Pp:s1.heap.objs.size<=b:=by rcases hb with rfl | rfl | rfl | rfl | rfl<;>lia
  have fo:=I1.rH (H':=H1) Pp (jw b Pp);exact fo
 | _=>cases ht
end
end L2.U
namespace PySem
open PyProof.Rows
def kQ(l:List Str)(v:Str):List Str:=if l.any (· == v)=true then l else l++[v]
theorem D4(l:List Str)(v k:Str):(l.any (· == k) || decide (k=v))=(kQ l v).any (· == k):=by
 unfold kQ;by_cases hk:k=v
 ·subst hk;split
  ·rename_i hc;rw[hc];simp
  ·simp
 ·have:(v==k)=false:=by simpa using bA hk
  split<;>simp[hk,this]
theorem uR(l:List Str)(v:Str):(if l.any (· == v)=true then l.length else l.length+1)=(kQ l v).length:=by
 unfold kQ;split<;>simp
def nR(val:Nat->Str):Nat->List Str
 | 0=>[]
 | i+1=>kQ (nR val i) (val i)
def nS(val:Nat->Str):∀i,(nR val i).length<=i
 | 0=>aq _
 | i+1=>by
  have:=nS val i;unfold nR;rw[<-uR];split<;>lia
section
variable {prog:Program} {w:World} {A:Around} {R:Result->Shared->Prop} {I:Addr} {fp wr:List Addr} {G:Array GenState->Array GenState->Prop} {n:Nat} {P:Nat->Value->Prop} {St:Nat->Shared->Prop}
abbrev AL(prog:Program)(w:World)(h:Heap)(S:Addr)(ks:List Str):Prop:=h.SetOf (strKind prog w) S (λk=>ks.any (· == k)) ks.length
def AM(W:WalksS prog w A.in1 I fp wr G n P St)(S:Addr)(hSf:S∉fp)(val:Nat->Str)(xk:∀i v,P i v->∃t,v=.str (val i) t)(hn:n<=1000) :
  ∀(k i:Nat) (s:Shared),n-i=k->i<=n->St i s->AL prog w s.heap S (nR val i) ->
   (∀s',Moved (S::wr) G s s'->AL prog w s'.heap S (nR val n)->R (.ok (.ret .none)) s') ->
   codeAny (model prog w) A (.builtin "set.update.loop" ⟨[.ref S,.ref I],[]⟩) R s:=by
 have P5:S∉wr:=λh=>hSf (W.sub _ h)
 have se:∀b∈wr,b∈S::wr:=by grind
 intro k;induction k with
 | zero =>
  intro i s hk hi jr hS hR;have L5:i=n:=by lia
  subst L5;refine gP F.entry_set_update_loop ?_;rw[iL vG _];refine af (W.done s _ _ jr λs' hm=>?_)
  exact ag (hR s' (hm.mono se) (by
   obtain⟨o,es,ep,t,ho,rest⟩:=hS;exact⟨o,es,ep,t,hm.heap S _ P5 ho,rest⟩))
 | succ k ih =>
  intro i s hk hi jr hS hR;have ux:i<n:=by lia
  refine gP F.entry_set_update_loop ?_;rw[iL vG _];refine af (W.item i s _ _ ux jr λv s' hP DQ hm=>?_)
  obtain⟨t,rfl⟩:=xk i v hP;have vz:AL prog w s'.heap S (nR val i):=by
   obtain⟨o,es,ep,t,ho,rest⟩:=hS;exact⟨o,es,ep,t,hm.heap S _ P5 ho,rest⟩
  refine af (cz ?_);unfold setAdd;refine cz ?_;refine af ((strKind prog w).pyHash (mJ _ _ _ _) ?_);have Mq:=nS val i;have Yu:scanBound=4096:=rfl;refine wpAny_setAddHashed_of (mJ _ _ _ _) rfl vz (by lia) λh' NC UD=>?_
  have Yv:AL prog w h' S (nR val (i+1)):=by
   exact SetOf_congr UD (λk'=>D4 _ _ _) (uR _ _)
  refine ag ⟨iV vG _,ih (i+1) _ (by lia) ux (W.frame _ s' _ _ DQ (Nat.le_succ _) λb hb o e=>?_) Yv λKC L6 L7=>?_⟩
  ·rw[NC.2 b (λh:b=S=>hSf (by grind))];exact e
  ·refine hR KC (Moved.trans W.gtrans ((hm.mono se).then_heap (Nat.le_succ _) λb o hb e=>?_) L6) L7
   rw[NC.2 b (λh:b=S=>hb (by grind))];exact e
end
section
variable {prog:Program} {w:World} {A:Around} {E:Value->Shared->Prop} {s:Shared}
set_option maxHeartbeats 3200000 in
theorem AN(hh:A.handled=none)(hl:s.heap.IsList l items)(val:Nat->Str)(hi:∀(i:Nat) (v:Value),items[i]?=some v->∃t,v=.str (val i) t)(hb:items.size<=1000)
  (h:∀(h':Heap) (tk:Nat),AL prog w h' s.heap.objs.size (nR val items.size)->(∀b o,b<s.heap.objs.size->s.heap.get? b=some o->h'.get? b=some o)->Q (.ref s.heap.objs.size) {s with heap:=h',toks:=tk}) :
  wpAny (model prog w) A (call (.type "set") [.ref l]) Q E s:=by
 obtain⟨c,tl,Yw⟩:=F.called_set.mro;have Wx:=F.called_set.made;have se:=F.called_set.sub;refine wpAny_call (codeAny_of_tree ?_);refine ag ⟨Code.quiet_builtin _ (by decide +kernel),gP F.entry_type_call ?_⟩
 rw[Around.under_plain (weight_type_call_type "set" [.ref l] []) rfl];have h1:=F.called_set.notType;have h2:=F.called_set.canCreate;have hct:=F.typeCall_set_1 (.ref l)
 repeat (any_goals (first | assumption | wp_step))
 refine ku (oO (.ref l) (E:=E) (Q₁:=λobj s₁=>obj=.ref s.heap.objs.size/\s₁={s with heap:=s.heap.push {cls:=.type "set",dict:=none,data:=.set #[] 0 (.fresh 0 0 (!BT w))}}) ⟨rfl,rfl⟩) λr s₁ hr=>?_
 cases r with
 | error e=>exact hr
 | ok fl =>
  cases fl with
  | ret obj =>
   obtain⟨rfl,rfl⟩:=hr;obtain⟨led,UM⟩:∃led,led = !BT w:=⟨_,rfl⟩
   rw[<-UM];have hS:(s.heap.push {cls:=.type "set",dict:=none,data:=.set #[] 0 (.fresh 0 0 led)}).get? s.heap.objs.size=some {cls:=.type "set",dict:=none,data:=.set #[] 0 (.fresh 0 0 led)}:=aU _ rfl
   have hT:Shared.TypeIs {s with heap:=s.heap.push {cls:=.type "set",dict:=none,data:=.set #[] 0 (.fresh 0 0 led)}} (.ref s.heap.objs.size) "set":=⟨_,hS,rfl⟩
   have Ze:=F.called_set.init.lookup;have Zf:=F.called_set.init.bind (.ref s.heap.objs.size)
   repeat (any_goals (first | assumption | wp_step))
   refine ku (codeAny_call_builtin (R:=wants (λr zM=>r=.none/\∃h' tk,zM={s with heap:=h',toks:=tk} /\
     AL prog w h' s.heap.objs.size (nR val items.size) /\
     (∀b o,b<s.heap.objs.size->s.heap.get? b=some o->h'.get? b=some o)) E) F.called_set.init.plain F.entry_set_init (check_set_init_1 hT ?_)) λUN zM D5=>?_
   ·obtain⟨ol,nA,hcl,nl,Ji⟩:=hl;obtain⟨Um,Jp,P4,DP⟩:=ol;simp only at hcl Ji;subst hcl;subst Ji;have UO:(s.heap.push {cls:=.type "set",dict:=none,data:=.set #[] 0 (.fresh 0 0 led)}).get? l=some {cls:=.type "list",dict:=Jp,data:=.seq items nl,slots:=DP}:=ax _ nA
    have Yx:=F.sub_list_set;have Yy:=F.sub_list_frozenset;have hne:(Value.type "list"==Value.type "dict")=false:=by decide
    have Mq:(s.heap.push {cls:=.type "set",dict:=none,data:=.set #[] 0 (.fresh 0 0 led)}).IsList l items:=⟨_,UO,rfl,nl,rfl⟩
    unfold Builtin.«set.__init__» noKeywords Builtin.Frozenset.updateFrom
    generalize Yz:pyIter=PI
    wp_walk
    subst Yz;refine kh Mq ?_;refine af (wpAny_runValue ?_);have L8:l<s.heap.objs.size:=az nA;refine AM ((Walks.list (by simp[hh]) _ l (by rw[cy];exact aJ (Nat.lt_succ_of_lt L8)) items).toS) s.heap.objs.size (by
     rw[cy];simp only[aY,b6,cx,cA,not_or];exact⟨aJ (kj _),kr L8⟩) val hi hb (items.size-0) 0 _ (by lia) (eN _)
     ⟨⟨_,aU _ rfl,rfl,rfl⟩,(Mq.push _)⟩ ?YA ?hR
    case YA =>
     exact PySem.Obj.SetObjOf.setOf (setObjOf_fresh (knd:=strKind prog w) led) (ax _ hS) (show(0:Nat)<scanBound by decide)
    case hR =>
     intro s' hm vz;obtain⟨h',g',d',DR,Gi⟩:=s';have eg:g'=s.gens:=hm.gens;have ed:d'=s.drawn:=hm.drawn;have eo:Gi=s.os:=hm.os;subst eg;subst ed;subst eo;show wpAny _ _ _ _ _ _;refine ag ?_;show wpAny _ _ (ret Value.none) _ _ _;refine ag ⟨rfl,h',DR,rfl,vz,λb o hb e=>?_⟩
     have Mb:b≠s.heap.objs.size:=by grind
     have RW:b≠(s.heap.push {cls:=.type "set",dict:=none,data:=.set #[] 0 (.fresh 0 0 led)}).objs.size:=by
      rw[cy];exact aJ (Nat.lt_succ_of_lt hb)
     exact hm.heap b o (by grind) (ax _ (ax _ e))
   ·cases UN with
    | error e=>exact D5
    | ok Qq =>
     cases Qq with
     | ret r =>
      obtain⟨rfl,h',tk,rfl,vz,YB⟩:=D5
      repeat (any_goals (first | assumption | wp_step))
      exact h _ _ vz YB
     | _=>exact D5.elim
  | _=>exact hr.elim
end
end PySem
namespace L2.U
open PySem PySem.Spec PyProof.Rows
def AO(ks:List Str):List Str:=ks.foldl kQ []
def D6:PV->Option PV
 | .nd .lst ps=>if ps.length<=1000 then(aQ uC ps).map λks=>.int ((AO ks).length:Nat)else none
 | _=>none
def MA(fa:Gx PV):Gx PV:=bnd fa λp=>ez (D6 p)
theorem nT(ks:List Str):∀i,i<=ks.length->nR (λi=>ks.getD i ⟨#[]⟩) i=(ks.take i).foldl kQ []
 | 0,_=>by simp[nR]
 | i+1,h=>by
  rw[List.take_add_one,List.foldl_append,<-nT ks i (by lia)]
  have:ks[i]?=some (ks[i]'(by lia)):=bF _
  rw[this];show kQ _ (ks.getD i ⟨#[]⟩)=kQ _ _;rw[List.getD,this];rfl
theorem nU{α β:Type}{f:α->Option β}:∀{ps:List α} {ks:List β},aQ f ps=some ks->ks.length=ps.length
 | [],_,h=>by cases h;rfl
 | p::ps,ks,h=>by
  obtain⟨k,r,h1,h2,rfl⟩:=cu h;rw[bX,bX,nU h2]
theorem zd{α β:Type}{f:α->Option β}:∀{ps:List α} {ks:List β},aQ f ps=some ks->∀(i:Nat) (p:α),ps[i]?=some p->∃k,ks[i]?=some k/\f p=some k
 | [],_,h,i,p,e=>by cases e
 | q::ps,ks,h,i,p,e=>by
  obtain⟨k,r,h1,h2,rfl⟩:=cu h;cases i with
  | zero=>cases e;exact⟨k,rfl,h1⟩
  | succ i=>exact zd h2 i p e
section
variable {X:Cx} {aa:Hp} {ab:Fz} {e:Expr} {fe:Gx PV} {pos p nE zp:Pos}
def MB(hh:X.A.handled=none)(Md:Gl X "len")(Me:X.mg "len"=none)(hg:Gl X "set")(hm:X.mg "set"=none)(he:PE X e (tE X aa ab fe))(hs:starEach [e] X.env=[(false,eval e X.env)]) :
  PE X (.Call (.Name "len" p) [.Call (.Name "set" zp) [e] [] nE] [] pos) (tE X aa ab (MA fe)):=by
 rintro ae s σ H Q I ⟨F,st,R,h⟩
 refine Call_ (ld_blt I Md Me PySem.boot_len ?_);refine BF (nF rfl ?_) rfl rfl;have hA:=he ae s σ H (λv H1=>∃n ps vs ks c F1 aH,v=.ref c/\Rep X.K aa ab F1 aH σ H1/\fJ X.K F1.F c vs/\ao X.K F1 ps vs/\ps.length<=1000/\aQ uC ps=some ks/\n=(AO ks).length/\Q (.int (n:Nat)) H1) I
  ⟨F,st,R,h.bnd λq v F1 aH H1 R1 g1 b1 h1=>by
   obtain⟨o,e,z⟩:=h1.ez;unfold D6 at e;split at e
   ·rename_i ps;obtain⟨hl,e⟩:=bt e;obtain⟨ks,e1,rfl⟩:=aI e;obtain⟨c,vs,rfl,hs,hb⟩:=cg.mp b1;exact⟨_,ps,vs,ks,c,F1,aH,rfl,R1,hs,hb,hl,e1,rfl,z _ _ _ R1 (Gr.refl _) (au.mpr rfl)⟩
   ·cases e⟩
 refine Call_ (ld_blt I hg hm (show bootBuiltins "set"=some (.type "set") by decide +kernel) (dD (nF hs (thn hA λu s1 ⟨v,H1,I1,r1,n,ps,vs,ks,c,F1,aH,ev,R1,Mq,b1,hl,hk,hn,q⟩=>?_)) hs rfl))
 subst ev;cases r1;obtain⟨ai,r,pl,_⟩:=I1.list (fM R1.sub Mq).sq;have cS:ai.length=ps.length:=by rw[<-r.length,b1.length]
 have Wy:=nU hk;have hsz:ai.toArray.size=ks.length:=by rw[bK,cS,Wy]
 refine AN (items:=ai.toArray) hh pl.isList (λi=>ks.getD i ⟨#[]⟩) (λi v hv=>?_) (by rw[hsz,Wy];exact hl) λh' tk hS kp=>?_
 ·rw[kc]at hv;have hi:i<ps.length:=by rw[<-cS];exact(cw.mp hv).1
  obtain⟨k,e1,e2⟩:=zd hk i _ (bF hi);obtain⟨x,hx,bx⟩:=b1.get (bF hi);rw[ix e2]at bx;cases aX.mp bx;obtain⟨u,hu,t,ru⟩:=r.get hx;rw[hv]at hu;cases hu;refine⟨t,?_⟩;rw[ru,List.getD,e1];rfl
 ·rw[hsz,nT ks _ (aq _),qR]at hS;have I2:Inv X ae σ H1 {s1 with heap:=h',toks:=tk}:=I1.kept λb o e=>kp b o (az e) e
  obtain⟨o,es,ep,t,ho,TN,hd,Zg,YC,hb,hf,Om⟩:=hS;have RO:(AO ks).length<=1000:=by
   have:=nS (λi=>ks.getD i ⟨#[]⟩) ks.length
   rw[nT ks _ (aq _),qR]at this;unfold AO
   lia
  refine call_len_set ho TN hd hf (by rw[Om];unfold AO at RO;have Zh:(2:Int)^63=9223372036854775808:=(by decide);lia) ?_
  refine⟨.int es.size,H1,I2.tok _,⟨_,rfl⟩,?_⟩;rw[Om];rw[hn]at q;exact q
end
structure Gm where
 sc:List (Str×NameKind)
 N:List Str
 own:Bool
 fns:List (Str×Nat)
 call:Str->lG
 cons:List (Str×PV)
 bY:List Str
 tabs:List (Str×List (Str×Str))
 cK:List (Str×List (Str×PV))
 cls:List (Str×Nat)
 make:Str->lG
 clss:List Str
 flds:List Str
 /-- what UP in a cell: 1 a list,2 a list of cells,10 a dict IH keys Sj tuples -/
 NR:List (Str×Nat)
 D7:Option ((PV->Gx PV)->Nat->lG)
 D8:Option (Nat×(PV->Gx PV))
def slot(Γ:Gm)(x:Str):Option Nat:=Γ.N.findIdx? (· == x)
def FY(Γ:Gm)(x:Str):Bool:=match Γ.sc.lookup x with | some .local=>true | some .cell=>true | some .free=>true | _=>false
def NG(Γ:Gm)(x:Str):Bool:=match Γ.sc.lookup x with | some .local=>true | some .cell=>Γ.own | _=>false
def oR(Γ:Gm)(x:Str):Bool:=match Γ.sc.lookup x with | some .globalImplicit=>true | _=>false
def ej(x:Str):Bool:=!(x==("__debug__":Str))&&!(x==("__classdict__":Str))&&!(x==("__name__":Str))
def md(Γ:Gm)(x:Str):Nat:=(Γ.NR.lookup x).getD 0
def AQ(m:Nat):Nat:=if m<10 then m-1 else 0
def Qr(X:Cx)(k:Nat)(fns:List (Str×Nat))(call:Str->lG):Prop:=∀x n,fns.lookup x=some n->∃j f fd ps,j<=k/\FnOk X.prog X.w X.K X.mg X.base (js X.prog X.w) j f fd ps (Ax X.K n (call x))/\X.mg x=some (.ref f)/\W.keepIn X.K (.ref f)=true/\eO X.K fd ps []
structure Jx (Γ:Gm) (X:Cx) (rs:(PV->Gx PV)->Nat->lG):Prop where
 ex:∃(st:Stmt) (fs:Addr) (Wz:FuncData) (pr Ns:List Str) (k:Nat) (rb:(PV->Gx PV)->Nat->Gx dN),rs=(λω n=>gE (rb ω n) Ns.length)/\zA X.K "spread" "spread" st fs Wz/\X.mg "spread"=some (.ref fs)/\eO X.K Wz pr []/\cQ Ns pr (ay st)/\pr.length=2/\dw (k+2) X.A /\
  (∀(dQ:Value) (A:Around) (aB:List Env) (s:Shared) (H:Hp) (E:XK) (aa:Hp) (ab:Fz) (n:Nat) (ω:PV->Gx PV),dw (k+1) (A.deeper (envOfC "spread" (ay st) s.heap.objs.size fs dQ))->DO (eQ (js X.prog X.w) X.prog X.w X.K X.mg X.base Ns "spread" (ay st) fs dQ A aB s H E) aa ab n ω ->
   PSs (eQ (js X.prog X.w) X.prog X.w X.K X.mg X.base Ns "spread" (ay st) fs dQ A aB s H E) (cR st) (tS (eQ (js X.prog X.w) X.prog X.w X.K X.mg X.base Ns "spread" (ay st) fs dQ A aB s H E) aa ab (rb ω n))) /\
  Qr X k Γ.fns Γ.call
 lam:P1 X
structure GOk (Γ:Gm) (X:Cx) (aa:Hp) (ab:Fz):Prop where
 names:X.env.scope.names=Γ.sc
 N:X.N=Γ.N
 nd:X.N.Nodup
 kind:X.env.scope.kind=.function
 calm:X.calm=true
 hd:X.A.handled=none
 un:X.A.units+1150<cLine
 own:Γ.own=true->∀x,X.fn x=true
 fns:DM X Γ.fns Γ.call
 cons:∀x p,Γ.cons.lookup x=some p->∃u v,X.mg x=some u/\RelV v u/\∀F,aS X.K F p v
 bY:∀x,Γ.bY.contains x=true->X.mg x=none
 tabs:∀T rows,Γ.tabs.lookup T=some rows->yU X.K X.mg X.w.params T rows
 cK:∀T rows,Γ.cK.lookup T=some rows->nD X.K X.mg X.w.params T rows
 ns:∀x a,W.nsIn X.K mainGlobals x=some (some (.ref a))->X.mg x=some (.ref a)
 NH:DN X.K Γ.clss Γ.flds
 cls:∀C n,Γ.cls.lookup C=some n->∃k Ca f fd ps,ClsAt X.K C (.ref Ca)/\zz X.K Ca/\Mk X.K Ca f/\FnOk X.prog X.w X.K X.mg X.base (js X.prog X.w) k f fd ps (Ax X.K n (Γ.make C))/\dw (k+1) X.A/\X.mg C=some (.ref Ca)/\eO X.K fd ps []
 D7:∀rs,Γ.D7=some rs->Jx Γ X rs
 D8:∀n ω,Γ.D8=some (n,ω)->DO X aa ab n ω
def aK:Expr->Bool
 | .Starred _ _=>false
 | .Set _ _ _=>false
 | _=>true
def lW:Expr->Bool
 | .Slice _ _ _ _=>false
 | _=>true
def zf:Expr->Bool
 | .Tuple _ _ _=>false
 | .ListComp _ _ _ _=>false
 | .SetComp _ _ _ _=>false
 | .DictComp _ _ _ _ _=>false
 | _=>true
def ib:Expr->Bool
 | .ListComp _ _ _ _=>false
 | .SetComp _ _ _ _=>false
 | .DictComp _ _ _ _ _=>false
 | _=>true
def sx:Expr->Bool
 | .Name _ _=>true
 | .Subscript _ _ _=>true
 | .Attribute _ _ _=>true
 | .Call _ (_::_) _ _=>true
 | _=>false
def jV(h:sx e=true):attributeBase e f env (eval e env)=eval e env:=by
 cases e with
 | Call f as ks=>cases as with
  | nil=>cases h
  | cons=>cases f<;>rfl
 | _=>first | rfl | cases h
def sy(h:zf e=true):ib e=true:=by
 cases e<;>first | rfl | cases h
def xq:Expr->Bool
 | .UnaryOp .Not _ _=>false
 | .BoolOp _ _ _=>false
 | .IfExp _ _ _ _=>false
 | .Compare _ _ _ _=>false
 | _=>true
def aG(h:aK e=true)(es:List Expr)(env:Env):starEach (e::es) env=(false,eval e env)::starEach es env:=by
 cases e<;>first | rfl | cases h
def dm(h:aK e=true)(op:CmpOp):behindInMarks op e=false:=by
 cases e<;>first | rfl | cases h
def eW(h:aK e=true)(env:Env)(x:Value):foldedSetIterable e env x=pure x:=by
 cases e<;>first | rfl | cases h
def nV(h:lW e=true):jD e:=by
 intro o i;cases e<;>first | rfl | cases h
def D9(h:xq e=true)(env:Env)(gw:Sem Value):isTrue e env gw=(do let v <-gw;standAt e.pos;holding [v] (truthy v)):=by
 cases e with
 | UnaryOp op a p=>cases op<;>first | rfl | cases h
 | BoolOp _ _ _=>cases h
 | IfExp _ _ _ _=>cases h
 | Compare _ _ _ _=>cases h
 | _=>rfl
def ic(h:ib e=true)(t:Option Expr)(l:Nat)(env:Env):swapsWith e t l env=pure false:=by
 cases e<;>first | rfl | cases h
def dn(h:es.all aK=true)(env:Env)(pos:Pos):(backTo pos (starEach es env)).any (·.1)=false:=by
 induction es with
 | nil=>rfl
 | cons e es ih =>
  rw[fG,aC]at h;rw[aG h.1];exact ih h.2
def xt(h:es.all aK=true)(env:Env)(pos:Pos):(backTo pos (starEach es env)).all (λx=>!x.1)=true:=by
 induction es with
 | nil=>rfl
 | cons e es ih =>
  rw[fG,aC]at h;rw[aG h.1];exact ih h.2
def zg(h:es.all aK=true)(hl:es.length<30):((backTo cp (starEach es env)).all (λx=>!x.1)&&(backToKw cp (keywordEach [] env)).all (λx=>x.1.isSome)
   && decide (es.length+([]:List Keyword).length+(if([]:List Keyword).isEmpty then 0 else 1)<30))=true:=by
 rw[xt h];simp only[kq,aC,iQ];exact⟨rfl,hl⟩
def dW(h:ej x=true):(x==("__debug__":Str))=false/\(x==("__classdict__":Str))=false/\x≠"__name__":=by
 unfold ej at h;simp only[aC,vX]at h;exact⟨h.1.1,h.1.2,by simpa using h.2⟩
noncomputable def sE:Nat->Gm->Expr->Option (Tg×List Nat)
 | 0,_,_=>none
 | n+1,Γ,e=>match e with
  | .Name x _=>if NG Γ x=true then(slot Γ x).map λi=>(cC i,[i])else none
  | .Tuple es _ _=>(es.foldr (λe r=>(sE n Γ e).bind λg=>r.map λgs=>(dk g.1 gs.1,g.2++gs.2)) (some (m8,[]))).map λgs=>(kE es.length gs.1,gs.2)
  | _=>none
def Ea(h:slot Γ x=some i):Γ.N[i]?=some x:=by
 unfold slot at h;obtain⟨hi,hp,_⟩:=BD.mp h;rw[bF hi];exact d9 some (aE hp)
section
variable {Γ:Gm} {X:Cx} {x:Str} {pos:Pos} {aa:Hp} {ab:Fz}
def GOk.UQ(G:GOk Γ X aa ab)(h:FY Γ x=true):NZ X.env.scope x:=by
 unfold FY at h;unfold NZ;rw[G.names];split at h<;>simp_all
def GOk.MC(G:GOk Γ X aa ab)(h:NG Γ x=true):IL X.env.scope x/\(X.fn x=true\/X.env.scope.names.lookup x=some .local):=by
 unfold NG at h;unfold IL;rw[G.names];split at h
 ·grind
 ·rename_i z;exact⟨.inr z,.inl (G.own h x)⟩
 ·cases h
def GOk.eA(G:GOk Γ X aa ab)(h:oR Γ x=true):Gl X x:=by
 unfold oR at h;show X.env.scope.names.lookup x=_;rw[G.names];split at h
 ·assumption
 ·cases h
def GOk.qe(G:GOk Γ X aa ab)(h:slot Γ x=some i):X.N[i]?=some x:=by
 rw[G.N];exact Ea h
theorem jW(G:GOk Γ X aa ab):∀(n:Nat) (e:Expr) (g:Tg×List Nat),sE n Γ e=some g->PG X e (tG X.K aa ab g.1)/\KG g.2 g.1/\(∀env:Env,(assignEach [e] env).map (·.2)=[assign e env])/\∀(es:List Expr) (env:Env),assignEach (e::es) env=(false,assign e env)::assignEach es env
 | 0,_,_,h=>by cases h
 | n+1,e,g,h=>by
  cases e with
  | Name x p =>
   have h:=h;obtain⟨hs,h⟩:=bt h;obtain⟨i,z,rfl⟩:=aI h;obtain⟨h1,h2⟩:=G.MC hs;exact⟨K7 i (FV G.nd (G.qe z) h1 h2),Hb i,λ_=>rfl,λ_ _=>rfl⟩
  | Tuple es k p =>
   have all:∀es gs,es.foldr (λe r=>(sE n Γ e).bind λg=>r.map λgs=>(dk g.1 gs.1,g.2++gs.2)) (some (m8,[]))=some gs ->
     PGs X es (OY X.K aa ab gs.1)/\Pj gs.2 gs.1/\∀env:Env,(assignEach es env).length=es.length/\(assignEach es env).findIdx? (·.1)=none:=by
    intro es;induction es with
    | nil =>
     intro gs h;cases h;exact⟨K8,Hc,λenv=>⟨rfl,rfl⟩⟩
    | cons e es ih =>
     intro gs h;rw[List.foldr_cons]at h;obtain⟨g1,e1,h⟩:=aD h;obtain⟨g2,z,rfl⟩:=aI h;obtain⟨a1,a2,a3,a4⟩:=jW G n e g1 e1;obtain⟨b1,b2,b3⟩:=ih g2 z;refine⟨GI a1 b1 (by grind),Di a2 b2,λenv=>?_⟩
     rw[a4];obtain⟨c1,c2⟩:=b3 env;exact⟨by rw[bX,bX,c1],by grind⟩
   have h:=h;obtain⟨gs,z,rfl⟩:=aI h;obtain⟨b1,b2,b3⟩:=all es gs z;exact⟨OZ G.calm b1 (b3 _).1 (b3 _).2,Lz b2,λ_=>rfl,λ_ _=>rfl⟩
  | _=>cases h
def qf(G:GOk Γ X aa ab)(hn:ej x=true)(hv:FY Γ x=true)(hs:slot Γ x=some i):PE X (.Name x pos) (J2 i) :=
 pe_var (G.qe hs) (G.UQ hv) (dW hn).1 (dW hn).2.1
end
def sF(x:Str):Option GC :=
 if x==("len":Str)then some jF
 else if x==("tuple":Str)then some C4
 else if x==("int":Str)then some C5
 else if x==("sum":Str)then some GU
 else if x==("str":Str)then some GS
 else if x==("any":Str)then some HH
 else if x==("all":Str)then some uK
 else none
def Eb:bootBuiltins "sum"=some (.builtin "sum"):=by kernel_rfl
set_option maxHeartbeats 4000000 in
theorem MD(h:sF x=some g)(hh:X.A.handled=none)(hg:Gl X x)(hm:X.mg x=none)(ha:PA X (a::es) (tA X aa ab ts))
  (he:starEach (a::es) X.env=(false,eval a X.env)::starEach es X.env) (jA:(backTo pos (starEach es X.env)).any (·.1)=false):PE X (.Call (.Name x p) (a::es) [] pos) (tE X aa ab (w6 g ts)):=by
 unfold sF at h;split at h
 ·rename_i e;cases h;have e:=aE e;subst e;exact(gU Af hg hm PySem.boot_len ha (by decide) (by decide) he jA).imp λ_ _ _ h=>gm h
 ·split at h
  ·rename_i e;cases h;have e:=aE e;subst e;exact(kC Ag hg hm (gq .tuple) ha (by decide) (by decide) he jA).imp λ_ _ _ h=>gm h
  ·split at h
   ·rename_i e;cases h;have e:=aE e;subst e;exact(kC Ah hg hm (gq .int) ha (by decide) (by decide) he jA).imp λ_ _ _ h=>gm h
   ·split at h
    ·rename_i e;cases h;have e:=aE e;subst e;exact(gU (Aj hh) hg hm Eb ha (by decide) (by decide) he jA).imp λ_ _ _ h=>gm h
    ·split at h
     ·rename_i e;cases h;have e:=aE e;subst e;exact(kC Ai hg hm (gq .str) ha (by decide) (by decide) he jA).imp λ_ _ _ h=>gm h
     ·split at h
      ·rename_i e;cases h;have e:=aE e;subst e;exact(gU (AE hh) hg hm DU ha (by decide) (by decide) he jA).imp λ_ _ _ h=>gm h
      ·split at h
       ·rename_i e;cases h;have e:=aE e;subst e;exact(gU (AG hh) hg hm DT ha (by decide) (by decide) he jA).imp λ_ _ _ h=>gm h
       ·cases h
def Ec:ScopeKind->Bool
 | .function=>true
 | _=>false
def qg(scope:Scope):List Str:=(scope.names.filter λy=>match y.2 with | .local=>true | .free=>true | _=>false).map (·.1)
def eX(Γ:Gm)(scope:Scope):List (Option Nat):=(qg scope).map λx=>match scope.names.lookup x with | some .free=>slot Γ x | _=>none
def xu(Γ:Gm)(scope:Scope):List (Str×NameKind):=scope.names.map fun(n,k)=>if(k==NameKind.free&&Γ.sc.lookup n==some .cell)then(n,NameKind.cell)else(n,k)
def qh(Γ:Gm)(scope:Scope):Gm:={Γ with sc:=xu Γ scope,N:=qg scope,own:=false,D7:=none,D8:=none}
def nW(Γ:Gm)(scope:Scope)(L:List Nat):Bool :=
 Ec scope.kind&&scope.names.all (λy=>match y.2 with
  | .cell=>false
  | .local=>(match scope.names.lookup y.1 with | some .local=>true | _=>false)
  | .free=>(match Γ.sc.lookup y.1 with | some .cell=>true | some .free=>true | _=>false)
  | _=>true)&&decide (qg scope).Nodup&&L.all λi=>match(eX Γ scope)[i]? with | some none=>true | _=>false
section
variable {Γ:Gm} {X:Cx} {scope:Scope} {L:List Nat} {aa:Hp} {ab:Fz}
def jX(h:nW Γ scope L=true):scope.kind=.function/\(∀y∈scope.names,(match y.2 with
  | .cell=>false
  | .local=>(match scope.names.lookup y.1 with | some .local=>true | _=>false)
  | .free=>(match Γ.sc.lookup y.1 with | some .cell=>true | some .free=>true | _=>false)
  | _=>true)=true)/\(qg scope).Nodup/\∀i∈L,(eX Γ scope)[i]?=some none:=by
 unfold nW at h;simp only[aC,dG,iQ]at h;obtain⟨⟨⟨h1,h2⟩,h3⟩,h4⟩:=h;refine⟨?_,h2,h3,λi hi=>?_⟩
 ·unfold Ec at h1;split at h1
  ·assumption
  ·cases h1
 ·grind
def xw(G:GOk Γ X aa ab)(h:nW Γ scope L=true):fP X (qg scope) (eX Γ scope) scope:=by
 obtain⟨h1,h2,h3,h4⟩:=jX h;refine⟨h1,λy hy z=>?_,λy hy z=>?_,λy hy z=>?_,by unfold eX;rw[ah],λi j x hl hx=>?_⟩
 ·grind
 ·grind
 ·have:=h2 y hy;rw[z]at this;simp only at this;show X.env.scope.names.lookup y.1=_\/X.env.scope.names.lookup y.1=_;rw[G.names];split at this
  ·grind
  ·grind
  ·cases this
 ·unfold eX at hl;rw[bu,hx]at hl;have hl:(match scope.names.lookup x with | some .free=>slot Γ x | _=>none)=some j:=by grind
  split at hl
  ·exact⟨G.qe hl,by assumption⟩
  ·cases hl
def Ed(G:GOk Γ X aa ab)(h:nW Γ scope L=true)(C:Addr)(s:Shared)(H:Hp)(fp:List Addr)(UR:Hp)(US:Fz):GOk (qh Γ scope) (bI X (qg scope) scope C s H fp) UR US where
 names:=by
  show(relabel scope X.env).names=xu Γ scope;have e:∀n,X.env.kindOf n=Γ.sc.lookup n:=λn=>by show X.env.scope.names.lookup n=_;rw[G.names]
  unfold xu relabel;simp only[G.kind,e]
  congr 1
  funext y
  obtain⟨n,k⟩:=y;simp
 N:=rfl
 nd:=(jX h).2.2.1
 kind:=by
  exact(jX h).1
 calm:=G.calm
 hd:=G.hd
 un:=G.un
 own:=λz=>by cases z
 fns:=G.fns
 cons:=G.cons
 bY:=G.bY
 tabs:=G.tabs
 cK:=G.cK
 ns:=G.ns
 NH:=G.NH
 cls:=G.cls
 D7:=λ_ z=>by cases z
 D8:=λ_ _ z=>by cases z
end
def bE{α:Type}:Gx α:=λ_=>none
section
variable {X:Cx} {aa:Hp} {ab:Fz} {e:Expr} {es:List Expr}
def qi{C:Prop}(h:tX X aa ab rl bE σ H Q):C:=by
 obtain⟨F,st,R,r,z,_⟩:=h;cases z
def aP:PE X e (tE X aa ab bE):=λ_ _ _ _ _ _ h=>qi h
def qj:PT X e (tT X aa ab bE):=λ_ _ _ _ _ _ h=>qi h
def Ee:PW X e (tT X aa ab bE):=λ_ _ _ _ _ _ _ h=>qi h
def Jy:PA X es (tA X aa ab bE):=λ_ _ _ _ _ _ _ h=>qi h
def uS{tg:Expr}:PI X tg e (As X aa ab bE):=λ_ _ _ _ _ _ h=>qi h
end
def ie(m n:Nat)(g:lG)(as:List PV):Gx PV:=λst=>if((m==0)&&(st.h.isEmpty || aM as))=true then i6 n g as st else DG n g as st
def UT(G:FnOk X.prog X.w X.K X.mg X.base (js X.prog X.w) k f fd ps (Ax X.K n g))(hr:dw k X.A)(hb:eO X.K fd ps []):Hr X f (ie m n g):=by
 rintro aa H ab F st σ ae s Q as us vs I R b r ⟨q,e1,e2⟩
 unfold ie at e1;split at e1
 ·exact LN G hr hb aa H ab F st σ ae s Q as us vs I R b r ⟨q,e1,e2⟩
 ·exact Uc G hr hb aa H ab F st σ ae s Q as us vs I R b r ⟨q,e1,e2⟩
def Qs(Γ:Gm):Expr->Nat
 | .Name x _=>AQ (md Γ x)
 | .Attribute _ f _=>AQ (md Γ f)
 | _=>0
def UU(Γ:Gm)(g:Str)(o:Expr):Nat:=if g==("get":Str)then 0 else Qs Γ o
def sG(e:Expr):Option {x:Option Expr×Option Expr // ∃p,e=.Slice x.1 x.2 none p}:=match e with
 | .Slice lo hi none p=>some ⟨(lo,hi),p,rfl⟩
 | _=>none
def xx(e:Expr):Option {x:Option Expr×Expr // ∃p,e=.Slice x.1 none (some x.2) p}:=match e with
 | .Slice lo none (some m) p=>some ⟨(lo,m),p,rfl⟩
 | _=>none
def UW:Const->Gx PV
 | .int i=>bP (.int i)
 | .bool i=>bP (.bl i)
 | .none=>bP .aV
 | .str i=>bP (.str i)
 | _=>bE
def ME(Γ:Gm)(x:Str):Gx PV:=if ej x=true then(if FY Γ x=true then(match slot Γ x with | some i=>rd i | none=>bE)else if oR Γ x=true then(match Γ.cons.lookup x with | some p=>bP p | none=>bE)else bE)else bE
def xy(a:Expr):Option {x:Str×Expr×List Expr // ∃p q,a=.Call (.Name x.1 p) (x.2.1::x.2.2) [] q}:=match a with
 | .Call (.Name z p) (b::bs) [] q=>some ⟨(z,b,bs),p,q,rfl⟩
 | _=>none
def sH(a:Expr)(es:List Expr):Option {x:Str×Expr // es=[]/\∃p q,a=.Call (.Name x.1 p) [x.2] [] q}:=match a,es with
 | .Call (.Name z p) [e] [] q,[]=>some ⟨(z,e),rfl,p,q,rfl⟩
 | _,_=>none
def dq(Γ:Gm)(x:Str):Bool:=oR Γ x&&Γ.bY.contains x
def UX:Expr->Expr
 | .Call _ [e] _ _=>e
 | a=>a
def MF(Γ:Gm)(x:Str)(a:Expr)(es:List Expr):Bool:=x==("len":Str)&&(match sH a es with
 | some ⟨ze,_⟩=>ze.1==("set":Str)&&dq Γ ze.1&&aK ze.2
 | none=>false)
def AR{Γ:Gm}(h:MF Γ x a es=true):x="len"/\es=[]/\∃e p q,a=.Call (.Name "set" p) [e] [] q/\oR Γ "set"=true/\Γ.bY.contains "set"=true/\aK e=true:=by
 unfold MF at h;rw[aC]at h;obtain⟨h0,h⟩:=h
 generalize sH a es=o at h
 rcases o with _ | ⟨⟨z,e⟩,h1,p,q,rfl⟩
 ·cases h
 ·simp only[dq,aC]at h;obtain⟨⟨hx,hg,hb⟩,hp⟩:=h;have hx:=aE hx;subst hx;exact⟨aE h0,h1,e,p,q,rfl,hg,hb,hp⟩
def Ef(Γ:Gm)(op:CmpOp):Expr->Option (List (Str×PV)×Bool)
 | .Name T _=>if(ej T&&oR Γ T)=true then(Γ.cK.lookup T).bind λrows=>(match op with | .In=>some (rows,false) | .NotIn=>some (rows,true) | _=>none)else none
 | _=>none
def nX{Γ:Gm}(h:Ef Γ op b=some y):∃T p,b=.Name T p/\ej T=true/\oR Γ T=true/\Γ.cK.lookup T=some y.1/\(op=.In/\y.2=false\/op=.NotIn/\y.2=true):=by
 cases b with
 | Name T p =>
  obtain⟨hc,h⟩:=bt h;obtain⟨rows,e1,e2⟩:=aD h;rw[aC]at hc;refine⟨T,p,rfl,hc.1,hc.2,?_⟩;cases op<;>cases e2
  ·exact⟨e1,.inl ⟨rfl,rfl⟩⟩
  ·exact⟨e1,.inr ⟨rfl,rfl⟩⟩
 | _=>cases h
def Qt:Operator->Bool
 | .Add=>true
 | _=>false
mutual
noncomputable def aR:Nat->Gm->Nat->Expr->Gx PV
 | 0,_,_,_=>bE
 | n+1,Γ,m,e=>match e with
  | .Constant c _ _=>UW c
  | .Name x _=>ME Γ x
  | .BinOp a op b _=>if(m != 0&&Qt op)=true then Mh m (aR n Γ 0 a) (aR n Γ 0 b)else(match HV op with | some g=>op2 g (aR n Γ 0 a) (aR n Γ 0 b) | none=>bE)
  | .UnaryOp .Not a _=>KU (aR n Γ 0 a)
  | .UnaryOp .USub a _=>Ll (aR n Γ 0 a)
  | .BoolOp op vs _=>Eg n Γ op vs
  | .Compare a ops bs _=>MH n Γ a ops bs
  | .IfExp c a b _=>gX (oS n Γ c) (aR n Γ m a) (aR n Γ m b)
  | .Tuple es _ _=>Nx .ak (gG n Γ m es)
  | .List es _=>(match m with | 0=>Nx .lst (gG n Γ 0 es) | _=>KY (gG n Γ (AQ m) es))
  | .Dict [] [] _=>LY (m==10)
  | .Subscript a b _=>MI n Γ a b
  | .ListComp elt gens scope _=>MJ n Γ m elt gens scope
  | .Attribute o f _=>if sx o=true then L3 f (aR n Γ 0 o)else bE
  | .Call f (a::es) [] cp=>if(a::es).all aK=true then MK n Γ m f a es cp else bE
  | .Call (.Attribute o f ap) [] [] cp=>if(sx o&&(ap.endLine==cp.line))=true then(if f==("isdigit":Str)then L4 (aR n Γ 0 o)else match xi f with | some w=>Hv w.1 w.2 (aR n Γ 0 o) (bP []) | none=>bE)else bE
  | _=>bE
termination_by structural n=>n
noncomputable def MK:Nat->Gm->Nat->Expr->Expr->List Expr->Pos->Gx PV
 | 0,_,_,_,_,_,_=>bE
 | n+1,Γ,m,f,a,es,cp=>match f with
  | .Name x _=>if ej x=true then(if oR Γ x=true then ML n Γ m x a es else if FY Γ x=true then Eh n Γ x a es else bE)else bE
  | .Subscript v k p=>p7 Γ.fns Γ.call (aR n Γ 0 (.Subscript v k p)) (gG n Γ 0 (a::es))
  | .Attribute o g ap=>if(sx o&&(ap.endLine==cp.line)&&decide ((a::es).length<30))=true then(if g==("count":Str)then Hv "list" HK (aR n Γ 0 o) (gG n Γ 0 (a::es))else match uB g with | some w=>Hv w.1 w.2 (aR n Γ 0 o) (gG n Γ (UU Γ g o) (a::es)) | none=>bE)else bE
  | _=>bE
termination_by structural n=>n
noncomputable def Eh:Nat->Gm->Str->Expr->List Expr->Gx PV
 | 0,_,_,_,_=>bE
 | n+1,Γ,x,a,es=>match slot Γ x with
  | some i=>p7 Γ.fns Γ.call (rd i) (gG n Γ 0 (a::es))
  | none=>bE
termination_by structural n=>n
noncomputable def ML:Nat->Gm->Nat->Str->Expr->List Expr->Gx PV
 | 0,_,_,_,_,_=>bE
 | n+1,Γ,m,x,a,es=>if x==("spread":Str)then Ei n Γ a es else match Γ.fns.lookup x with
  | some k=>bnd (gG n Γ 0 (a::es)) (ie m k (Γ.call x))
  | none=>match Γ.cls.lookup x with
   | some k=>(match m with | 0=>PZ x k (Γ.make x) (gG n Γ 0 (a::es)) | _=>bE)
   | none=>if Γ.bY.contains x=true then(if x==("isinstance":Str)then Ej n Γ a es else if x==("sorted":Str)then El n Γ a es else if x==("dict":Str)then MM n Γ a es else if x==("list":Str)then Em n Γ m a es else if MF Γ x a es=true then MA (aR n Γ 0 (UX a))else match sF x with | some g=>w6 g (gG n Γ 0 (a::es)) | none=>bE)else bE
termination_by structural n=>n
noncomputable def Ei:Nat->Gm->Expr->List Expr->Gx PV
 | 0,_,_,_=>bE
 | n+1,Γ,a,es=>bE
termination_by structural n=>n
noncomputable def Em:Nat->Gm->Nat->Expr->List Expr->Gx PV
 | 0,_,_,_,_=>bE
 | n+1,Γ,m,a,es=>match es with
  | []=>(match xy a with
   | some ⟨zs,_⟩=>if(zs.1==("range":Str)&&dq Γ zs.1&&(zs.2.1::zs.2.2).all aK)=true then Us m (gG n Γ 0 (zs.2.1::zs.2.2))else(match zs.2.2 with
    | [b]=>if(zs.1==("zip":Str)&&dq Γ zs.1&&aK zs.2.1&&aK b)=true then Ms m (aR n Γ 0 zs.2.1) (aR n Γ 0 b)else bE
    | _=>bE)
   | none=>HI m (aR n Γ 0 a))
  | _=>bE
termination_by structural n=>n
noncomputable def MM:Nat->Gm->Expr->List Expr->Gx PV
 | 0,_,_,_=>bE
 | n+1,Γ,a,es=>match es with
  | []=>(match a with
   | .BinOp l .Add r _=>yZ (aR n Γ 0 l) (aR n Γ 0 r)
   | a=>HG (aR n Γ 0 a))
  | _=>bE
termination_by structural n=>n
noncomputable def El:Nat->Gm->Expr->List Expr->Gx PV
 | 0,_,_,_=>bE
 | n+1,Γ,a,es=>bE
termination_by structural n=>n
noncomputable def Ej:Nat->Gm->Expr->List Expr->Gx PV
 | 0,_,_,_=>bE
 | n+1,Γ,a,es=>match es with
  | [.Name t _]=>if dq Γ t=true then(match yI t with | some g=>TJ g (aR n Γ 0 a) | none=>bE)else bE
  | _=>bE
termination_by structural n=>n
noncomputable def MH:Nat->Gm->Expr->List CmpOp->List Expr->Gx PV
 | 0,_,_,_,_=>bE
 | n+1,Γ,a,ops,bs=>match ops,bs with
  | [op],[b]=>if aK b=true then(match Ef Γ op b with | some y=>Az y.1 y.2 (aR n Γ 0 a) | none=>match xa op with | some g=>op2 g (aR n Γ 0 a) (aR n Γ 0 b) | none=>bE)else bE
  | [op,tj],[b,c]=>if aK c=true then(match xa op,xa tj with | some g,some g'=>chain g g' (aR n Γ 0 a) (aR n Γ 0 b) (aR n Γ 0 c) | _,_=>bE)else bE
  | _,_=>bE
termination_by structural n=>n
noncomputable def MI:Nat->Gm->Expr->Expr->Gx PV
 | 0,_,_,_=>bE
 | n+1,Γ,a,b=>match sG b with
  | some ⟨lh,_⟩=>cutE (aR n Γ 0 a) (AS n Γ lh.1) (AS n Γ lh.2)
  | none=>match xx b with
  | some ⟨lm,_⟩=>Ln (aR n Γ 0 a) (AS n Γ lm.1) (AS n Γ (some lm.2))
  | none=>if lW b=true then(match a with
   | .Name T p=>if(ej T&&oR Γ T)=true then(match Γ.cK.lookup T with
    | some rows=>DK (λk=>rows.lookup k) (aR n Γ 0 b)
    | none=>match Γ.tabs.lookup T with
     | some rows=>DK (λk=>(rows.lookup k).map .fn) (aR n Γ 0 b)
     | none=>op2 gD (aR n Γ 0 (.Name T p)) (aR n Γ 0 b))else op2 gD (aR n Γ 0 (.Name T p)) (aR n Γ 0 b)
   | a=>op2 gD (aR n Γ 0 a) (aR n Γ 0 b))else bE
termination_by structural n=>n
noncomputable def oS:Nat->Gm->Expr->Gx Bool
 | 0,_,_=>bE
 | n+1,Γ,e=>match e with
  | .UnaryOp .Not a _=>wZ (oS n Γ a)
  | .BoolOp op vs _=>En n Γ op vs
  | .Compare a [op] [b] _=>if aK b=true then(match Ef Γ op b with | some y=>toB (Az y.1 y.2 (aR n Γ 0 a)) | none=>match xa op with | some g=>toB (op2 g (aR n Γ 0 a) (aR n Γ 0 b)) | none=>bE)else bE
  | .Compare a [op,tj] [b,c] _=>if aK c=true then(match xa op,xa tj with | some g,some g'=>toB (chain g g' (aR n Γ 0 a) (aR n Γ 0 b) (aR n Γ 0 c)) | _,_=>bE)else bE
  | e=>if xq e=true then uc (aR n Γ 0 e)else bE
termination_by structural n=>n
noncomputable def Eg:Nat->Gm->BoolOp->List Expr->Gx PV
 | 0,_,_,_=>bE
 | n+1,Γ,op,[a]=>aR n Γ 0 a
 | n+1,Γ,.And,a::b::r=>KS (aR n Γ 0 a) (Eg n Γ .And (b::r))
 | n+1,Γ,.Or,a::b::r=>Tu (aR n Γ 0 a) (Eg n Γ .Or (b::r))
 | _,_,_,_=>bE
termination_by structural n=>n
noncomputable def En:Nat->Gm->BoolOp->List Expr->Gx Bool
 | 0,_,_,_=>bE
 | n+1,Γ,op,[a]=>oS n Γ a
 | n+1,Γ,.And,a::b::r=>gX (oS n Γ a) (En n Γ .And (b::r)) (bP false)
 | n+1,Γ,.Or,a::b::r=>gX (oS n Γ a) (bP true) (En n Γ .Or (b::r))
 | _,_,_,_=>bE
termination_by structural n=>n
noncomputable def gG:Nat->Gm->Nat->List Expr->Gx (List PV)
 | 0,_,_,_=>bE
 | n+1,Γ,m,[]=>bP []
 | n+1,Γ,m,e::es=>if aK e=true then et (aR n Γ m e) (gG n Γ m es)else bE
termination_by structural n=>n
noncomputable def AS:Nat->Gm->Option Expr->Gx (Option Int)
 | 0,_,_=>bE
 | n+1,Γ,none=>bP none
 | n+1,Γ,some e=>C3 (aR n Γ 0 e)
termination_by structural n=>n
noncomputable def Eo:Nat->Gm->Expr->Expr->Gx yQ
 | 0,_,_,_=>bE
 | n+1,Γ,tg,e=>match e with
  | .Call (.Name x p) [a] [] cp=>if(x==("range":Str)&&dq Γ x&&aK a)=true then NB (Dp Ar (gG n Γ 0 [a]))
    else if(x==("enumerate":Str)&&dq Γ x&&aK a&&yP tg)=true then NB (Ds (aR n Γ 0 a))
    else if(x==("reversed":Str)&&dq Γ x)=true then(match sH a []with | some ⟨ze,_⟩=>if(ze.1==("range":Str)&&dq Γ ze.1&&aK ze.2)=true then bE else bE | none=>bE)
    else oM (aR n Γ 0 (.Call (.Name x p) [a] [] cp))
  | .Call (.Name x p) [a,b] [] cp=>if(x==("range":Str)&&dq Γ x&&aK a&&aK b)=true then NB (Dp Hk (gG n Γ 0 [a,b]))
    else if(x==("zip":Str)&&dq Γ x&&aK a&&aK b&&yP tg)=true then NB (Mz (aR n Γ 0 a) (aR n Γ 0 b))
    else oM (aR n Γ 0 (.Call (.Name x p) [a,b] [] cp))
  | e=>if aK e=true then oM (aR n Γ 0 e)else bE
termination_by structural n=>n
noncomputable def MJ:Nat->Gm->Nat->Expr->List Comprehension->Scope->Gx PV
 | 0,_,_,_,_,_=>bE
 | n+1,Γ,m,elt,gens,scope=>match gens with
  | [⟨tg,iter,ifs,0⟩]=>if aK iter=true then(match sE n (qh Γ scope) tg with
   | some g=>if nW Γ scope g.2=true then(match ifs with
    | []=>hW (m != 0) (eX Γ scope) (Eo n Γ tg iter) (nz g.1 (aR n (qh Γ scope) (AQ m) elt))
    | [c]=>hW (m != 0) (eX Γ scope) (Eo n Γ tg iter) (Dj g.1 (oS n (qh Γ scope) c) (aR n (qh Γ scope) (AQ m) elt))
    | _=>bE)else bE
   | none=>bE)else bE
  | _=>bE
termination_by structural n=>n
end
def CC(X:Cx)(aa:Hp)(ab:Fz)(elt:Expr)(gens:List Comprehension)(scope:Scope)(p:Pos)(f:Gx PV):Prop:=PE X (.ListComp elt gens scope p) (tE X aa ab f) /\
  ∀i x p' sp,X.N[i]?=some x->X.env.scope.names.lookup x=some .local->swapsWith (.ListComp elt gens scope p) (some (.Name x p')) sp.line X.env=pure true ->
   PS X (.Assign [.Name x p'] (.ListComp elt gens scope p) sp) (tS X aa ab (m9 f (cC i)))
structure UY (n:Nat):Prop where
 e:∀Γ X aa ab m e,GOk Γ X aa ab->PE X e (tE X aa ab (aR n Γ m e))
 f:∀Γ X aa ab m f a es cp,GOk Γ X aa ab->(a::es).all aK=true->PE X (.Call f (a::es) [] cp) (tE X aa ab (MK n Γ m f a es cp))
 o:∀Γ X aa ab x a es p cp,GOk Γ X aa ab->(a::es).all aK=true->ej x=true->FY Γ x=true->PE X (.Call (.Name x p) (a::es) [] cp) (tE X aa ab (Eh n Γ x a es))
 cn:∀Γ X aa ab m x a es p cp,GOk Γ X aa ab->(a::es).all aK=true->ej x=true->oR Γ x=true->PE X (.Call (.Name x p) (a::es) [] cp) (tE X aa ab (ML n Γ m x a es))
 sp:∀Γ X aa ab a es p cp,GOk Γ X aa ab->(a::es).all aK=true->oR Γ "spread"=true->PE X (.Call (.Name "spread" p) (a::es) [] cp) (tE X aa ab (Ei n Γ a es))
 st:∀Γ X aa ab a es p cp,GOk Γ X aa ab->(a::es).all aK=true->oR Γ "sorted"=true->Γ.bY.contains "sorted"=true->PE X (.Call (.Name "sorted" p) (a::es) [] cp) (tE X aa ab (El n Γ a es))
 d:∀Γ X aa ab a es p cp,GOk Γ X aa ab->(a::es).all aK=true->oR Γ "dict"=true->Γ.bY.contains "dict"=true->PE X (.Call (.Name "dict" p) (a::es) [] cp) (tE X aa ab (MM n Γ a es))
 li:∀Γ X aa ab m a es p cp,GOk Γ X aa ab->(a::es).all aK=true->oR Γ "list"=true->Γ.bY.contains "list"=true->PE X (.Call (.Name "list" p) (a::es) [] cp) (tE X aa ab (Em n Γ m a es))
 is:∀Γ X aa ab a es p cp,GOk Γ X aa ab->(a::es).all aK=true->oR Γ "isinstance"=true->Γ.bY.contains "isinstance"=true->PE X (.Call (.Name "isinstance" p) (a::es) [] cp) (tE X aa ab (Ej n Γ a es))
 k:∀Γ X aa ab a ops bs p,GOk Γ X aa ab->PE X (.Compare a ops bs p) (tE X aa ab (MH n Γ a ops bs))
 x:∀Γ X aa ab a b p,GOk Γ X aa ab->PE X (.Subscript a b p) (tE X aa ab (MI n Γ a b))
 t:∀Γ X aa ab e,GOk Γ X aa ab->PT X e (tT X aa ab (oS n Γ e))
 b:∀Γ X aa ab op vs p,GOk Γ X aa ab->PE X (.BoolOp op vs p) (tE X aa ab (Eg n Γ op vs))
 w:∀Γ X aa ab op vs p,GOk Γ X aa ab->PW X (.BoolOp op vs p) (tT X aa ab (En n Γ op vs))
 a:∀Γ X aa ab m es,GOk Γ X aa ab->PA X es (tA X aa ab (gG n Γ m es))
 l:∀Γ X aa ab e,GOk Γ X aa ab->PO X e (GR X aa ab (AS n Γ e))
 i:∀Γ X aa ab tg e,GOk Γ X aa ab->PI X tg e (As X aa ab (Eo n Γ tg e))
 c:∀Γ X aa ab m elt gens scope p,GOk Γ X aa ab->CC X aa ab elt gens scope p (MJ n Γ m elt gens scope)
def pI{X:Cx}{aa:Hp}{ab:Fz}{e:Expr}{c:Prop} [Decidable c] {f g:Gx PV} (h:c->PE X e (tE X aa ab f)) (h':PE X e (tE X aa ab g)):PE X e (tE X aa ab (if c then f else g)):=by
 split
 ·exact h ‹_›
 ·exact h'
def pJ{X:Cx}{aa:Hp}{ab:Fz}{e:Expr}{c:Prop} [Decidable c] {f:Gx PV} (h:c->PE X e (tE X aa ab f)):PE X e (tE X aa ab (if c then f else bE)):=pI h aP
def fA:PS X s (tS X aa ab bE):=λ_ _ _ _ _ _ ⟨F,st,R,r,z,_⟩=>by cases z
def sJ:PS X s (tS X aa ab (m9 bE g)):=λ_ _ _ _ _ _ ⟨F,st,R,r,z,_⟩=>by cases z
def Qu{ab:Fz}:PO X e (GR X aa ab bE):=λ_ _ _ _ _ _ h=>qi h
def Ep:UY 0 where
 e:=λ_ _ _ _ _ _ _=>aP
 f:=λ_ _ _ _ _ _ _ _ _ _ _=>aP
 o:=λ_ _ _ _ _ _ _ _ _ _ _ _ _=>aP
 cn:=λ_ _ _ _ _ _ _ _ _ _ _ _ _ _=>aP
 sp:=λ_ _ _ _ _ _ _ _ _ _ _=>aP
 st:=λ_ _ _ _ _ _ _ _ _ _ _ _=>aP
 d:=λ_ _ _ _ _ _ _ _ _ _ _ _=>aP
 li:=λ_ _ _ _ _ _ _ _ _ _ _ _ _=>aP
 is:=λ_ _ _ _ _ _ _ _ _ _ _ _=>aP
 k:=λ_ _ _ _ _ _ _ _ _=>aP
 x:=λ_ _ _ _ _ _ _ _=>aP
 t:=λ_ _ _ _ _ _=>qj
 b:=λ_ _ _ _ _ _ _ _=>aP
 w:=λ_ _ _ _ _ _ _ _=>Ee
 a:=λ_ _ _ _ _ _ _=>Jy
 l:=λ_ _ _ _ _ _=>Qu
 i:=λ_ _ _ _ _ _ _=>uS
 c:=λ_ _ _ _ _ _ _ _ _ _=>⟨aP,λ_ _ _ _ _ _ _=>sJ⟩
section
variable {n:Nat} (S:UY n)
include S
def Qv(Γ:Gm)(X:Cx)(aa:Hp)(ab:Fz)(op:BoolOp)(vs:List Expr)(p:Pos)(G:GOk Γ X aa ab):PE X (.BoolOp op vs p) (tE X aa ab (Eg (n+1) Γ op vs)):=by
 match op,vs with
 | .And,[]=>exact aP
 | .Or,[]=>exact aP
 | .And,[a]=>exact Cf (S.e Γ X aa ab 0 a G)
 | .Or,[a]=>exact Cf (S.e Γ X aa ab 0 a G)
 | .And,a::b::r=>exact OS (S.e Γ X aa ab 0 a G) (S.b Γ X aa ab .And (b::r) p G)
 | .Or,a::b::r=>exact Tv (S.e Γ X aa ab 0 a G) (S.b Γ X aa ab .Or (b::r) p G)
def Qw(Γ:Gm)(X:Cx)(aa:Hp)(ab:Fz)(op:BoolOp)(vs:List Expr)(p:Pos)(G:GOk Γ X aa ab):PW X (.BoolOp op vs p) (tT X aa ab (En (n+1) Γ op vs)):=by
 match op,vs with
 | .And,[]=>exact Ee
 | .Or,[]=>exact Ee
 | .And,[a]=>exact FN (S.t Γ X aa ab a G)
 | .Or,[a]=>exact J6 (S.t Γ X aa ab a G)
 | .And,a::b::r=>exact OQ (S.t Γ X aa ab a G) (S.w Γ X aa ab .And (b::r) p G)
 | .Or,a::b::r=>exact Tt (S.t Γ X aa ab a G) (S.w Γ X aa ab .Or (b::r) p G)
def Qx(Γ:Gm)(X:Cx)(aa:Hp)(ab:Fz)(m:Nat)(es:List Expr)(G:GOk Γ X aa ab):PA X es (tA X aa ab (gG (n+1) Γ m es)):=by
 match es with
 | []=>exact OU
 | e::es =>
  unfold gG;split
  ·rename_i hp;exact KW (S.e Γ X aa ab m e G) (S.a Γ X aa ab m es G) (aG hp _ _)
  ·exact Jy
def Qy(Γ:Gm)(X:Cx)(aa:Hp)(ab:Fz)(e:Option Expr)(G:GOk Γ X aa ab):PO X e (GR X aa ab (AS (n+1) Γ e)):=by
 match e with
 | none=>exact Li
 | some e=>exact Lj (S.e Γ X aa ab 0 e G)
def Qz(Γ:Gm)(X:Cx)(aa:Hp)(ab:Fz)(a:Expr)(ops:List CmpOp)(bs:List Expr)(p:Pos)(G:GOk Γ X aa ab):PE X (.Compare a ops bs p) (tE X aa ab (MH (n+1) Γ a ops bs)):=by
 rcases ops with _ | ⟨op,_ | ⟨tj,_ | _⟩⟩<;>rcases bs with _ | ⟨b,_ | ⟨c,_ | _⟩⟩<;>try exact aP
 ·show PE X _ (tE X aa ab (ite _ _ _));split
  ·rename_i hp;split
   ·rename_i y h0;obtain⟨T,q,rfl,h1,h2,h3,h4⟩:=nX h0;exact(Jo (G.cK _ _ h3) (G.eA h2) (S.e Γ X aa ab 0 _ G) (dW h1).1 h4 (dm hp _)).1
   split
   ·rename_i g h1;exact ON (iu G.un h1) (S.e Γ X aa ab 0 _ G) (S.e Γ X aa ab 0 _ G) (dm hp _)
   ·exact aP
  ·exact aP
 ·show PE X _ (tE X aa ab (ite _ _ _));split
  ·rename_i hp;split
   ·rename_i g g' h1 h2;exact GD (iu G.un h1) (iu G.un h2) (S.e Γ X aa ab 0 _ G) (S.e Γ X aa ab 0 _ G) (S.e Γ X aa ab 0 _ G) (dm hp _)
   ·exact aP
  ·exact aP
def QA(Γ:Gm)(X:Cx)(aa:Hp)(ab:Fz)(e:Expr)(G:GOk Γ X aa ab):PT X e (tT X aa ab (oS (n+1) Γ e)):=by
 have df:∀e,PT X e (tT X aa ab (if xq e=true then uc (aR n Γ 0 e)else bE)):=λe=>by
  split
  ·rename_i hp;exact OP (S.e Γ X aa ab 0 _ G) λgw=>D9 hp _ gw
  ·exact qj
 cases e with
 | UnaryOp op=>cases op with
  | Not=>exact OR (S.t Γ X aa ab _ G)
  | _=>exact df _
 | BoolOp=>exact(S.w Γ X aa ab _ _ _ G).pt
 | Compare a ops bs =>
  rcases ops with _ | ⟨op,_ | ⟨tj,_ | _⟩⟩<;>rcases bs with _ | ⟨b,_ | ⟨c,_ | _⟩⟩<;>try exact df _
  ·show PT X _ (tT X aa ab (ite _ _ _));split
   ·rename_i hp;split
    ·rename_i y h0;obtain⟨T,q,rfl,h1,h2,h3,h4⟩:=nX h0;exact(Jo (G.cK _ _ h3) (G.eA h2) (S.e Γ X aa ab 0 _ G) (dW h1).1 h4 (dm hp _)).2
    split
    ·rename_i g h1;exact OO (iu G.un h1) (S.e Γ X aa ab 0 _ G) (S.e Γ X aa ab 0 _ G) (dm hp _)
    ·exact qj
   ·exact qj
  ·show PT X _ (tT X aa ab (ite _ _ _));split
   ·rename_i hp;split
    ·rename_i g g' h1 h2;exact GF (iu G.un h1) (iu G.un h2) (S.e Γ X aa ab 0 _ G) (S.e Γ X aa ab 0 _ G) (S.e Γ X aa ab 0 _ G) (dm hp _)
    ·exact qj
   ·exact qj
 | _=>exact df _
def MN(Γ:Gm)(X:Cx)(aa:Hp)(ab:Fz)(a:Expr)(es:List Expr)(p cp:Pos)(G:GOk Γ X aa ab)(hp:(a::es).all aK=true)(hg:oR Γ "sorted"=true)(hb:Γ.bY.contains "sorted"=true):PE X (.Call (.Name "sorted" p) (a::es) [] cp) (tE X aa ab (El (n+1) Γ a es)):=by
 exact aP
def QB(Γ:Gm)(X:Cx)(aa:Hp)(ab:Fz)(a:Expr)(es:List Expr)(p cp:Pos)(G:GOk Γ X aa ab)(hp:(a::es).all aK=true)(hg:oR Γ "dict"=true)(hb:Γ.bY.contains "dict"=true):PE X (.Call (.Name "dict" p) (a::es) [] cp) (tE X aa ab (MM (n+1) Γ a es)):=by
 rw[fG,aC]at hp;cases es with
 | cons=>exact aP
 | nil=>cases a with
  | BinOp l op=>cases op with
   | Add=>exact Ma G.hd (G.eA hg) (G.bY _ hb) (S.e Γ X aa ab 0 _ G) (S.e Γ X aa ab 0 _ G) rfl
   | _=>exact DS G.hd (G.eA hg) (G.bY _ hb) (S.e Γ X aa ab 0 _ G) (aG hp.1 _ _)
  | _=>exact DS G.hd (G.eA hg) (G.bY _ hb) (S.e Γ X aa ab 0 _ G) (aG hp.1 _ _)
def MO(Γ:Gm)(X:Cx)(aa:Hp)(ab:Fz)(m:Nat)(a:Expr)(es:List Expr)(p cp:Pos)(G:GOk Γ X aa ab)(hp:(a::es).all aK=true)(hg:oR Γ "list"=true)(hb:Γ.bY.contains "list"=true):PE X (.Call (.Name "list" p) (a::es) [] cp) (tE X aa ab (Em (n+1) Γ m a es)):=by
 rw[fG,aC]at hp;cases es with
 | cons=>exact aP
 | nil =>
  show PE X _ (tE X aa ab (match xy a with | some ⟨zs,_⟩=>_ | none=>HI m (aR n Γ 0 a)))
  rcases xy a with _ | ⟨⟨z,b,bs⟩,zp,nE,rfl⟩
  ·exact Mg (G.eA hg) (G.bY _ hb) (S.e Γ X aa ab 0 _ G) λ_=>aG hp.1 _ _
  ·refine pI (λhc=>?_) ?_
   ·simp only[dq,aC]at hc;obtain⟨⟨hx,g1,g2⟩,BB⟩:=hc;have hx:=aE hx;subst hx;rw[fG,aC]at BB;exact Qc G.hd (G.eA hg) (G.bY _ hb) (G.eA g1) (G.bY _ g2) (S.a Γ X aa ab 0 _ G) (aG BB.1 _ _) (dn BB.2 _ _)
   ·rcases bs with _ | ⟨c,_ | _⟩
    ·exact aP
    ·refine pJ λhc=>?_
     simp only[dq,aC]at hc;obtain⟨⟨⟨hx,g1,g2⟩,p1⟩,p2⟩:=hc;have hx:=aE hx;subst hx;exact Mt G.hd (G.eA hg) (G.bY _ hb) (G.eA g1) (G.bY _ g2) (S.e Γ X aa ab 0 _ G) (S.e Γ X aa ab 0 _ G) (aG p1 _ _) (aG p2 _ _)
    ·exact aP
def MP(Γ:Gm)(X:Cx)(aa:Hp)(ab:Fz)(a:Expr)(es:List Expr)(p cp:Pos)(G:GOk Γ X aa ab)(hp:(a::es).all aK=true)(hg:oR Γ "isinstance"=true)(hb:Γ.bY.contains "isinstance"=true):PE X (.Call (.Name "isinstance" p) (a::es) [] cp) (tE X aa ab (Ej (n+1) Γ a es)):=by
 cases es with
 | nil=>exact aP
 | cons e es=>cases e with
  | Name t=>cases es with
   | cons=>exact aP
   | nil =>
    refine pJ λhc=>?_
    unfold dq at hc;rw[aC]at hc;rw[fG,aC]at hp;cases h1:yI t with
    | none=>exact aP
    | some g=>exact TK h1 (G.eA hg) (G.bY _ hb) (G.eA hc.1) (G.bY _ hc.2) (S.e Γ X aa ab 0 a G) λes=>aG hp.1 es _
  | _=>exact aP
def QC(Γ:Gm)(X:Cx)(aa:Hp)(ab:Fz)(a b:Expr)(p:Pos)(G:GOk Γ X aa ab):PE X (.Subscript a b p) (tE X aa ab (MI (n+1) Γ a b)):=by
 show PE X _ (tE X aa ab (match sG b with | some ⟨lh,_⟩=>_ | none=>_))
 rcases sG b with _ | ⟨⟨lo,hi⟩,ps,rfl⟩
 ·show PE X _ (tE X aa ab (match xx b with | some ⟨lm,_⟩=>_ | none=>_))
  rcases xx b with _ | ⟨⟨lo,hi⟩,ps,rfl⟩
  rotate_left
  ·exact O9 (S.e Γ X aa ab 0 _ G) (S.l Γ X aa ab _ G) (S.l Γ X aa ab _ G)
  refine pJ λhp=>?_
  have gen:=λa=>TM (pos:=p) G.un (S.e Γ X aa ab 0 a G) (S.e Γ X aa ab 0 b G) (nV hp)
  cases a with
  | Name T =>
   refine pI (λhc=>?_) (gen _)
   rw[aC]at hc;cases h0:Γ.cK.lookup T with
   | some rows=>exact PQ (G.cK _ rows h0) (G.eA hc.2) (S.e Γ X aa ab 0 _ G) (nV hp) (dW hc.1).1
   | none =>
    cases h1:Γ.tabs.lookup T with
    | some rows=>exact PR (G.tabs _ rows h1) (G.eA hc.2) (S.e Γ X aa ab 0 _ G) (nV hp) (dW hc.1).1
    | none=>exact gen _
  | _=>exact gen _
 ·exact O4 (S.e Γ X aa ab 0 _ G) (S.l Γ X aa ab _ G) (S.l Γ X aa ab _ G)
def QD(Γ:Gm)(X:Cx)(aa:Hp)(ab:Fz)(tg e:Expr)(G:GOk Γ X aa ab):PI X tg e (As X aa ab (Eo (n+1) Γ tg e)):=by
 have df:∀e,PI X tg e (As X aa ab (if aK e=true then oM (aR n Γ 0 e)else bE)):=λe=>by
  split
  ·exact Dy (S.e Γ X aa ab 0 _ G)
  ·exact uS
 cases e with
 | Call f as ks=>cases f with
  | Name x p =>
   rcases as with _ | ⟨a,_ | ⟨b,_ | _⟩⟩<;>rcases ks with _ | _<;>try exact df _
   ·show PI X _ _ (As X aa ab (ite _ _ _));split
    ·rename_i hc;simp only[dq,aC]at hc;obtain⟨⟨hx,hg,hb⟩,hp⟩:=hc;have hx:=aE hx;subst hx;exact Hm <| Dq (G.eA hg) (G.bY _ hb) (S.a Γ X aa ab 0 _ G) (aG hp _ _)
    ·split
     ·rename_i hc;simp only[dq,aC]at hc;obtain⟨⟨⟨hx,hg,hb⟩,hp⟩,ht⟩:=hc;have hx:=aE hx;subst hx;exact Hm <| T5 ht (G.eA hg) (G.bY _ hb) (S.e Γ X aa ab 0 _ G) (aG hp _ _)
     ·split
      ·rename_i hc;simp only[dq,aC]at hc;obtain⟨hx,hg,hb⟩:=hc;have hx:=aE hx;subst hx;rcases sH a []with _ | ⟨⟨z,e⟩,_,zp,nE,rfl⟩
       ·exact uS
       ·show PI X _ _ (As X aa ab (ite _ _ _));split
        ·rename_i hc;simp only[dq,aC]at hc;obtain⟨⟨hx,g1,g2⟩,BB⟩:=hc;have hx:=aE hx;subst hx;exact uS
        ·exact uS
      ·exact Dy (S.e Γ X aa ab 0 _ G)
   ·show PI X _ _ (As X aa ab (ite _ _ _));split
    ·rename_i hc;simp only[dq,aC]at hc;obtain⟨⟨⟨hx,hg,hb⟩,hp⟩,BB⟩:=hc;have hx:=aE hx;subst hx;exact Hm <| Dr (G.eA hg) (G.bY _ hb) (S.a Γ X aa ab 0 _ G) (by rw[aG hp,aG BB];rfl) (aG BB _ _)
    ·split
     ·rename_i hc;simp only[dq,aC]at hc;obtain⟨⟨⟨⟨hx,hg,hb⟩,hp⟩,BB⟩,ht⟩:=hc;have hx:=aE hx;subst hx;exact Hm <| Qp ht (G.eA hg) (G.bY _ hb) (S.e Γ X aa ab 0 _ G) (S.e Γ X aa ab 0 _ G) (aG hp _ _) (aG BB _ _)
     ·exact Dy (S.e Γ X aa ab 0 _ G)
  | _=>exact df _
 | _=>exact df _
def HW:CC X aa ab elt gens scope p bE:=⟨aP,λ_ _ _ _ _ _ _=>sJ⟩
def cI{c:Prop} [Decidable c] (h:c->CC X aa ab elt gens scope p f):CC X aa ab elt gens scope p (if c then f else bE):=by
 split
 ·exact h ‹_›
 ·exact HW
def QE(Γ:Gm)(X:Cx)(aa:Hp)(ab:Fz)(m:Nat)(elt:Expr)(gens:List Comprehension)(scope:Scope)(p:Pos)(G:GOk Γ X aa ab):CC X aa ab elt gens scope p (MJ (n+1) Γ m elt gens scope):=by
 rcases gens with _ | ⟨⟨tg,iter,ifs,(_ | _) | _⟩,_ | _⟩<;>try exact HW
 refine cI λhp=>?_
 cases h2:sE n (qh Γ scope) tg with
 | none=>exact HW
 | some g =>
  refine cI λhc=>?_
  have SC:=xw G hc;have hL:=(jX hc).2.2.2;have GK:=Ed G hc;have hi:=S.i Γ X aa ab tg iter G;have hg:=λC s H fp=>(jW (GK C s H fp aa ab) n tg g h2).1
  have kg:=(jW (GK 0 X.s₀ X.aa [] aa ab) n tg g h2).2.1;have he:=λC s H fp=>S.e _ _ _ _ (AQ m) elt (GK C s H fp aa ab)
  rcases ifs with _ | ⟨c,_ | _⟩
  ·exact⟨(yN G.calm SC hi (Wb hg he) (eW hp _)).imp λσ H Q h=>Dz kg hL h,λi x p' sp hx hl hw=>(yO G.calm G.nd hx hl SC hi (Wb hg he) hw (eW hp _)).imp λD σ H h=>Dz kg hL (lT h)⟩
  ·have ht:=λC s H fp=>S.t _ _ _ _ c (GK C s H fp aa ab)
   exact⟨(yN G.calm SC hi (Wc hg he ht) (eW hp _)).imp λσ H Q h=>DA kg hL h,λi x p' sp hx hl hw=>(yO G.calm G.nd hx hl SC hi (Wc hg he ht) hw (eW hp _)).imp λD σ H h=>DA kg hL (lT h)⟩
  ·exact HW
def QF(Γ:Gm)(X:Cx)(aa:Hp)(ab:Fz)(x:Str)(a:Expr)(es:List Expr)(p cp:Pos)(G:GOk Γ X aa ab)(hp:(a::es).all aK=true)(hn:ej x=true)(hv:FY Γ x=true):PE X (.Call (.Name x p) (a::es) [] cp) (tE X aa ab (Eh (n+1) Γ x a es)):=by
 have vy:=mm.mp (fG▸hp);cases h1:slot Γ x with
 | none=>show PE X _ (tE X aa ab (match slot Γ x with | some i=>_ | none=>bE));rw[h1];exact aP
 | some i =>
  show PE X _ (tE X aa ab (match slot Γ x with | some i=>p7 Γ.fns Γ.call (rd i) (gG n Γ 0 (a::es)) | none=>bE))
  rw[h1];exact Hz G.fns G.ns (Ja i (qf G hn hv h1)) (S.a Γ X aa ab 0 _ G) (aG vy.1 _ _) (dn vy.2 _ _)
def MQ(Γ:Gm)(X:Cx)(aa:Hp)(ab:Fz)(a:Expr)(es:List Expr)(p cp:Pos)(G:GOk Γ X aa ab)(hp:(a::es).all aK=true)(hg:oR Γ "spread"=true):PE X (.Call (.Name "spread" p) (a::es) [] cp) (tE X aa ab (Ei (n+1) Γ a es)):=by
 exact aP
def QG(Γ:Gm)(X:Cx)(aa:Hp)(ab:Fz)(m:Nat)(x:Str)(a:Expr)(es:List Expr)(p cp:Pos)(G:GOk Γ X aa ab)(hp:(a::es).all aK=true)(hn:ej x=true)(hg:oR Γ x=true):PE X (.Call (.Name x p) (a::es) [] cp) (tE X aa ab (ML (n+1) Γ m x a es)):=by
 have vy:=hp;rw[fG,aC]at vy;obtain⟨n1,n2,n3⟩:=dW hn;have ha:=S.a Γ X aa ab 0 (a::es) G;have h1:=aG vy.1 es X.env;have h2:=dn vy.2 X.env cp;refine pI (λhx=>?_) ?_
 ·cases aE hx;exact S.sp Γ X aa ab a es p cp G hp hg
 cases hk:Γ.fns.lookup x with
 | some k =>
  obtain⟨j,f,fd,ps,F,hr,q1,q2,q3⟩:=G.fns _ k hk;exact LO (UT F hr q3) (G.eA hg) q1 q2 ha n1 h1 h2
 | none=>cases hk:Γ.cls.lookup x with
  | some k=>cases m with
   | zero =>
    obtain⟨j,Ca,f,fd,ps,hC,c,M,F,hr,q1,q2⟩:=G.cls _ k hk;exact(Gj (p:=p) M F hr (G.eA hg) q1 q2 .nil CP ha n1 h1 h2).imp λσ H Q h=>HA hC c h
   | succ=>exact aP
  | none =>
   refine pJ λhb=>pI (λhx=>?_) (pI (λhx=>?_) (pI (λhx=>?_) (pI (λhx=>?_) (pI (λhx=>?_) ?_))))
   ·cases aE hx;exact S.is Γ X aa ab a es p cp G hp hg hb
   ·cases aE hx;exact S.st Γ X aa ab a es p cp G hp hg hb
   ·cases aE hx;exact S.d Γ X aa ab a es p cp G hp hg hb
   ·cases aE hx;exact S.li Γ X aa ab m a es p cp G hp hg hb
   ·obtain⟨rfl,rfl,e,zp,zq,rfl,g1,g2,g3⟩:=AR hx;exact MB G.hd (G.eA hg) (G.bY _ hb) (G.eA g1) (G.bY _ g2) (S.e Γ X aa ab 0 _ G) (aG g3 _ _)
   cases YD:sF x with
   | some g=>exact MD YD G.hd (G.eA hg) (G.bY _ hb) ha h1 h2
   | none=>exact aP
def QH(Γ:Gm)(X:Cx)(aa:Hp)(ab:Fz)(m:Nat)(f a:Expr)(es:List Expr)(cp:Pos)(G:GOk Γ X aa ab)(hp:(a::es).all aK=true):PE X (.Call f (a::es) [] cp) (tE X aa ab (MK (n+1) Γ m f a es cp)):=by
 have vy:=hp;rw[fG,aC]at vy;cases f with
 | Name=>exact pJ λhn=>pI (λhg=>S.cn Γ X aa ab m _ a es _ cp G hp hn hg) (pJ λhv=>S.o Γ X aa ab _ a es _ cp G hp hn hv)
 | Subscript=>exact Hy G.fns G.ns (S.e Γ X aa ab 0 _ G) (S.a Γ X aa ab 0 _ G) (aG vy.1 _ _) (dn vy.2 _ _)
 | Attribute o g ap =>
  refine pJ λhc=>?_
  simp only[aC,iQ]at hc;refine pI (λhx=>?_) ?_
  ·have hx:=aE hx;subst hx;exact Qg G.un (S.e Γ X aa ab 0 _ G) (S.a Γ X aa ab _ _ G) (jV hc.1.1) (zg hp hc.2) hc.1.2 (aG vy.1 _ _) (dn vy.2 _ _)
  show PE X _ (tE X aa ab (match uB g with | some w=>_ | none=>bE))
  cases hw:uB g with
  | none=>exact aP
  | some w=>exact Ud G.un hw (S.e Γ X aa ab 0 _ G) (S.a Γ X aa ab _ _ G) (jV hc.1.1) (zg hp hc.2) hc.1.2 (aG vy.1 _ _) (dn vy.2 _ _)
 | _=>exact aP
def QI(Γ:Gm)(X:Cx)(aa:Hp)(ab:Fz)(m:Nat)(e:Expr)(G:GOk Γ X aa ab):PE X e (tE X aa ab (aR (n+1) Γ m e)):=by
 cases e with
 | Constant c=>cases c<;>first | exact aP | exact OL | exact Tq | exact OK | exact OM
 | Name x =>
  show PE X _ (tE X aa ab (ME Γ x));unfold ME;split
  ·rename_i hn;split
   ·rename_i hv;split
    ·rename_i i hi;exact Ja i (qf G hn hv hi)
    ·exact aP
   ·split
    ·rename_i hg;split
     ·rename_i q hq;obtain⟨u,v,g1,g2,g3⟩:=G.cons _ q hq;exact ua (jy (G.eA hg) g1 g2 (dW hn).1) g3
     ·exact aP
    ·exact aP
  ·exact aP
 | BinOp a op b =>
  refine pI (λhc=>?_) ?_
  ·rw[aC]at hc;obtain rfl:op=.Add:=by
    cases op<;>first | rfl | cases hc.2
   exact Mi (S.e Γ X aa ab 0 _ G) (S.e Γ X aa ab 0 _ G)
  show PE X _ (tE X aa ab (match HV op with | some g=>op2 g (aR n Γ 0 a) (aR n Γ 0 b) | none=>bE))
  cases h1:HV op with
  | none=>exact aP
  | some=>exact Ts (D1 h1) (S.e Γ X aa ab 0 _ G) (S.e Γ X aa ab 0 _ G)
 | UnaryOp op=>cases op with
  | Not=>exact OT (S.e Γ X aa ab 0 _ G)
  | USub=>exact O7 (S.e Γ X aa ab 0 _ G)
  | _=>exact aP
 | BoolOp=>exact S.b Γ X aa ab _ _ _ G
 | Compare=>exact S.k Γ X aa ab _ _ _ _ G
 | IfExp=>exact Tw (S.t Γ X aa ab _ G) (S.e Γ X aa ab m _ G) (S.e Γ X aa ab m _ G)
 | Tuple=>exact OW (S.a Γ X aa ab m _ G)
 | List=>cases m with
  | zero=>exact OX (S.a Γ X aa ab 0 _ G)
  | succ=>exact KZ (S.a Γ X aa ab _ _ G)
 | Dict ks vs=>rcases ks with _ | _<;>rcases vs with _ | _<;>first | exact PN _ | exact aP
 | Subscript=>exact S.x Γ X aa ab _ _ _ G
 | ListComp=>exact(S.c Γ X aa ab m _ _ _ _ G).1
 | Attribute =>
  show PE X _ (tE X aa ab (ite _ _ _));split
  ·rename_i hb;exact PU (S.e Γ X aa ab 0 _ G) (jV hb)
  ·exact aP
 | Call f as ks=>cases as with
  | cons=>cases ks with
   | cons=>exact aP
   | nil =>
    show PE X _ (tE X aa ab (ite _ _ _));split
    ·rename_i hp;exact S.f Γ X aa ab m _ _ _ _ G hp
    ·exact aP
  | nil=>cases ks with
   | cons=>cases f<;>exact aP
   | nil=>cases f with
    | Attribute =>
     show PE X _ (tE X aa ab (ite _ _ _));split
     ·rename_i hc;rw[aC]at hc;split
      ·rename_i hx;have hx:=aE hx;subst hx;exact P2 (S.e Γ X aa ab 0 _ G) (jV hc.1) hc.2
      split
      ·rename_i w hw;exact PJ hw (S.e Γ X aa ab 0 _ G) (jV hc.1) hc.2
      ·exact aP
     ·exact aP
    | _=>exact aP
 | _=>exact aP
end
theorem snd:∀n:Nat,UY n
 | 0=>Ep
 | n+1 =>
  have S:=snd n
  ⟨QI S,QH S,QF S,QG S,MQ,MN,QB S,MO S,MP S,Qz S,QC S,QA S,Qv S,Qw S,Qx S,Qy S,QD S,QE S⟩
structure UZ (Γ:Gm) (X:Cx) (aa:Hp) (ab:Fz):Prop extends GOk Γ X aa ab where
 never:PassesOwn (model X.prog X.w) X.A X.env X.xe
def Er:Expr->Bool
 | .ListComp _ _ _ _=>true
 | _=>false
def QJ:G2:=lD (λ_ _=>true) λi j=>.int (i+j)
def MR:Operator->Option G2
 | .Add=>some QJ
 | _=>none
def sI{c:Prop} [Decidable c] (h:c->PS X e (tS X aa ab f)):PS X e (tS X aa ab (if c then f else bE)):=by
 split
 ·exact h ‹_›
 ·exact fA
section
variable {Γ:Gm} {X:Cx} {x:Str} {p sp:Pos} {e:Expr} {op:Operator} {i:Nat} {aa:Hp} {ab:Fz} {fe:Gx PV} {g:G2}
def HX(h:MR op=some g):oA X (inplaceOp op) g:=by
 cases op<;>cases h
 exact dR (pP F9) (λ_ _ _=>trivial) λ_ _ _=>au.mpr rfl
def HY{st:bN}(h:rd i st=some r):∃p,st.ρ[i]?=some (some p)/\r=(.ok p,st):=by
 obtain⟨p,e1,e2⟩:=aI h;cases z:st.ρ[i]? with
 | none=>rw[z]at e1;cases e1
 | some o =>
  rw[z]at e1;cases o with
  | none=>cases e1
  | some p'=>cases e1;exact⟨p,rfl,e2.symm⟩
def QK(ho:oA X (inplaceOp op) g)(he:PE X e (tE X aa ab fe))(hN:X.N.Nodup)(hi:X.N[i]?=some x)(hx:IL X.env.scope x)(hf:X.fn x=true\/X.env.scope.names.lookup x=some .local):PS X (.AugAssign (.Name x p) op e sp) (tS X aa ab (m9 (op2 g (rd i) fe) (cC i))):=by
 refine(Kg hN hi hx he (λae s σ H x y v u Q I r1 r2 t=>ho ae s σ H x y v u Q I r1 r2 t) hf).imp λD σ H h=>?_
 obtain⟨F,st,R,h⟩:=lT h;obtain⟨r,e1,e2⟩:=At.bnd h;obtain⟨q,e3,rfl⟩:=HY e1;obtain⟨v,h3,h4⟩:=R.l.av i q e3;refine⟨v,h3,F,st,R,Tx.bnd (e2) λy w F1 aH H1 R1 g1 b1 h1=>?_⟩
 obtain⟨z,hz,k⟩:=h1.hp;exact⟨aa,ab,F1,aH,σ,q,y,z,hz,R1,h4.mono g1,b1,k⟩
def uT(G:GOk Γ X aa ab)(hs:slot Γ x=some i)(hx:NG Γ x=true)(he:PE X e (tE X aa ab fe))(YE:swapsWith e (some (.Name x p)) sp.line X.env=pure false):PS X (.Assign [.Name x p] e sp) (tS X aa ab (m9 fe (cC i))):=by
 obtain⟨h1,h2⟩:=G.MC hx;exact(Kf G.nd (G.qe hs) h1 he YE h2).imp λD σ H h=>lT h
def xA :
  (swapsWith (.ListComp elt gens scope cp) (some (.Name x p)) sp.line X.env=pure true/\X.env.scope.names.lookup x=some .local)\/swapsWith (.ListComp elt gens scope cp) (some (.Name x p)) sp.line X.env=pure false:=by
 have e:swapsWith (.ListComp elt gens scope cp) (some (.Name x p)) sp.line X.env=pure (X.env.blockKind==.function&&X.env.kindOf x==some .local&&p.line==(Expr.ListComp elt gens scope cp).pos.line&&!(scope.names.any fun(n,k)=>n==x&&(k==.local || k==.cell))):=rfl
 rw[e];cases hb:(X.env.blockKind==.function&&X.env.kindOf x==some .local&&p.line==(Expr.ListComp elt gens scope cp).pos.line&&!(scope.names.any fun(n,k)=>n==x&&(k==.local || k==.cell)))with
 | true =>
  refine .inl ⟨rfl,?_⟩;simp only[aC]at hb;exact aE hb.1.1.2
 | false=>exact .inr rfl
def AU(h:(ib e || Er e)=true)(l:Nat)(env:Env):swapsWith e (some (.Attribute a x p)) l env=pure false:=by
 cases e<;>first | rfl | cases h
def AV{a x:Expr}(h:(ib e || Er e)=true)(l:Nat)(env:Env):swapsWith e (some (.Subscript a x p)) l env=pure false:=by
 cases e<;>first | rfl | cases h
def xB(h:lW k=true)(env:Env)(v:Value):assign (.Subscript o k p) env v=(do
   let ov <-holding [v] (eval o env)
   let iv <-holding [v,ov] (eval k env)
   standAt p
   holding [v,ov,iv] (setItem ov iv v)
   release [v,ov,iv] []):=by
 cases k<;>first | rfl | cases h
def xC(env:Env):swappedStores [.Subscript o k p] e env=pure none:=by
 cases e<;>rfl
end
def WA:Nat:=8000000
def YF(Γ:Gm):Expr->Bool
 | .Name x _=>md Γ x==10
 | _=>false
def WB:Str:="[return]"
def asName(n:Nat)(Γ:Gm)(x:Str)(e:Expr):Gx dN:=if(NG Γ x&&(ib e || Er e))=true then(match slot Γ x with | some i=>m9 (aR n Γ (md Γ x) e) (cC i) | none=>bE)else bE
noncomputable def Jz(n:Nat)(Γ:Gm)(tg e:Expr):Gx dN:=match tg with
 | .Name x _=>asName n Γ x e
 | .Tuple ts k p=>if zf e=true then(match sE n Γ (.Tuple ts k p)with | some g=>m9 (aR n Γ 0 e) g.1 | none=>bE)else bE
 | .Subscript o k _=>if(lW k&&(ib e || Er e))=true then LX (aR n Γ (Qs Γ o) e) (aR n Γ 0 o) (aR n Γ 0 k)else bE
 | .Attribute o f _=>if(ib e || Er e)=true then xj Γ.clss Γ.flds f (aR n Γ (md Γ f) e) (aR n Γ 0 o)else bE
 | _=>bE
noncomputable def JA(n:Nat)(Γ:Gm)(tg:Expr)(op:Operator)(e:Expr):Gx dN:=match tg with
 | .Name x _=>if NG Γ x=true then(match slot Γ x,MR op with | some i,some g=>m9 (op2 g (rd i) (aR n Γ 0 e)) (cC i) | _,_=>bE)else bE
 | _=>bE
mutual
noncomputable def MS:Nat->Gm->Stmt->Gx dN
 | 0,_,_=>bE
 | n+1,Γ,st=>match st with
  | .Pass _=>bP .nx
  | .Break _=>bP .bk
  | .Continue _=>bP .ct
  | .Return none _=>bP (.rt .aV)
  | .Return (some e) _=>if md Γ WB==7 then Ad (LJ (aR n Γ 1 e))else Ad (aR n Γ (md Γ WB) e)
  | .If c a b _=>gX (oS n Γ c) (jY n Γ a) (jY n Γ b)
  | .While c b [] _=>kG (oS n Γ c) (jY n Γ b) WA
  | .For tg iter body [] _=>if aK iter=true then(match sE n Γ tg with | some g=>if YF Γ iter=true then bE else LH (Eo n Γ tg iter) g.1 (jY n Γ body) | none=>bE)else bE
  | .Expr e _=>if ib e=true then CW (aR n Γ 0 e)else bE
  | .Assign [tg] e _=>Jz n Γ tg e
  | .AugAssign tg op e _=>JA n Γ tg op e
  | _=>bE
termination_by structural n=>n
noncomputable def jY:Nat->Gm->List Stmt->Gx dN
 | 0,_,_=>bE
 | n+1,Γ,[]=>bP .nx
 | n+1,Γ,[st]=>MS n Γ st
 | n+1,Γ,st::NI=>rP (MS n Γ st) (jY n Γ NI)
termination_by structural n=>n
end
structure U0 (n:Nat):Prop where
 s:∀Γ X aa ab st,UZ Γ X aa ab->PS X st (tS X aa ab (MS n Γ st))
 ss:∀Γ X aa ab NI,UZ Γ X aa ab->PSs X NI (tS X aa ab (jY n Γ NI))
def MT:PSs X s (tS X aa ab bE):=λ_ _ _ _ _ _ ⟨F,st,R,r,z,_⟩=>by cases z
def MU(G:GOk Γ X aa ab):PS X (.Assign [tg] e sp) (tS X aa ab (Jz n Γ tg e)):=by
 have S:=snd n;cases tg with
 | Name x p =>
  refine sI λhc=>?_
  rw[aC]at hc;cases hi:slot Γ x with
  | none=>exact fA
  | some i =>
   rcases Bool.or_eq_true _ _▸hc.2 with hn | hl
   ·exact uT G hi hc.1 (S.e Γ X aa ab _ _ G) (ic hn _ _ _)
   ·cases e<;>try (exact absurd hl du)
    rcases xA with⟨z,hl⟩ | z
    ·cases n with
     | zero=>exact sJ
     | succ n=>exact((snd n).c Γ X aa ab _ _ _ _ _ G).2 i x p sp (G.qe hi) hl z
    ·exact uT G hi hc.1 (S.e Γ X aa ab _ _ G) z
 | Tuple ts k tp =>
  refine sI λhc=>?_
  cases h1:sE n Γ (.Tuple ts k tp)with
  | none=>exact fA
  | some g =>
   obtain⟨g1,g2,g3,g4⟩:=jW G n _ g h1;refine O0 (S.e Γ X aa ab _ _ G) g1 (ic (sy hc) (some (Expr.Tuple ts k tp)) sp.line X.env) ?_ (g3 _);cases e<;>first | rfl | cases hc
 | Subscript o k tp =>
  refine sI λhc=>?_
  rw[aC]at hc;exact PM G.un (S.e Γ X aa ab _ _ G) (S.e Γ X aa ab _ _ G) (S.e Γ X aa ab _ _ G) (xB hc.1 _) (AV (a:=o) (x:=k) (p:=tp) hc.2 sp.line X.env) (xC _)
 | Attribute=>exact sI λhc=>PX G.NH (S.e Γ X aa ab _ _ G) (S.e Γ X aa ab _ _ G) (AU hc _ _)
 | _=>exact fA
def MV(G:GOk Γ X aa ab):PS X (.AugAssign tg op e sp) (tS X aa ab (JA n Γ tg op e)):=by
 cases tg with
 | Name x p =>
  refine sI λhc=>?_
  cases h1:slot Γ x with
  | none=>exact fA
  | some i=>cases h2:MR op with
   | none=>exact fA
   | some g =>
    obtain⟨l1,l2⟩:=G.MC hc;exact QK (HX h2) ((snd n).e Γ X aa ab _ _ G) G.nd (G.qe h1) l1 l2
 | _=>exact fA
theorem U1:∀n:Nat,U0 n
 | 0=>⟨λ_ _ _ _ _ _=>fA,λ_ _ _ _ _ _=>MT⟩
 | n+1=>by
  have T:=U1 n;have S:=snd n;refine⟨λΓ X aa ab st G=>?_,λΓ X aa ab NI G=>?_⟩
  ·cases st with
   | Pass=>exact K3
   | Break=>exact GH
   | Continue=>exact K4
   | Return e=>cases e with
    | none=>exact K5
    | some e =>
     show PS X _ (tS X aa ab (ite _ _ _));split
     ·exact Jb (Py (S.e Γ X aa ab _ _ G.toGOk))
     ·exact Jb (S.e Γ X aa ab _ _ G.toGOk)
   | If=>exact Tz (S.t Γ X aa ab _ G.toGOk) (T.ss Γ X aa ab _ G) (T.ss Γ X aa ab _ G)
   | While c b o=>cases o with
    | nil=>exact GL WA G.never (S.t Γ X aa ab _ G.toGOk) (T.ss Γ X aa ab _ G)
    | cons=>exact fA
   | For tg iter body o=>cases o with
    | cons=>exact fA
    | nil =>
     refine sI λhp=>?_
     cases h1:sE n Γ tg with
     | none=>exact fA
     | some g =>
      show PS X _ (tS X aa ab (ite _ _ _));split
      ·exact fA
      ·exact LI G.never G.calm (S.i Γ X aa ab _ _ G.toGOk) (jW G.toGOk n _ g h1).1 (T.ss Γ X aa ab _ G) (eW hp _)
   | Expr=>exact sI λhc=>K6 (S.e Γ X aa ab _ _ G.toGOk) (ic hc _ _ _)
   | Assign ts=>rcases ts with _ | ⟨_,_ | _⟩<;>first | exact MU G.toGOk | exact fA
   | AugAssign=>exact MV G.toGOk
   | _=>exact fA
  ·rcases NI with _ | ⟨st,_ | _⟩
   ·exact K1
   ·exact K2 (T.s Γ X aa ab st G)
   ·exact GG (T.s Γ X aa ab st G) (T.ss Γ X aa ab _ G)
def Es:Nat:=120
abbrev CT:=Str->lG
def noFn:CT:=λ_ _ _=>none
def MW(P:Pg):List (Str×Nat):=P.cls.map λd=>(d.1,(params d.2).length)
def QL(P:Pg)(x:Str)(st:Stmt)(cls:List (Str×Nat))(make:CT)(D7:Option ((PV->Gx PV)->Nat->lG))(D8:Option (Nat×(PV->Gx PV)))(c:CT):Gm where
 sc:=(ay st).names
 N:=bL st
 own:=true
 fns:=P.defs.map λd=>(d.1,(params d.2).length)
 call:=c
 cons:=P.cons
 bY:=P.bY
 tabs:=P.tabs
 cK:=P.cK
 cls:=cls
 make:=make
 clss:=P.cls.map (·.1)
 flds:=P.flds
 NR:=(P.NR.lookup x).getD []
 D7:=D7
 D8:=D8
def WC(P:Pg)(C:Str)(st:Stmt)(c:CT):Gx dN:=jY Es (QL P C st [] noFn none none c) (cR st)
def Fl(P:Pg)(c:CT):CT:=λC=>match P.cls.lookup C with | some st=>gE (WC P C st c) (bL st).length | none=>λ_ _=>none
def QM(P:Pg)(x:Str)(c:CT):Option ((PV->Gx PV)->Nat->lG):=none
def QN(P:Pg)(x:Str)(st:Stmt)(c:CT):Gx dN:=jY Es (QL P x st (MW P) (Fl P c) (QM P x c) none c) (cR st)
def run(P:Pg):Nat->CT
 | 0=>noFn
 | k+1=>λx=>match P.defs.lookup x with | some st=>gE (QN P x st (run P k)) (bL st).length | none=>λ_ _=>none
def MX{P:Pg}{k:Nat}{x:Str}{st:Stmt}(h:P.defs.lookup x=some st):run P (k+1) x=gE (QN P x st (run P k)) (bL st).length:=by
 show(match P.defs.lookup x with | some st=>gE (QN P x st (run P k)) (bL st).length | none=>λ_ _=>none)=_
 rw[h]
theorem ig{α β:Type}(g:α->β)(x:Str):∀l:List (Str×α),(l.map λd=>(d.1,g d.2)).lookup x=(l.lookup x).map g
 | []=>rfl
 | (n,a)::r=>by
  rw[aA,fF,fF];cases x==n with
  | true=>rfl
  | false=>exact ig g x r
section
variable {prog:Program} {w:World} {K:W.Frag} {mg:Str->Option Value} {base:Heap}
structure uU (P:Pg) (w:World) (K:W.Frag) (mg:Str->Option Value):Prop where
 fns:∀x st,P.defs.lookup x=some st->∃f fd,zA K x x st f fd/\eO K fd (params st) []/\mg x=some (.ref f)/\cQ (bL st) (params st) (ay st)
 cons:∀x p,P.cons.lookup x=some p->∃u v,mg x=some u/\RelV v u/\∀F,aS K F p v
 bY:∀x,P.bY.contains x=true->mg x=none
 tabs:∀T rows,P.tabs.lookup T=some rows->yU K mg w.params T rows
 cK:∀T rows,P.cK.lookup T=some rows->nD K mg w.params T rows
 ns:∀x a,W.nsIn K mainGlobals x=some (some (.ref a))->mg x=some (.ref a)
 NH:DN K (P.cls.map (·.1)) P.flds
 cls:∀C st,P.cls.lookup C=some st->∃Ca f fd,ClsAt K C (.ref Ca)/\zz K Ca/\Mk K Ca f/\mg C=some (.ref Ca)/\zA K "__init__" (C++".__init__") st f fd/\eO K fd (params st) []/\cQ (bL st) (params st) (ay st)
def FR(P:Pg)(prog:Program)(w:World)(K:W.Frag)(mg:Str->Option Value)(base:Heap)(k:Nat):Prop:=∀(x:Str) (st:Stmt) (f:Addr) (fd:FuncData),P.defs.lookup x=some st->mg x=some (.ref f)->zA K x x st f fd->cQ (bL st) (params st) (ay st) ->
 FnOk prog w K mg base (js prog w) (3*k) f fd (params st) (Ax K (params st).length (run P k x))
section
variable {P:Pg} (O:uU P w K mg) {k:Nat} (ih:FR P prog w K mg base k)
include O ih
def QO{X:Cx}(h1:X.prog=prog)(h2:X.w=w)(h3:X.K=K)(h4:X.mg=mg)(h5:X.base=base):Qr X (3*k) (P.defs.map λd=>(d.1,(params d.2).length)) (run P k):=λy n hy=>by
 subst h1 h2 h3 h4 h5;rw[ig (λst=>(params st).length)]at hy
 obtain⟨bB,h1,h2⟩:=aI hy;subst h2;obtain⟨f',NJ,F1,B1,m1,S1⟩:=O.fns y bB h1;exact⟨3*k,f',NJ,params bB,aq _,ih y bB f' NJ h1 m1 F1 S1,m1,F1.kp,B1⟩
def JB{st:Stmt}{x q:Str}{f:Addr}{dQ:Value}{A:Around}{aB:List Env}{s:Shared}{H aa:Hp}{ab:Fz}{E:XK}{cls:List (Str×Nat)}{make:CT}{D7:Option ((PV->Gx PV)->Nat->lG)}{D8:Option (Nat×(PV->Gx PV))}{j:Nat}(S:cQ (bL st) (params st) (ay st))
  (hr:dw j (A.deeper (envOfC q (ay st) s.heap.objs.size f dQ))) (hj:3*k<=j) (hcl:∀C n,cls.lookup C=some n->∃k' Ca f' fd ps,ClsAt K C (.ref Ca)/\zz K Ca/\Mk K Ca f'/\FnOk prog w K mg base (js prog w) k' f' fd ps (Ax K n (make C))/\dw (k'+1) (A.deeper (envOfC q (ay st) s.heap.objs.size f dQ))/\mg C=some (.ref Ca)/\eO K fd ps [])
  (U2:∀rs,D7=some rs->Jx (QL P x st cls make D7 D8 (run P k)) (eQ (js prog w) prog w K mg base (bL st) q (ay st) f dQ A aB s H E) rs)
  (U3:∀n ω,D8=some (n,ω)->DO (eQ (js prog w) prog w K mg base (bL st) q (ay st) f dQ A aB s H E) aa ab n ω) :
  UZ (QL P x st cls make D7 D8 (run P k)) (eQ (js prog w) prog w K mg base (bL st) q (ay st) f dQ A aB s H E) aa ab:=by
 refine⟨⟨rfl,rfl,S.nd,S.kind,rfl,hr.hd,?_,λ_ _=>rfl,λy n hy=>?_,O.cons,O.bY,O.tabs,O.cK,O.ns,O.NH,hcl,U2,U3⟩,PassesOwn.leaving⟩
 ·have:=hr.un;show(A.deeper _).units+1150<cLine
  lia
 ·obtain⟨i,f',NJ,ps,h1,h2,h3,h4,h5⟩:=QO (X:=eQ (js prog w) prog w K mg base (bL st) q (ay st) f dQ A aB s H E) O ih rfl rfl rfl rfl rfl y n hy;exact⟨i,f',NJ,ps,h2,hr.mono (aL h1 hj),h3,h4,h5⟩
def QP{C:Str}{st:Stmt}{f:Addr}{fd:FuncData}(h:P.cls.lookup C=some st)(F:zA K "__init__" (C++".__init__") st f fd)(S:cQ (bL st) (params st) (ay st)):FnOk prog w K mg base (js prog w) (3*k+1) f fd (params st) (Ax K (params st).length (Fl P (run P k) C)):=by
 have e:Fl P (run P k) C=gE (WC P C st (run P k)) (bL st).length:=by
  unfold Fl;rw[h]
 rw[e];exact DF F S λdQ A aB s H E _ hr aa ab=>(U1 Es).ss _ _ aa ab _ (JB O ih S hr (aq _) (λ_ _ z=>by cases z) (λ_ z=>by cases z) λ_ _ z=>by cases z)
end
theorem Et{P:Pg}(O:uU P w K mg)(hB:P.oE≠[]->CO mg base):∀(k:Nat),FR P prog w K mg base k
 | 0=>λx st f fd h Bz F S=>by
  have no:∀vs H Q E,¬Ax K (params st).length (run P 0 x) vs H Q E:=λvs H Q E ⟨_,_,_,_,_,_,_,_,_,_,z,_⟩=>by cases z
  exact⟨λvs H Q E h=>absurd h (no vs H Q E),λA aB s H args us vs Q E _ _ _ _ h=>absurd h (no vs H Q E)⟩
 | k+1=>λx st f fd h Bz F S=>by
  have ih:=Et (P:=P) O hB k;rw[MX h];refine DF (k:=3*k+2) F S λdQ A aB s H E Wi hr aa ab=>(U1 Es).ss _ _ aa ab _ (JB O ih S hr (wd _ _) (λC n hy=>?_) (λrs e=>by cases e) λ_ _ z=>by cases z)
  unfold MW at hy;rw[ig (λst=>(params st).length)]at hy
  obtain⟨bB,h1,h2⟩:=aI hy;subst h2;obtain⟨Ca,f',NJ,a,c,M,m1,F1,B1,S1⟩:=O.cls C bB h1;exact⟨3*k+1,Ca,f',NJ,params bB,a,c,M,QP O ih h1 F1 S1,hr,m1,B1⟩
def xD(ns:List Int):PV:=.lst (ns.map .int)
theorem uV{F:Fz}:∀ns:List Int,ao K F (ns.map .int) (ns.map V.int)
 | []=>.nil
 | n::r=>.cons (au.mpr rfl) (uV r)
end
theorem dP{α β:Type} [BEq α] [LawfulBEq α] {k:α} {v:β}:∀{l:List (α×β)},l.lookup k=some v->(k,v)∈l
 | [],h=>by cases h
 | (a,b)::l,h=>by
  rw[fF]at h;cases z:k==a with
  | true =>
   rw[z]at h;cases h;rw[aE z];exact cb
  | false =>
   rw[z]at h;exact bW _ (dP h)
def zB.at{K:W.Frag}{h:Heap}{mg:Str->Option Value}{P:Params}{T:Str}{rows:List (Str×Str)}(x:zB K P T rows)(X:K.In h)(G:h.Ns mainGlobals mg):yU K mg P T rows:=by
 obtain⟨a,es,n,h1,h2,h3,h4⟩:=x;refine⟨a,es,n,W.mg_of X G h1,h2,h3,λk fn e=>?_⟩
 obtain⟨f,h5,h6⟩:=h4 (k,fn) (dP e);exact⟨f,h5,W.mg_of X G h6,h6⟩
def tD.at{K:W.Frag}{h:Heap}{mg:Str->Option Value}{P:Params}{T:Str}{rows:List (Str×PV)}(x:tD K P T rows)(X:K.In h)(G:h.Ns mainGlobals mg):nD K mg P T rows:=by
 obtain⟨a,es,n,h0,h1,h2,h3,h4⟩:=x;exact⟨a,es,n,h0,W.mg_of X G h1,h2,h3,λk p e=>h4 (k,p) (dP e)⟩
def BR.at{K:W.Frag}{h base:Heap}{mg:Str->Option Value}(b:BR K)(X:K.In h)(G:h.Ns mainGlobals mg)(Y:K.In base):CO mg base :=
 let ⟨bm,o,h1,h2,h3,h4,h5⟩:=b;⟨bm,o,W.mg_of X G h1,h2,h3,Y _ _ h4,h5⟩
def uW(K:W.Frag):List (Addr×Str):=cJ.filterMap λx=>(W.tabIn K x).map λcT=>(cT.2,FJ x)
theorem qk{α β:Type} [BEq α] [LawfulBEq α] {b:α} {q:β}:∀{l:List (α×β)},(l.map (·.1)).Nodup->(b,q)∈l->l.lookup b=some q
 | [],_,h=>nomatch h
 | (a,v)::l,hn,h=>by
  rw[aA,eL]at hn;rw[fF];rcases aY.mp h with e | h'
  ·grind
  ·have:(b==a)=false:=by
    grind
   rw[this];exact qk hn.2 h'
def AW(K:W.Frag):(uW K).map (·.1)=cJ.filterMap λx=>(W.tabIn K x).map (·.2):=by
 unfold uW;rw[List.map_filterMap]
 congr 1
 funext x
 cases W.tabIn K x<;>rfl
def jv.tabs{K:W.Frag}{h:Heap}(t:jv K h)(X:K.In h):(∀b q,(uW K).lookup b=some q->h.get? b=some {cls:=.none,data:=.fields #[]}/\isCodeTable h b/\K.lookup b=none)/\∀H:Hp,(∀b q,(uW K).lookup b=some q->H b=some (.jn q))->mN K H:=by
 refine⟨λb q e=>?_,λH hH x hx c T e=>?_⟩
 ·have hm:=dP e;unfold uW at hm;obtain⟨x,hx,e2⟩:=mv.mp hm;obtain⟨cT,e3,e4⟩:=fD.mp e2;cases e4;obtain⟨h1,h2,h3⟩:=t.at_ x hx cT.1 cT.2 e3;obtain⟨o,vs,_,_,_,_,_,_,_,g1,g2,g3,g4,_⟩:=W.codeHd_of_K X h1;exact⟨h2,⟨_,o,vs,g1,g2,g3,g4⟩,h3⟩
 ·refine hH T (FJ x) (qk (by rw[AW];exact t.nd) ?_)
  exact mv.mpr ⟨x,hx,by rw[e];rfl⟩
def QQ(P:Pg):Bool:=P.oE.isEmpty || (match P.defs.lookup ("spread":Str)with | some st=>(params st).length==2 | none=>true)
def U4{P:Pg}{K:W.Frag}{h:Heap}{mg:Str->Option Value}(X:K.In h)(G:h.Ns mainGlobals mg)(hd:∀d∈P.defs,BQ K d.1 d.2)
  (hc:∀d∈P.cons,∃u v,W.nsIn K mainGlobals d.1=some (some u)/\RelV v u/\∀F,aS K F d.2 v) (hb:∀x∈P.bY,W.nsIn K mainGlobals x=some none) {w:World} (ht:∀d∈P.tabs,zB K w.params d.1 d.2) (hcl:∀d∈P.cls,JM K d.1 d.2 P.flds) (hct:∀d∈P.cK,tD K w.params d.1 d.2) (LS:QQ P=true) (VH:∀x∈P.oE,JN K x):uU P w K mg where
 fns:=λx st e=>by
  obtain⟨⟨f,fd,a,F,b⟩,s⟩:=hd (x,st) (dF e);exact⟨f,fd,F,.all b,W.mg_of X G a,s⟩
 cons:=λx p e=>by
  obtain⟨u,v,a,r,b⟩:=hc (x,p) (dF e);exact⟨u,v,W.mg_of X G a,r,b⟩
 bY:=λx e=>W.mg_none_of X G (hb x (by simpa using e))
 tabs:=λT rows e=>(ht (T,rows) (dP e)).at X G
 cK:=λT rows e=>(hct (T,rows) (dP e)).at X G
 ns:=λx a e=>W.mg_of X G e
 NH:=λC e=>by
  have e:C∈P.cls.map (·.1):=by simpa using e
  obtain⟨d,hd,rfl⟩:=dJ.mp e;obtain⟨Ca,f,fd,a,M,c,na,F,b,s⟩:=hcl d hd;exact⟨Ca,a,c,λg hg=>na g (by simpa using hg)⟩
 cls:=λC st e=>by
  obtain⟨Ca,f,fd,a,M,c,na,F,b,s⟩:=hcl (C,st) (dF e);exact⟨Ca,f,fd,a,c,M,W.mg_of X G a,F,.all b,s⟩
def R0(o:Option (Rs PV×List aj)):Prop:=∃h,o=some (.ok (.bl true),h)
def MY{K:W.Frag}{P:Pg}{k:Nat}{H:Hp}{a:Addr}{ns:List Int}(hr:R0 (run P k "law" [xD ns] []))(hS:fJ K H a (ns.map V.int)):Ax K 1 (run P k "law") [.ref a] H (λv _=>v=.bl true) λ_ _ _=>False :=
 let ⟨h,e⟩:=hr
 ⟨H,⟨H,[]⟩,[],[xD ns],_,h,⟨bQ.refl H,bQ.refl H,Gr.refl _,λ_ _ e=>.inl e,λn a e=>by simp at e,rfl,rg,λn c a e=>by simp at e⟩,λ_ _ e=>.inl e,.cons (cg.mpr ⟨a,_,rfl,hS,uV ns⟩) .nil,rfl,e,λv F' H' _ b=>aN.mp b⟩
def Eu{P:Pg}{N:Nat}{x:Str}{st:Stmt}{l:W.OpenLaw}{q:Program}{loose:List Str}{XP:(Str->Option Value)->Heap->Prop}{YP:World->Heap->Prop}{d:DefRec}(jr:P.defs.lookup ("law":Str)=some st)(hx:params st=[x])
  (hn:l.most=some 63) (P7:d.name="law") (Tn:d.params.defaults=[]) (hr:dw (3*N) callerA) (LS:QQ P=true) (hY:∀(w:World) (h:Heap),YP w h->∃K:W.Frag,K.In h/\BS P w K/\jv K h)
  (U5:∀ns:List Int,ns.length<=63->R0 (run P N "law" [xD ns] [])):W.WalkO q loose XP YP l.row.toRowW d [] (λf vs=>PySem.call f vs):=by
 refine VR.t9 hn Tn λw s₀ s₁ mg mb fa o pm cd doc a vs ns G Y ho hd Bx Bz CK CL cS hg=>?_
 obtain⟨K,KX,T,TH⟩:=hY w _ Y;obtain⟨t1,t2⟩:=TH.tabs KX;have O:=U4 KX G.T.g T.hd T.hc T.hb T.ht T.hcl T.hct LS T.VH;obtain⟨⟨f,fd,e0,F,b⟩,s⟩:=T.hd ("law",st) (dF jr);rw[P7]at Bz;have e:=Bz.symm.trans (W.mg_of KX G.T.g e0);cases e;rw[hx]at b;refine Aa (CX:=js l.prog w) KX G.T.g G.T.b G.T.builtins G.T.nolimit hg t1 t2 CK CL (aL cS (by decide)) hr (λbase kb _=>?_) (λs u=>.of_eq (b [u] rfl)) (λH hS=>MY (U5 ns cS) hS) (by rintro _ _ _ ⟨_,_,_,_,_,_,_,_,_,_,_,h,_⟩;exact h)
 have k:=Et (prog:=l.prog) O (λz=>(T.hbm z).at KX G.T.g kb) N "law" st _ fd jr (W.mg_of KX G.T.g e0) F s
 rw[hx]at k;exact k
abbrev Ev{α:Type}(f:Gx α)(s:bN)(a:α)(s':bN):Prop:=f s=some (.ok a,s')
abbrev Ek {α : Type} (f : Gx α) (s : bN) (a : α) : Prop := Ev f s a s
section
variable {α β:Type} {s s1 s2 s3:bN}
def eB(h:Ev f s a s1)(h2:k a s1=r):bnd f k s=r:=by
 show(f s).bind (OJ k)=r;rw[h];exact h2
variable {fa fb fe:Gx PV} {ts:Gx (List PV)} {p q x y z:PV} {ps as:List PV}
variable {f g:Gx dN} {r:Option (Rs dN×bN)}
def U6(e:f ⟨gr n as,h⟩=some (.ok (.rt p),⟨YG,h'⟩)):gE f n as h=some (.ok p,h'):=by
 unfold gE;rw[e];rfl
def U7(e:f ⟨gr n as,h⟩=some (.ok .nx,⟨YG,h'⟩)):gE f n as h=some (.ok .aV,h'):=by
 unfold gE;rw[e];rfl
variable {t:Tg} {body:Gx dN}
def fC(ht:t p s=some s1)(hb:Ev body s1 .nx s2)(h:ef t body ps s2=r):ef t body (p::ps) s=r:=eB (show Ev (stp (t p)) s .nx s1 by show(t p s).map _=_;rw[ht];rfl) (eB hb h)
def e1(ht:t p ⟨ρ,h⟩=some ⟨TZ,h1⟩)(he:Ev fe ⟨TZ,h1⟩ q ⟨QR,h2⟩):nz t fe ρ p h=some (some q,h2):=by
 unfold nz;rw[ht,my,he];rfl
end
end L2.U
namespace L2.U
open PySem L2
def sL(hp:noRef p=true):kP h p=some p:=by
 unfold kP;split
 ·rfl
 ·unfold j7;rw[if_pos hp]
end L2.U
noncomputable section
namespace cE
open PySem L2 L2.U
abbrev QS:Stmt:=top 99
abbrev kI (n : Int) : Gx PV := bP (.int n)
abbrev kS (s : Str) : Gx PV := bP (.str s)
abbrev Q0 := kE 2 (dk (cC 10) (dk (cC 11) m8))
abbrev Q1 := Ad (bP (.bl false))
abbrev Q2 := et (rd 1) (bP [])
abbrev Q3 := dk (cC 5) (dk (cC 6) m8)
def HZ:List Str:=["Scene"]
abbrev Rn(x:Str)(F:CT->Gx dN)(n:Nat):Prop:=∀k,run aT (k+1) x=gE (F (run aT k)) n
open Lean Meta in
dsimproc_decl WD (Str.mk _):=λe=>do
 let .app _ (.app _ l):=e | return .continue
 let some l <-getListLit? l | return .continue
 return .done (mkApp (mkConst ``Str.ofString) (toExpr (String.ofList (l.toList.map λx=>Char.ofNat (x.nat?.getD 0)))))
open Lean in
dsimproc_decl WE (Int.ofNat _):=λe=>do
 let .app _ n:=e | return .continue
 let some n:=n.nat? | return .continue
 return .done (toExpr (n:Int))
def dr(x:Str)(i n k:Nat){f:CT->Gx dN}(h:∀k,run aT (k+1) x=gE (QN aT x (top i) (run aT k)) n:=by intro _;kernel_rfl)(e:∀c,QN aT x (top i) c=f c:=by intro c;conv=>(lhs;reduce;simp only[WD,WE])):run aT (k+1) x=gE (f (run aT k)) n:=by rw[h,e]
def WG(s:List Stmt):List Nat->List Stmt
 | []=>s
 | i::r=>WG (match s[i]? with | some (.For _ _ b _ _) | some (.If _ b _ _)=>b | _=>[]) r
def BC(x:Str)(i:Nat)(p:List Nat)(c:CT):Gx dN:=jY Es (QL aT x (top i) (MW aT) (Fl aT c) (QM aT x c) none c) (WG (cR (top i)) p)
abbrev lK(a:Gx dN){f:Gx dN}(_:a=f:=by conv=>(lhs;reduce;simp only[WD,WE])):Gx dN:=f
section
seal uu rP xj op2 gD rd bnd et bP ie hW oM nz Dj cC CW Hv De gX toB Je Ad Nx m9 KY LH w6 C4 bE wZ chain VW VV jF QJ GU cutE C3 Dc yF lC kE dk m8 uc LY Ll kG LX oK gV xb p7 DK Tu NB Ds G8 Us KS L4 TJ RN GS PZ Fl L3 Dp Ar O1 VX Ae La C5 yB CZ G4 G6 KU yZ gE GY Mh Az Ln MA HG Mz LV Hk Ms HI V1 HK HH uK LJ iD
def zh(c:CT):Gx dN :=
 (rP (xj HZ aT.flds "kinds" (yZ (op2 gD (rd 2) (kI 1)) (op2 gD (rd 2) (kI 3))) (rd 0))
  (rP (xj HZ aT.flds "result" (op2 gD (rd 2) (kI 2)) (rd 0))
  (rP (xj HZ aT.flds "size" (w6 jF (et (op2 gD (rd 2) (kI 4)) (bP []))) (rd 0))
  (xj HZ aT.flds "heads" (HG (hW false [none,none] (oM (rd 1)) (nz (cC 1) (Nx .ak (et (op2 gD (rd 1) (kI 0)) Q2))))) (rd 0)))))
theorem Ew(c:CT):Fl aT c "Scene"=gE (zh c) 3:=by kernel_rfl
noncomputable def nY(c:CT):Gx dN :=
 (rP (gX (wZ (uc (bnd (et (rd 0) (et (kI 1) (et (kI 6) (bP [])))) (ie 0 3 (c "is_tuple_from")))))
  Q1
  (bP .nx))
  (rP (gX (wZ (uc (w6 uK (et (hW false [none,none] (oM (rd 0)) (nz (cC 1) (bnd Q2 (ie 0 1 (c "is_head"))))) (bP [])))))
  Q1
  (bP .nx))
  (rP (gX (gX (wZ (uc (bnd (et (hW false [none,none] (oM (rd 0)) (nz (cC 1) (op2 gD (rd 1) (kI 0)))) (bP [])) (ie 0 1 (c "are_apart"))))) (bP true) (wZ (uc (bnd (et (op2 gD (rd 0) (kI 0)) (bP [])) (ie 0 1 (c "may_be_run"))))))
  Q1
  (bP .nx))
  (Ad (w6 uK (et (hW false [none,none,some 0] (oM (rd 0)) (nz (cC 1) (bnd (et (PZ "Scene" 3 (Fl aT c "Scene") (et (rd 2) Q2)) (et (op2 gD (rd 1) (kI 4)) (bP []))) (ie 0 2 (c "are_rows"))))) (bP [])))))))
theorem sM:Rn "is_right" nY 1:=λ_=>by kernel_rfl
def jZ(k:Nat):=dr "is_tuple_from" 28 3 k
def lL(k:Nat):=dr "is_tuple_of" 29 2 k
def uX(k:Nat):=dr "is_name" 30 1 k
def oT(k:Nat):=dr "are_apart" 31 1 k
def jb(k:Nat):=dr "is_holder_kind" 32 1 k
def uY(k:Nat):=dr "is_kind" 33 1 k
def sN(k:Nat):=dr "shape_of" 35 1 k
def sO(k:Nat):=dr "has_kind" 36 3 k
def uZ(k:Nat):=dr "is_head" 37 1 k
def oU(k:Nat):=dr "are_named" 38 2 k
def oV(k:Nat):=dr "is_result" 39 2 k
def lM(k:Nat):=dr "are_sources" 40 3 k
def nZ(k:Nat):=dr "may_be_run" 41 1 k
def u0(k:Nat):=dr "is_spot" 42 3 k
def n0(k:Nat):=dr "spot_shape" 44 2 k
def ql(k:Nat):=dr "is_at" 45 3 k
def jc(k:Nat):=dr "is_number_spot" 46 2 k
def kR(k:Nat):=dr "is_part_spot" 47 2 k
def j2(k:Nat):=dr "is_owned_part" 48 2 k
def iE(k:Nat):=dr "is_written_part" 49 2 k
def jd(k:Nat):=dr "may_be_written" 50 2 k
def n4(k:Nat):=dr "is_operand" 51 2 k
def sP(k:Nat):=dr "are_rows" 52 2 k
def xE(k:Nat):=dr "is_row" 53 2 k
def xF(k:Nat):=dr "is_put" 54 2 k
def oW(k:Nat):=dr "is_target" 55 2 k
def xG(k:Nat):=dr "is_set" 56 2 k
def u3(k:Nat):=dr "is_fill" 57 2 k
def u4(k:Nat):=dr "is_copy" 58 2 k
def oX(k:Nat):=dr "are_alike" 59 3 k
def u5(k:Nat):=dr "is_move" 60 2 k
def u6(k:Nat):=dr "is_drop" 61 2 k
def u7(k:Nat):=dr "is_lend" 62 2 k
def u9(k:Nat):=dr "is_sole" 63 2 k
def vc(k:Nat):=dr "is_call" 64 3 k
def n5(k:Nat):=dr "takes_back" 65 3 k
def AX(k:Nat):=dr "is_if" 66 2 k
def vd(k:Nat):=dr "is_jump" 67 2 k
def AY(k:Nat):=dr "is_go" 68 2 k
def xH(k:Nat):=dr "is_say" 69 2 k
def ve(k:Nat):=dr "is_give" 70 2 k
def sQ(k:Nat):=dr "_law_cell_at" 74 2 k
def xI(k:Nat):=dr "_law_mixed" 75 1 k
noncomputable def n6(c:CT):=lK (BC "_law_names" 76 [4,1] c)
noncomputable def je(c:CT):=lK (BC "_law_names" 76 [4] c)
def xJ(k:Nat):=dr "_law_names" 76 9 k
noncomputable def jf(c:CT):=lK (BC "_law_spots" 80 [1,1] c)
noncomputable def n8(c:CT):=lK (BC "_law_spots" 80 [1] c)
def xK(k:Nat):=dr "_law_spots" 80 8 k
def AZ(k:Nat):=dr "_law_menu" 81 8 k
noncomputable def k9(c:CT):=lK (BC "_law_picked" 82 [1] c)
def vf(k:Nat):=dr "_law_picked" 82 5 k
noncomputable def eE(c:CT):=lK (BC "_law_numbers" 83 [2] c)
def sR(k:Nat):=dr "_law_numbers" 83 8 k
def sS(k:Nat):=dr "_law_operand" 84 3 k
noncomputable def la(c:CT):=lK (BC "_law_result" 85 [4] c)
def vg(k:Nat):=dr "_law_result" 85 7 k
def A0(k:Nat):=dr "_law_head" 87 9 k
def xM(k:Nat):=dr "_law_heads" 88 4 k
noncomputable def iy(c:CT):=lK (BC "_law_call" 89 [4] c)
def A1(k:Nat):=dr "_law_call" 89 13 k
noncomputable def gu(c:CT):=lK (BC "_law_lends" 90 [1,0] c)
noncomputable def n9(c:CT):=lK (BC "_law_lends" 90 [1] c)
def xN(k:Nat):=dr "_law_lends" 90 9 k
def vh(k:Nat):=dr "_law_things" 92 8 k
def og(k:Nat):=dr "_law_plain_row" 93 8 k
def Ex(k:Nat):=dr "_law_row" 94 9 k
def A2(k:Nat):=dr "_law_give" 95 3 k
noncomputable def c8(c:CT):=lK (BC "_law_function" 96 [3] c)
def oY(k:Nat):=dr "_law_function" 96 7 k
def xO(k:Nat):=dr "_law_ended" 97 3 k
def xP(k:Nat):=dr "_law_calls" 98 1 k
noncomputable def zi(c:CT):=lK (BC "law" 99 [6] c)
def H0(k:Nat):=dr "law" 99 6 k
end
end cE
namespace L2.U
section
open PySem
theorem WJ{α:Type}{o:Option α}{v:α}{st:bN}(h:o=some v):ez o st=some (.ok v,st):=by show o.map _=_;rw[h];rfl
theorem YK{α:Type}{g:List aj->Option α}{v:α}{st:bN}(h:g st.h=some v):hp g st=some (.ok v,st):=by show(g st.h).map _=_;rw[h];rfl
theorem WK{g:bN->Option bN}{st bB:bN}(h:g st=some bB):stp g st=some (.ok .nx,bB):=by show(g st).map _=_;rw[h];rfl
theorem WL{α β:Type}{f:Gx α}{k:α->Gx β}{st s1:bN}{a:α}{r:Option (Rs β×bN)}(h:f st=some (.ok a,s1))(h2:k a s1=r):bnd f k st=r:=eB h h2
theorem YL{α:Type}{b:Bool}{f g:Gx α}{st:bN}{r:Option (Rs α×bN)}(h:b=true)(h2:f st=r):(if b=true then f else g) st=r:=by rw[if_pos h];exact h2
theorem YM{α:Type}{b:Bool}{f g:Gx α}{st:bN}{r:Option (Rs α×bN)}(h:b=false)(h2:g st=r):(if b=true then f else g) st=r:=by rw[if_neg (by rw[h];exact du)];exact h2
theorem U8{α:Type}{gc:Gx Bool}{f g:Gx α}{st s1:bN}{r:Option (Rs α×bN)}(h:gc st=some (.ok true,s1))(h2:f s1=r):gX gc f g st=r:=eB h h2
theorem U9{α:Type}{gc:Gx Bool}{f g:Gx α}{st s1:bN}{r:Option (Rs α×bN)}(h:gc st=some (.ok false,s1))(h2:g s1=r):gX gc f g st=r:=eB h h2
theorem Va{f:Gx dN}{n:Nat}{as:List PV}{h:List aj}{p:PV}{bB:bN}(e:f ⟨gr n as,h⟩=some (.ok (.rt p),bB)):gE f n as h=some (.ok p,bB.h):=U6 e
theorem Vb{f:Gx dN}{n:Nat}{as:List PV}{h:List aj}{bB:bN}(e:f ⟨gr n as,h⟩=some (.ok .nx,bB)):gE f n as h=some (.ok .aV,bB.h):=U7 e
theorem H9{n:Nat}{g:lG}{as:List PV}{st:bN}{p q:PV}{h':List aj}(hn:(st.h.isEmpty || aM as)=true)(hl:as.length=n)(hc:g as []=some (.ok p,h'))(hf:kP h' p=some q):i6 n g as st=some (.ok q,st):=by
 unfold i6;rw[if_pos ⟨hl,hn⟩,hc];show(kP h' p).map _=_;rw[hf];rfl
theorem Vc{n:Nat}{g:lG}{as:List PV}{st:bN}{p q:PV}{h':List aj}(hn:(st.h.isEmpty || aM as)=true)(hl:as.length=n)(hc:g as []=some (.ok p,h'))(hf:kP h' p=some q):ie 0 n g as st=some (.ok q,st):=by
 unfold ie;rw[hn,if_pos (show((0==0)&&true)=true from rfl)]
 exact H9 hn hl hc hf
theorem A3{α:Type}{f:α->PV}{q:α->PV}{h:List aj}{bd:PV->List aj->Option (Option PV×List aj)}:∀{L:List α},(∀x∈L,bd (f x) h=some (some (q x),h))->jP bd (L.map f) h=some (L.map q,h)
 | [],_=>rfl
 | x::L,H=>by
  show(bd (f x) h).bind _=_;rw[H x cb];show(jP bd (L.map f) h).map _=_;rw[A3 λy hy=>H y (bW _ hy)]
  rfl
theorem A4{α:Type}{f:α->PV}{q:α->PV}{b:α->Bool}{h:List aj}{bd:PV->List aj->Option (Option PV×List aj)}:∀{L:List α},(∀x∈L,bd (f x) h=some (if b x=true then some (q x)else none,h))->jP bd (L.map f) h=some ((L.filter b).map q,h)
 | [],_=>rfl
 | x::L,H=>by
  show(bd (f x) h).bind _=_;rw[H x cb];show(jP bd (L.map f) h).map _=_;rw[A4 λy hy=>H y (bW _ hy)]
  cases e:b x with
  | true=>rw[vH e];rfl
  | false=>rw[vF (by rw[e];exact du)];rfl
theorem Vd{link:List (Option Nat)}{fi:Gx yQ}{bd:Bd}{st s1:bN}{ps qs:List PV}{h':List aj}(hi:fi st=some (.ok (.sq ps),s1))(hl:ps.length<=4000000)(hc:jP (bd (cY link s1.ρ)) ps s1.h=some (qs,h')):hW false link fi bd st=some (.ok (.lst qs),⟨s1.ρ,h'⟩):=eB hi (by
 show(if ps.length<=gY then jP _ ps s1.h else none).bind _=_
 rw[if_pos (show ps.length<=gY from hl),hc]
 rfl)
theorem Ve{t:Tg}{fe:Gx PV}{ρ:List (Option PV)}{p q:PV}{h:List aj}{aH:bN}{QR:List (Option PV)}{h2:List aj}(ht:t p ⟨ρ,h⟩=some aH)(he:fe aH=some (.ok q,⟨QR,h2⟩)):nz t fe ρ p h=some (some q,h2):=by
 unfold nz;rw[ht,my,he];rfl
theorem Vf{t:Tg}{ft:Gx Bool}{fe:Gx PV}{ρ:List (Option PV)}{p q:PV}{b:Bool}{h:List aj}{aH:bN}{QR YN:List (Option PV)}(ht:t p ⟨ρ,h⟩=some aH)(hw:ft aH=some (.ok b,⟨QR,h⟩))(he:b=true->fe ⟨QR,h⟩=some (.ok q,⟨YN,h⟩)):Dj t ft fe ρ p h=some (if b=true then some q else none,h):=by
 unfold Dj;rw[ht,my,hw];cases b with
 | false=>rfl
 | true =>
  show(fe _).bind _=_;rw[he rfl];rfl
theorem WM{gc f:Gx Bool}{st s1:bN}{b b2:Bool}(h:gc st=some (.ok b,s1))(h2:b=true->f s1=some (.ok b2,s1)):gX gc f (bP false) st=some (.ok (b&&b2),s1):=eB h (by
 cases b with
 | false=>rfl
 | true=>exact h2 rfl)
theorem YO{C:Str}{n:Nat}{g:lG}{ts:Gx (List PV)}{st s1:bN}{as:List PV}{h':List aj}{q:PV}(Vg:ts st=some (.ok as,s1))(hl:as.length+1=n)(hn:(s1.h.isEmpty || aM as)=true)(hg:g (.ref 0::as) [⟨.ins C [],[]⟩]=some (.ok .aV,h'))(hd:j7 h' 4 (.ref 0)=some q):PZ C n g ts st=some (.ok q,s1):=eB Vg (by
 show(if as.length+1=n/\(s1.h.isEmpty || aM as)=true then(g (.ref 0::as) [⟨.ins C [],[]⟩]).bind (PY s1)else none)=_
 rw[if_pos ⟨hl,hn⟩,hg];show(j7 h' 4 (.ref 0)).map _=_;rw[hd];rfl)
def gx{α:Type}(f:Gx α)(st:bN):Option (Rs α×bN):=f st
theorem WN{α:Type}{f:Gx α}{st:bN}{r:Option (Rs α×bN)}(h:f st=r):gx f st=r:=h
theorem dz{α:Type}{f:Gx α}{st:bN}{r:Option (Rs α×bN)}(h:gx f st=r):f st=r:=h
end
end L2.U
namespace cE
open PySem L2 L2.U
inductive Sx where
 | nu | ow | st (n:Fin 8) | tw | no | sn (n:Fin 8) | tn | dp (n:Fin 8) | di | fo
 deriving DecidableEq
abbrev pN:PV:=.ak [.str "num"]
abbrev pO:PV:=.ak [.str "own"]
abbrev pT:PV:=.ak [.str "rec",.ak [pN,pN]]
abbrev pD:PV:=.ak [.str "rec",.ak [pT,pO]]
def pS(n:Fin 8):PV:=.ak [.str "strip",.int (1+(n.val:Int))]
def fB:Sx->PV
 | .nu=>pN
 | .ow=>pO
 | .st n=>pS n
 | .tw=>pT
 | .no=>.ak [.str "rec",.ak [pN,pO]]
 | .sn n=>.ak [.str "rec",.ak [pS n,pN]]
 | .tn=>.ak [.str "rec",.ak [pT,pN]]
 | .dp n=>.ak [.str "rec",.ak [pD,pS n]]
 | .di=>pD
 | .fo=>.ak [.str "rec",.ak [pT,pT,pT,pT]]
inductive Kn where
 | ow (s:Sx) | ho (w:Bool) (s:Sx)
 deriving DecidableEq
def tq(w:Bool):Str:=if w then "sole" else "lent"
def cP:Kn->PV
 | .ow s=>fB s
 | .ho w s=>.ak [.str (tq w),fB s]
def A5:Kn->Sx
 | .ow s=>s
 | .ho _ s=>s
def kT:Kn->Bool
 | .ow _=>false
 | .ho _ _=>true
abbrev Ky:=Str×Kn
def cF(q:Ky):PV:=.ak [.str q.1,cP q.2]
theorem ij(k:Nat)(d:Kn):run aT (k+1) "is_holder" [cP d] []=some (.ok (.bl (kT d)),[]):=by
 cases d with
 | ow s=>cases s<;>kernel_rfl
 | ho w s=>cases w<;>cases s<;>kernel_rfl
end cE
namespace L2.U
section
open Lean Meta
abbrev zq9wh (e : Lean.Expr) : MetaM Lean.Expr := withDefault (whnf e)
abbrev zq9sm (e : Lean.Expr) : SimpM Simp.Result := withReducible (Simp.simp e)
def zq9rflT (e d : Lean.Expr) : MetaM Lean.Expr := do mkExpectedTypeHint (← mkEqRefl d) (← mkEq e d)

def zq9nList (w : Bool) : Nat → Lean.Expr → MetaM Lean.Expr
 | 0, e => return e
 | n + 1, e => do
  let d ← zq9wh e
  if d.isAppOfArity ``List.cons 3 then
   let a := d.appFn!.appArg!.headBeta
   let a ← if w then (do let b ← zq9wh a; return if b.isAppOf ``Option.some || b.isAppOf ``Option.none then b else a) else pure a
   return mkApp2 d.appFn!.appFn! a (← zq9nList w n d.appArg!)
  else if d.isAppOf ``List.nil then return d
  else return e
def zq9natOf : Nat → Lean.Expr → MetaM (Option Nat)
 | 0, _ => return none
 | n + 1, e => do
  let d ← zq9wh e
  match d with
  | .lit (.natVal k) => return some k
  | _ => if d.isAppOfArity ``Nat.succ 1 then return (← zq9natOf n d.appArg!).map (· + 1) else if d.isConstOf ``Nat.zero then return some 0 else return none
def zq9isLit (e : Lean.Expr) : Nat → Bool
 | 0 => false
 | n + 1 => e.isAppOf ``List.nil || (e.isAppOfArity ``List.cons 3 && zq9isLit e.appArg! n)
def zq9nVal (v : Lean.Expr) : MetaM Lean.Expr := do
 let v ← withReducible (whnf v.headBeta)
 if v.isAppOfArity ``PV.ref 1 then
  if v.appArg!.isLit then return v
  match ← zq9natOf 60 v.appArg! with
  | some k => return mkApp (mkConst ``PV.ref) (mkNatLit k)
  | none => return v
 if v.isAppOfArity ``PV.nd 2 && !(v.appArg!.isAppOf ``List.map || zq9isLit v.appArg! 200) then
  let ps ← zq9nList false 200 v.appArg!
  return if zq9isLit ps 200 then mkApp v.appFn! ps else v
 if (← isConstructorApp? v).isSome || v.isFVar then return v
 if v.isProj || (← isMatcherApp v) || v.getAppFn.isProj then zq9wh v else match v.getAppFn with
 | .const c _ => if (← isProjectionFn c) || c == ``Option.get || c == ``ite || c == ``Option.getD then zq9wh v else return v
 | _ => return v
def zq9nCell (c : Lean.Expr) : MetaM Lean.Expr := do
 let d ← zq9wh c
 unless d.isAppOfArity ``aj.mk 2 do return c
 let k ← zq9wh d.appFn!.appArg!
 let k ← if k.isAppOfArity ``Kd.ins 2 then pure (mkApp k.appFn! (← zq9nList false 200 k.appArg!)) else pure k
 let ps ← zq9nList false 200 d.appArg!
 return mkApp2 d.appFn!.appFn! k ps
def zq9nHeap : Nat → Lean.Expr → MetaM Lean.Expr
 | 0, e => return e
 | n + 1, e => do
  let d ← zq9wh e
  if d.isAppOfArity ``List.cons 3 then return mkApp2 d.appFn!.appFn! (← zq9nCell d.appFn!.appArg!.headBeta) (← zq9nHeap n d.appArg!)
  else if d.isAppOf ``List.nil then return d
  else return e
def zq9nSta (e : Lean.Expr) : MetaM Lean.Expr := do
 let d ← zq9wh e
 if d.isAppOfArity ``bN.mk 2 then return mkApp2 d.appFn!.appFn! (← zq9nList true 200 d.appFn!.appArg!) (← zq9nHeap 200 d.appArg!) else return e
def zq9someArg? (e : Lean.Expr) : Option Lean.Expr := if e.isAppOfArity ``Option.some 2 then some e.appArg! else none
def zq9evB (b : Lean.Expr) : SimpM (Lean.Expr × Lean.Expr) := do
 let b := b.headBeta
 let d ← zq9wh b
 if d.isConstOf ``Bool.true || d.isConstOf ``Bool.false then return (d, ← mkExpectedTypeHint (← mkEqRefl d) (← mkEq b d))
 let r ← zq9sm b
 let r' ← if r.expr.isConstOf ``Bool.true || r.expr.isConstOf ``Bool.false then pure r.expr else do
  let d ← zq9wh r.expr
  pure (if d.isConstOf ``Bool.true || d.isConstOf ``Bool.false then d else r.expr)
 return (r', ← mkExpectedTypeHint (← r.getProof) (← mkEq b r'))
def zq9atRoot (o : Lean.Expr) : SimpM (Option Simp.Result) := withReducible do
 match ← Simp.rewritePost false o with
 | .visit r => return some r
 | .done r => return some r
 | .continue (some r) => return some r
 | .continue none => return none
def zq9evO (o : Lean.Expr) : SimpM (Option (Lean.Expr × Lean.Expr)) := do
 let o := o.headBeta
 if let some r ← zq9atRoot o then
  if let some v := zq9someArg? r.expr then
   let v' ← if (← inferType v).isConstOf ``PV then zq9nVal v else pure v
   let b? := if v'.isAppOfArity ``PV.bl 1 then some v'.appArg! else none
   match b? with
   | none => return some (v', ← mkExpectedTypeHint (← r.getProof) (← mkEq o (mkApp r.expr.appFn! v')))
   | some b =>
    let (b', p) ← zq9evB b
    let f := mkLambda `x .default (mkConst ``Bool) (mkApp r.expr.appFn! (mkApp (mkConst ``PV.bl) (Lean.Expr.bvar 0)))
    return some (mkApp (mkConst ``PV.bl) b', ← mkEqTrans (← r.getProof) (← mkExpectedTypeHint (← mkCongrArg f p) (← mkEq r.expr (mkApp r.expr.appFn! (mkApp (mkConst ``PV.bl) b')))))
 let d ← zq9wh o
 let bySimp : SimpM (Option (Lean.Expr × Lean.Expr)) := do
  let r ← zq9sm o
  let d ← if (zq9someArg? r.expr).isSome then pure r.expr else zq9wh r.expr
  match zq9someArg? d with
  | some v => return some (v, ← mkExpectedTypeHint (← r.getProof) (← mkEq o d))
  | none => return none
 match zq9someArg? d with
 | some v =>
  let ty ← inferType v
  if ty.isConstOf ``bN then
   let v ← zq9nSta v
   let d := mkApp d.appFn! v
   return some (v, ← zq9rflT o d)
  let v := v.headBeta
  let v ← if ty.isConstOf ``PV then zq9nVal v else pure v
  let b? := if v.isAppOfArity ``PV.bl 1 then some v.appArg! else if ty.isConstOf ``Bool then some v else none
  match b? with
  | none => let d' := mkApp d.appFn! v; return some (v, ← zq9rflT o d')
  | some b =>
   let b' ← zq9wh b
   let f := if ty.isConstOf ``Bool then id else mkApp (mkConst ``PV.bl)
   if b'.isConstOf ``Bool.true || b'.isConstOf ``Bool.false then let d' := mkApp d.appFn! (f b'); return some (f b', ← zq9rflT o d')
   let fallback : SimpM (Option (Lean.Expr × Lean.Expr)) := do
    let (b', p) ← zq9evB b
    return some (f b', ← mkExpectedTypeHint (← mkCongrArg (mkLambda `x .default (mkConst ``Bool) (mkApp d.appFn! (f (Lean.Expr.bvar 0)))) p) (← mkEq o (mkApp d.appFn! (f b'))))
   match ← bySimp with
   | some (v', p) =>
    let c := if v'.isAppOfArity ``PV.bl 1 then v'.appArg! else v'
    if c.isConstOf ``Bool.true || c.isConstOf ``Bool.false || (zq9someArg? (← zq9sm o).expr).isSome then return some (v', p)
    fallback
   | none => fallback
 | none => bySimp
def zq9okE (α a st : Lean.Expr) : Lean.Expr :=
 let rs := mkApp (mkConst ``Rs) α
 let pr := mkApp2 (mkConst ``Prod [0, 0]) rs (mkConst ``bN)
 mkApp2 (mkConst ``Option.some [0]) pr (mkApp4 (mkConst ``Prod.mk [0, 0]) rs (mkConst ``bN) (mkApp2 (mkConst ``Rs.ok) α a) st)
def zq9okH (a h : Lean.Expr) : Lean.Expr :=
 let rs := mkApp (mkConst ``Rs) (mkConst ``PV)
 let lc := mkApp (mkConst ``List [0]) (mkConst ``aj)
 let pr := mkApp2 (mkConst ``Prod [0, 0]) rs lc
 mkApp2 (mkConst ``Option.some [0]) pr (mkApp4 (mkConst ``Prod.mk [0, 0]) rs lc (mkApp2 (mkConst ``Rs.ok) (mkConst ``PV) a) h)
def zq9okArgs? (r : Lean.Expr) : Option (Lean.Expr × Lean.Expr) := do
 let x ← zq9someArg? r
 guard (x.isAppOfArity ``Prod.mk 4)
 let y := x.appFn!.appArg!
 guard (y.isAppOfArity ``Rs.ok 2)
 return (y.appArg!, x.appArg!)
def zq9nRes (e : Lean.Expr) : MetaM (Option Lean.Expr) := do
 let d ← zq9wh e
 let some x := zq9someArg? d | return none
 let x ← zq9wh x
 unless x.isAppOfArity ``Prod.mk 4 do return none
 let y ← zq9wh (x.appFn!.appArg!)
 let st ← zq9nSta x.appArg!
 let y ← if y.isAppOfArity ``Rs.ok 2 then (do let v ← (do let v := y.appArg!.headBeta; if (← inferType v).isConstOf ``PV then zq9nVal v else zq9wh v); pure (mkApp y.appFn! v)) else pure y
 return some (mkApp d.appFn! (mkApp2 x.appFn!.appFn! y st))
def zq9evUnfold : List Lean.Name := [``op2, ``et, ``Nx, ``w6, ``toB, ``uc, ``wZ, ``gX, ``rP, ``XA, ``uf, ``m9, ``Ad, ``CW, ``chain, ``KS, ``Tu, ``KU, ``Ll, ``C3, ``cutE, ``Ln, ``DK, ``Az, ``TJ, ``L3, ``MA, ``Hv, ``X5, ``oM, ``NB, ``Dp, ``Ds, ``Mz, ``Ms, ``LH, ``T8, ``xj, ``p7, ``DH, ``Us, ``KY, ``LV, ``yZ, ``HG]
def zq9mkLe (a b : Lean.Expr) : MetaM (Option Lean.Expr) := do
 let p ← mkAppM ``LE.le #[a, b]
 let d ← mkAppM ``Decidable.decide #[p]
 let r ← zq9wh d
 if r.isConstOf ``Bool.true then return some (← mkAppM ``of_decide_eq_true #[← mkExpectedTypeHint (← mkEqRefl (mkConst ``Bool.true)) (← mkEq d (mkConst ``Bool.true))]) else return none
def zq9byS (p : Lean.Expr) : SimpM (Option Lean.Expr) := do
 let r ← zq9sm p
 if r.expr.isTrue then return some (← mkOfEqTrue (← r.getProof)) else return none
def zq9evE (go : Lean.Expr → SimpM (Lean.Expr × Lean.Expr)) (bd p h : Lean.Expr) : SimpM (Lean.Expr × Lean.Expr) := do
 let as := bd.getAppArgs
 let ρ := as.back!
 let st := mkApp2 (mkConst ``bN.mk) ρ h
 let some (st1, pt) ← zq9evO (mkApp2 as[0]! p st) | throwError "zq9ev: target {p}"
 if bd.isAppOf ``nz then
  let (r1, p1) ← go (mkApp as[1]! st1)
  let some (v, s2) := zq9okArgs? r1 | throwError "zq9ev: elt1 {r1}"
  let q := mkAppN (mkConst ``Ve) #[as[0]!, as[1]!, ρ, p, v, h, st1, s2.appFn!.appArg!, s2.appArg!, pt, p1]
  let some (_, _, r) := (← inferType q).eq? | throwError "zq9ev: elt1"
  return (r, q)
 else
  let (r1, p1) ← go (mkApp as[1]! st1)
  let some (b, st2) := zq9okArgs? r1 | throwError "zq9ev: elt2 {r1}"
  if b.isConstOf ``Bool.false then
   let q ← mkAppM `e2F #[pt, p1]
   let some (_, _, r) := (← inferType q).eq? | throwError "zq9ev: elt2"
   return (r, q)
  else if b.isConstOf ``Bool.true then
   let (_, p2) ← go (mkApp as[2]! st2)
   let q ← mkAppM `e2T #[pt, p1, p2]
   let some (_, _, r) := (← inferType q).eq? | throwError "zq9ev: elt2"
   return (r, q)
  else
   withLocalDeclD `hb (← mkEq b (mkConst ``Bool.true)) fun hb => do
    let thms ← (← Simp.getContext).simpTheorems.addTheorem (.fvar hb.fvarId!) hb
    Simp.withSimpTheorems thms do
     let (r2, p2) ← go (mkApp as[2]! st2)
     let some (v, s3) := zq9okArgs? r2 | throwError "zq9ev: elt2 {r2}"
     let q := mkAppN (mkConst ``Vf) #[as[0]!, as[1]!, as[2]!, ρ, p, v, b, h, st1, st2.appFn!.appArg!, s3.appFn!.appArg!, pt, p1, ← mkLambdaFVars #[hb] p2]
     let some (_, _, r) := (← inferType q).eq? | throwError "zq9ev: elt2"
     return (r, q)
def zq9evL (go : Lean.Expr → SimpM (Lean.Expr × Lean.Expr)) (bd h : Lean.Expr) : Nat → Lean.Expr → SimpM Lean.Expr
 | 0, _ => throwError "zq9ev: long list"
 | m + 1, ps => do
  let d ← zq9wh ps
  if d.isAppOf ``List.nil then mkAppOptM `compF_nil #[some bd, some h]
  else if d.isAppOfArity ``List.cons 3 then
   let (_, p) ← zq9evE go bd d.appFn!.appArg!.headBeta h
   let p2 ← zq9evL go bd h m d.appArg!
   mkAppM `compF_cons #[p, p2]
  else throwError "zq9ev: list {ps}"
def zq9evC (go : Lean.Expr → SimpM (Lean.Expr × Lean.Expr)) (bd ps h : Lean.Expr) : SimpM Lean.Expr := do
 let d ← zq9wh ps
 if d.isAppOf ``List.nil || d.isAppOf ``List.cons then zq9evL go bd h 300 d
 else
  let d := if ps.isAppOfArity ``List.map 4 then ps else d
  unless d.isAppOfArity ``List.map 4 do throwError "zq9ev: list {ps}"
  let fn := d.getAppArgs[2]!
  let L := d.appArg!
  let α := d.getAppArgs[0]!
  withLocalDeclD `x α fun x => do
   let mem ← mkAppM ``Membership.mem #[L, x]
   withLocalDeclD `hx mem fun hx => do
    let thms ← (← Simp.getContext).simpTheorems.addTheorem (.fvar hx.fvarId!) hx
    Simp.withSimpTheorems thms do
     let (r, p) ← zq9evE go bd (mkApp fn x).headBeta h
     let some v := zq9someArg? r | throwError "zq9ev: item {r}"
     let o := v.appFn!.appArg!
     match zq9someArg? o with
     | some q =>
      let q ← mkLambdaFVars #[x] q
      mkAppOptM ``A3 #[some α, some fn, some q, some h, some bd, some L, some (← mkLambdaFVars #[x, hx] p)]
     | none =>
      unless o.isAppOfArity ``ite 5 do throwError "zq9ev: item {o}"
      let some (_, b, _) := o.getAppArgs[1]!.eq? | throwError "zq9ev: item {o}"
      let some q := zq9someArg? o.getAppArgs[3]! | throwError "zq9ev: item {o}"
      mkAppOptM ``A4 #[some α, some fn, some (← mkLambdaFVars #[x] q), some (← mkLambdaFVars #[x] b), some h, some bd, some L, some (← mkLambdaFVars #[x, hx] p)]
def zq9ev : Nat → Lean.Expr → SimpM (Lean.Expr × Lean.Expr)
 | 0, e => throwError "zq9ev: no fuel {e}"
 | n + 1, e => do
  let e := e.headBeta
  let f := e.getAppFn
  let as := e.getAppArgs
  let leaf : SimpM (Lean.Expr × Lean.Expr) := do
   let r ← zq9sm e
   let some x ← zq9nRes r.expr | throwError "zq9ev: stuck at{indentExpr e}\n which is{indentExpr r.expr}"
   return (x, ← mkExpectedTypeHint (← r.getProof) (← mkEq e x))
  let red : SimpM (Lean.Expr × Lean.Expr) := do
   match ← zq9nRes e with
   | some x => return (x, ← mkExpectedTypeHint (← mkEqRefl x) (← mkEq e x))
   | none => leaf
  match f with
  | .const c _ =>
   if c == ``bnd && as.size == 5 then
    let (r, p) ← zq9ev n (mkApp as[2]! as[4]!)
    let some (a, st) := zq9okArgs? r | throwError "zq9ev: no answer {r} of{indentExpr as[2]!}"
    let (r2, p2) ← zq9ev n (mkApp2 as[3]! a st).headBeta
    return (r2, mkAppN (mkConst ``WL) #[as[0]!, as[1]!, as[2]!, as[3]!, as[4]!, st, a, r2, p, p2])
   else if c == ``bP && as.size == 3 then
    if as[0]!.isConstOf ``Bool && !(as[1]!.isConstOf ``Bool.true || as[1]!.isConstOf ``Bool.false) then
     let (b, p) ← zq9evB as[1]!
     let f := mkLambda `x .default (mkConst ``Bool) (zq9okE as[0]! (Lean.Expr.bvar 0) as[2]!)
     return (zq9okE as[0]! b as[2]!, ← mkExpectedTypeHint (← mkCongrArg f p) (← mkEq e (zq9okE as[0]! b as[2]!)))
    let x := zq9okE as[0]! as[1]! as[2]!
    return (x, ← zq9rflT e x)
   else if c == ``ez && as.size == 3 then
    let some (v, p) ← zq9evO as[1]! | throwError "zq9ev: stuck at lif{indentExpr as[1]!}"
    return (zq9okE as[0]! v as[2]!, mkAppN (mkConst ``WJ) #[as[0]!, as[1]!, v, as[2]!, p])
   else if c == ``hp && as.size == 3 then
    let st ← zq9wh as[2]!
    let h := if st.isAppOfArity ``bN.mk 2 then st.appArg! else mkApp (mkConst ``bN.h) as[2]!
    let some (v, p) ← zq9evO (mkApp as[1]! h).headBeta | throwError "zq9ev: stuck at hp{indentExpr (mkApp as[1]! h).headBeta}"
    return (zq9okE as[0]! v as[2]!, mkAppN (mkConst ``YK) #[as[0]!, as[1]!, v, as[2]!, p])
   else if c == ``stp && as.size == 2 then
    let some (v, p) ← zq9evO (mkApp as[0]! as[1]!).headBeta | throwError "zq9ev: stuck at stp{indentExpr (mkApp as[0]! as[1]!).headBeta}"
    return (zq9okE (mkConst ``dN) (mkConst ``dN.nx) v, mkAppN (mkConst ``WK) #[as[0]!, as[1]!, v, p])
   else if c == ``ite && as.size == 6 then
    let some (_, b, _) := as[1]!.eq? | throwError "zq9ev: ite {as[1]!}"
    let (b', p) ← zq9evB b
    if b'.isConstOf ``Bool.true then
     let (r, p2) ← zq9ev n (mkApp as[3]! as[5]!)
     let α := (← zq9wh as[0]!).bindingBody!.appArg!.appFn!.appArg!.appArg!
     return (r, mkAppN (mkConst ``YL) #[α, b, as[3]!, as[4]!, as[5]!, r, p, p2])
    else if b'.isConstOf ``Bool.false then
     let (r, p2) ← zq9ev n (mkApp as[4]! as[5]!)
     let α := (← zq9wh as[0]!).bindingBody!.appArg!.appFn!.appArg!.appArg!
     return (r, mkAppN (mkConst ``YM) #[α, b, as[3]!, as[4]!, as[5]!, r, p, p2])
    else throwError "zq9ev: open test{indentExpr b'}"
   else if c == ``gE && as.size == 4 then
    let st := mkApp2 (mkConst ``bN.mk) (← zq9nList true 200 (mkApp2 (mkConst ``gr) as[1]! as[2]!)) as[3]!
    let (r, p) ← zq9ev n (mkApp as[0]! st)
    let some (a, s1) := zq9okArgs? r | throwError "zq9ev: run's end {r}"
    let h1 := if s1.isAppOfArity ``bN.mk 2 then s1.appArg! else mkApp (mkConst ``bN.h) s1
    if a.isAppOf ``dN.rt then return (zq9okH a.appArg! h1, mkAppN (mkConst ``Va) #[as[0]!, as[1]!, as[2]!, as[3]!, a.appArg!, s1, p])
    else if a.isConstOf ``dN.nx then return (zq9okH (mkConst ``PV.aV) h1, mkAppN (mkConst ``Vb) #[as[0]!, as[1]!, as[2]!, as[3]!, s1, p])
    else throwError "zq9ev: run's end {r}"
   else if (c == ``ie && as.size == 5) || (c == ``i6 && as.size == 4) then
    let k := if c == ``ie then 1 else 0
    let st ← zq9wh as[3 + k]!
    let h := if st.isAppOfArity ``bN.mk 2 then st.appArg! else mkApp (mkConst ``bN.h) st
    let as' ← zq9nList false 50 as[2 + k]!
    let q ← mkAppM ``Bool.or #[← mkAppM ``List.isEmpty #[h], ← mkAppM ``aM #[as']]
    let q ← if k == 1 then mkAppM ``and #[← mkAppM ``BEq.beq #[as[0]!, mkNatLit 0], q] else pure q
    let (b, pb) ← zq9evB q
    let hl ← mkExpectedTypeHint (← mkEqRefl as[k]!) (← mkEq (← mkAppM ``List.length #[as']) as[k]!)
    if b.isConstOf ``Bool.true then
     let q0 ← mkAppM ``Bool.or #[← mkAppM ``List.isEmpty #[h], ← mkAppM ``aM #[as']]
     let (_, pb0) ← zq9evB q0
     let cl := mkApp2 as[1 + k]! as' (← mkAppOptM ``List.nil #[some (mkConst ``aj)])
     let (r, p) ← zq9ev n cl
     let some (v, h') := zq9okArgs? r | throwError "zq9ev: call's end{indentExpr cl}\n is {r}"
     let fz := mkApp2 (mkConst ``kP) h' v
     let some (qv, pf) ← zq9evO fz | throwError "zq9ev: stuck at {fz}"
     return (zq9okE (mkConst ``PV) qv as[3 + k]!, mkAppN (mkConst (if k == 1 then ``Vc else ``H9)) #[as[k]!, as[1 + k]!, as', as[3 + k]!, v, qv, h', pb0, hl, p, pf])
    else if b.isConstOf ``Bool.false && k == 1 then
     let (r, p) ← zq9ev n (mkApp2 as[2]! as' h)
     let some (v, h') := zq9okArgs? r | throwError "zq9ev: call's end {r}"
     let ρ := if st.isAppOfArity ``bN.mk 2 then st.appFn!.appArg! else mkApp (mkConst ``bN.ρ) st
     return (zq9okE (mkConst ``PV) v (mkApp2 (mkConst ``bN.mk) ρ h'), mkAppN (mkConst `evCallM) #[as[0]!, as[1]!, as[2]!, as', as[4]!, v, h', pb, hl, p])
    else throwError "zq9ev: call with refs? {b} of{indentExpr e}"
   else if c == ``ef && as.size == 4 then
    unless zq9isLit as[2]! 300 || as[2]!.isAppOf ``List.cons do
     let r ← zq9sm e
     if (zq9someArg? r.expr).isSome then
      let some x ← zq9nRes r.expr | throwError "zq9ev: loop{indentExpr r.expr}"
      return (x, ← mkExpectedTypeHint (← r.getProof) (← mkEq e x))
    let ps ← zq9wh as[2]!
    if ps.isAppOf ``List.cons || ps.isAppOf ``List.nil then
     let some d ← withDefault (unfoldDefinition? (mkAppN f #[as[0]!, as[1]!, ps, as[3]!])) | throwError "zq9ev: forF"
     let (r, p) ← zq9ev n (← whnfCore d)
     return (r, ← mkExpectedTypeHint p (← mkEq e r))
    else leaf
   else if c == ``hW && as.size == 5 && as[0]!.isConstOf ``Bool.false then
    let (r, p) ← zq9ev n (mkApp as[2]! as[4]!)
    let some (src, st) := zq9okArgs? r | throwError "zq9ev: source {r}"
    unless src.isAppOf ``yQ.sq do throwError "zq9ev: source {src}"
    let ps0 := src.appArg!
    let (ps, p) ← if ps0.isAppOf ``List.map || zq9isLit ps0 300 then pure (ps0, p) else (do
     let r ← zq9sm ps0
     let lt := mkApp (mkConst ``List [0]) (mkConst ``PV)
     let lam := mkLambda `l .default lt (zq9okE (mkConst ``yQ) (mkApp (mkConst ``yQ.sq) (Lean.Expr.bvar 0)) st)
     return (r.expr, ← mkEqTrans p (← mkCongrArg lam (← r.getProof))))
    let ρ ← zq9nList true 100 (mkApp2 (mkConst ``cY) as[1]! st.appFn!.appArg!)
    let bd := mkApp as[3]! ρ
    let h := st.appArg!
    let le ← mkAppM ``LE.le #[← mkAppM ``List.length #[ps], mkNatLit 4000000]
    let hl ← match ← zq9mkLe (← mkAppM ``List.length #[ps]) (mkNatLit 4000000) with
     | some p => pure p
     | none => match ← zq9byS le with | some p => pure p | none => throwError "zq9ev: length of {ps}"
    let hc ← zq9evC (zq9ev n) bd ps h
    let some (_, _, rc) := (← inferType hc).eq? | throwError "zq9ev: comp"
    let x := rc.appArg!
    let qs := x.appFn!.appArg!
    return (zq9okE (mkConst ``PV) (mkApp (mkConst ``PV.lst) qs) (mkApp2 (mkConst ``bN.mk) st.appFn!.appArg! x.appArg!), mkAppN (mkConst ``Vd) #[as[1]!, as[2]!, as[3]!, as[4]!, st, ps, qs, x.appArg!, p, hl, hc])
   else if c == ``run || c == ``Fl then leaf
   else if c == ``gX && as.size == 5 && as[0]!.isConstOf ``Bool && (as[2]!.isAppOf ``bP || as[3]!.isAppOf ``bP) then
    let (r, p) ← zq9ev n (mkApp as[1]! as[4]!)
    let some (b, s1) := zq9okArgs? r | throwError "zq9ev: test {r}"
    if b.isConstOf ``Bool.true || b.isConstOf ``Bool.false then
     let t := b.isConstOf ``Bool.true
     let (r2, p2) ← zq9ev n (mkApp (if t then as[2]! else as[3]!) s1)
     return (r2, mkAppN (mkConst (if t then ``U8 else ``U9)) #[as[0]!, as[1]!, as[2]!, as[3]!, as[4]!, s1, r2, p, p2])
    else
     let isA := as[3]!.isAppOf ``bP && as[3]!.appArg!.isConstOf ``Bool.false
     let f := if isA then as[2]! else as[3]!
     withLocalDeclD `hb (← mkEq b (mkConst (if isA then ``Bool.true else ``Bool.false))) fun hb => do
      let thms ← (← Simp.getContext).simpTheorems.addTheorem (.fvar hb.fvarId!) hb
      Simp.withSimpTheorems thms do
       let (r2, p2) ← zq9ev n (mkApp f s1)
       let some (b2, _) := zq9okArgs? r2 | throwError "zq9ev: test {r2}"
       let lam ← mkLambdaFVars #[hb] p2
       return (zq9okE (mkConst ``Bool) (mkApp2 (mkConst (if isA then ``Bool.and else ``Bool.or)) b b2) s1, mkAppN (mkConst (if isA then ``WM else `evOr)) #[as[1]!, f, as[4]!, s1, b, b2, p, lam])
   else if c == ``PZ && as.size == 5 then
    let (r, p) ← zq9ev n (mkApp as[3]! as[4]!)
    let some (l, st) := zq9okArgs? r | throwError "zq9ev: made {r}"
    let l ← zq9nList false 50 l
    let h := st.appArg!
    let q ← mkAppM ``Bool.or #[← mkAppM ``List.isEmpty #[h], ← mkAppM ``aM #[l]]
    let (b, pb) ← zq9evB q
    unless b.isConstOf ``Bool.true do throwError "zq9ev: made with refs {b}"
    let lc := mkApp (mkConst ``List [0]) (mkConst ``aj)
    let nn := mkApp (mkConst ``List.nil [0]) (mkConst ``PV)
    let nS := mkApp (mkConst ``List.nil [0]) (mkConst ``PySem.Str)
    let cell := mkApp2 (mkConst ``aj.mk) (mkApp2 (mkConst ``Kd.ins) as[0]! nS) nn
    let cells := mkApp3 (mkConst ``List.cons [0]) (mkConst ``aj) cell (mkApp (mkConst ``List.nil [0]) (mkConst ``aj))
    let ar := mkApp3 (mkConst ``List.cons [0]) (mkConst ``PV) (mkApp (mkConst ``PV.ref) (mkNatLit 0)) l
    let (r2, p2) ← zq9ev n (mkApp2 as[2]! ar cells)
    let some (_, h') := zq9okArgs? r2 | throwError "zq9ev: made, end {r2}"
    let dr := mkApp3 (mkConst ``j7) h' (mkNatLit 4) (mkApp (mkConst ``PV.ref) (mkNatLit 0))
    let some (qv, pd) ← zq9evO dr | throwError "zq9ev: stuck at {dr}"
    let hl ← mkExpectedTypeHint (← mkEqRefl as[1]!) (← mkEq (← mkAppM ``HAdd.hAdd #[← mkAppM ``List.length #[l], mkNatLit 1]) as[1]!)
    return (zq9okE (mkConst ``PV) qv st, mkAppN (mkConst ``YO) #[as[0]!, as[1]!, as[2]!, as[3]!, as[4]!, st, l, h', qv, p, hl, pb, p2, pd])
   else if zq9evUnfold.contains c then
    let some d ← withDefault (unfoldDefinition? e) | red
    zq9ev n (← whnfCore d)
   else
    let some d ← withDefault (unfoldDefinition? e) | red
    let d ← withReducible (whnf d)
    match d.getAppFn with
    | .const c' _ =>
     if c' == ``bnd || c' == ``bP || zq9evUnfold.contains c' then
      let (r, p) ← zq9ev n d
      return (r, ← mkExpectedTypeHint p (← mkEq e r))
     else red
    | _ => red
  | .fvar _ => leaf
  | _ => red
simproc_decl lO (gx _ _) := fun e => do
 let as := e.getAppArgs
 let (r, p) ← zq9ev 400 (mkApp as[1]! as[2]!)
 return .done { expr := r, proof? := mkAppN (mkConst ``WN) #[as[0]!, as[1]!, as[2]!, r, p] }
simproc_decl bJ (gE _ _ _ _) := fun e => do
 let (r, p) ← zq9ev 400 e
 return .done { expr := r, proof? := p }
end
end L2.U
namespace cE
open PySem L2 L2.U
theorem oh(k:Nat)(d:Kn):run aT (k+2) "shape_of" [cP d] []=some (.ok (fB (A5 d)),[]):=by
 rw[sN];have h:=ij k d;cases d<;>simp only[↓bJ,h,kT]<;>rfl
inductive qm where
 | aV | own (s:Sx) | nA (w:Bool) (s:Sx) (src:List Str)
def fW:qm->PV
 | .aV=>.aV
 | .own s=>fB s
 | .nA w s l=>.ak [.str (tq w),fB s,.ak (l.map .str)]
structure Sc where
 K:List Ky
 res:qm
 size:Nat
 hk:List (List b8)
 hv:List PV
def xQ(K:List Ky):List (List b8):=K.map λq=>[.inr q.1]
def A6(K:List Ky):List PV:=K.map λq=>cP q.2
abbrev QT(K:List Ky):PV:=.nd (.dZ false (xQ K)) (A6 K)
def fX(S:Sc):PV:=.nd (.ins "Scene" ["kinds","result","size","heads"]) [QT S.K,fW S.res,.int S.size,.nd (.dZ false S.hk) S.hv]
def cO:List Ky->Str->Option Kn
 | [],_=>none
 | r::l,x=>if r.1=x then some r.2 else cO l x
theorem xR:∀{K:List Ky} {x:Str},cM [.inr x] (xQ K) (A6 K)=(cO K x).map cP
 | [],_=>rfl
 | r::l,x=>by
  show(if [(Sum.inr r.1:b8)]=[Sum.inr x]then some (cP r.2)else cM [.inr x] (xQ l) (A6 l))=_
  unfold cO;by_cases h:r.1=x
  ·rw[if_pos h,if_pos (by rw[h])];rfl
  ·rw[if_neg h,if_neg (by simpa using h),xR]
theorem Ey:∀{K:List Ky} {x:Str},fH [.inr x] (xQ K)=(cO K x).isSome
 | [],_=>rfl
 | r::l,x=>by
  show(decide ([(Sum.inr r.1:b8)]=[Sum.inr x]) || fH [.inr x] (xQ l))=_;unfold cO;rw[Ey];by_cases h:r.1=x
  ·rw[if_pos h,aW (by rw[h])];rfl
  ·rw[if_neg h,bf (by simpa using h)];rfl
theorem MZ{K:List Ky}{x:Str}{d:Kn}{h:List aj}(hd:cO K x=some d):gD h (QT K) (.str x)=some (cP d):=by
 show cM [.inr x] (xQ K) (A6 K)=_;rw[xR,hd];rfl
theorem Vh{K:List Ky}{x:Str}{d:Kn}{h:List aj}(hd:cO K x=some d):Dc true h (.str x) (QT K)=some (.bl false):=by
 show some (PV.bl (!fH [.inr x] (xQ K)))=_;rw[Ey,hd];rfl
theorem QU{K:List Ky}{x:Str}{d:Kn}{h:List aj}(hd:cO K x=some d):LU h (QT K) [.str x]=some (cP d):=by
 show(if fH [.inr x] (xQ K)=true then cM [.inr x] (xQ K) (A6 K)else some .aV)=_
 rw[Ey,xR,hd];rfl
def jt:Kn->Bool
 | .ho false _=>false
 | _=>true
theorem kU(k:Nat)(S:Sc)(x:Str)(p a:PV){d:Kn}(hd:cO S.K x=some d):run aT (k+1) "may_be_written" [fX S,.ak [.str x,.bl (kT d),p,a]] []=some (.ok (.bl (jt d)),[]):=by
 rw[jd];rcases d with s | ⟨_ | _,s⟩<;>simp only[↓bJ,MZ hd]<;>rfl
theorem M0{P:Fin 8->Prop}(h0:P 0)(h1:P 1)(h2:P 2)(h3:P 3)(h4:P 4)(h5:P 5)(h6:P 6)(h7:P 7):∀n,P n
 | 0=>h0 | 1=>h1 | 2=>h2 | 3=>h3 | 4=>h4 | 5=>h5 | 6=>h6 | 7=>h7
def tS(n:Fin 8):Tr:=.ak [.str "strip",.int (1+(n.val:Int))]
def JC:Tr:=.ak [.str "num"]
def Vi:Tr:=.ak [.str "own"]
def M1:Tr:=.ak [.str "rec",.ak [JC,JC]]
def R6:Tr:=.ak [.str "rec",.ak [M1,Vi]]
def Ez:Sx->Tr
 | .nu=>JC
 | .ow=>Vi
 | .st n=>tS n
 | .tw=>M1
 | .no=>.ak [.str "rec",.ak [JC,Vi]]
 | .sn n=>.ak [.str "rec",.ak [tS n,JC]]
 | .tn=>.ak [.str "rec",.ak [M1,JC]]
 | .dp n=>.ak [.str "rec",.ak [R6,tS n]]
 | .di=>R6
 | .fo=>.ak [.str "rec",.ak [M1,M1,M1,M1]]
def QV:Kn->Tr
 | .ow s=>Ez s
 | .ho w s=>.ak [.str (tq w),Ez s]
theorem toT_S(h:List aj)(s:Sx):toT h eS (fB s)=some (Ez s):=by cases s<;>kernel_rfl
theorem toT_K(h:List aj)(d:Kn):toT h eS (cP d)=some (QV d):=by
 cases d with
 | ow s=>exact toT_S h s
 | ho w s=>cases s<;>kernel_rfl
theorem Vj(n m:Fin 8):((1+(n.val:Int))==(1+(m.val:Int)))=decide (n=m):=by
 rw[mI,beq_iff_eq,decide_eq_true_iff,Fin.ext_iff]
 lia
theorem xS(n m:Fin 8):eqT (tS n) (tS m)=decide (n=m):=by
 show((Str.ofString "strip"==Str.ofString "strip")&&(((1+(n.val:Int))==(1+(m.val:Int)))&&true))=_;rw[Vj,Bool.and_true,iR,kq]
theorem EA(a b:Sx):eqT (Ez a) (Ez b)=decide (a=b):=by
 cases a<;>cases b
 case st.st n m=>rw[show decide (Sx.st n=Sx.st m)=decide (n=m) by simp];exact xS n m
 case sn.sn n m=>simp[Ez,eqT,jJ,xS,show eqT JC JC=true by kernel_rfl]
 case dp.dp n m=>simp[Ez,eqT,jJ,xS,show eqT R6 R6=true by kernel_rfl]
 all_goals kernel_rfl
theorem QW(a b:Kn):eqT (QV a) (QV b)=decide (a=b):=by
 rcases a with a | ⟨v,a⟩<;>rcases b with b | ⟨w,b⟩
 ·rw[show decide (Kn.ow a=Kn.ow b)=decide (a=b) by simp];exact EA a b
 ·cases w<;>cases a<;>kernel_rfl
 ·cases v<;>cases b<;>kernel_rfl
 ·show(_==_&&(eqT (Ez a) (Ez b)&&true))=_;rw[EA];cases v<;>cases w
  ·simp
  ·kernel_rfl
  ·kernel_rfl
  ·simp
theorem M3{h:List aj}{a b:Sx}:yF h (fB a) (fB b)=some (.bl (decide (a=b))):=by
 show((toT h eS (fB a)).bind λx=>(toT h eS (fB b)).map λy=>eqT x y).map _=_
 rw[toT_S,toT_S];show some (PV.bl (eqT (Ez a) (Ez b)))=_;rw[EA]
theorem oZ{h:List aj}{a b:Kn}:yF h (cP a) (cP b)=some (.bl (decide (a=b))):=by
 show((toT h eS (cP a)).bind λx=>(toT h eS (cP b)).map λy=>eqT x y).map _=_
 rw[toT_K,toT_K];show some (PV.bl (eqT (QV a) (QV b)))=_;rw[QW]
theorem jg(k:Nat)(s:Sx):run aT (k+9) "is_shape" [fB s] []=some (.ok (.bl true),[]):=by
 cases s
 case st n=>revert n;refine M0 ?_ ?_ ?_ ?_ ?_ ?_ ?_ ?_<;>kernel_rfl
 case sn n=>revert n;refine M0 ?_ ?_ ?_ ?_ ?_ ?_ ?_ ?_<;>kernel_rfl
 case dp n=>revert n;refine M0 ?_ ?_ ?_ ?_ ?_ ?_ ?_ ?_<;>kernel_rfl
 all_goals kernel_rfl
abbrev Te:=List Nat×Nat×Sx
def jn:Sx->List Te
 | .nu=>[([],0,.nu)]
 | .ow=>[([],0,.ow)]
 | .st n=>[([],0,.st n)]
 | .tw=>[([],0,.tw),([0],0,.nu),([1],1,.nu)]
 | .no=>[([],0,.no),([0],0,.nu),([1],1,.ow)]
 | .sn n=>[([],0,.sn n),([0],0,.st n),([1],1,.nu)]
 | .tn=>[([],0,.tn),([0],0,.tw),([0,0],0,.nu),([0,1],1,.nu),([1],2,.nu)]
 | .di=>[([],0,.di),([0],0,.tw),([0,0],0,.nu),([0,1],1,.nu),([1],2,.ow)]
 | .dp n=>[([],0,.dp n),([0],0,.di),([0,0],0,.tw),([0,0,0],0,.nu),([0,0,1],1,.nu),([0,1],2,.ow),([1],3,.st n)]
 | .fo=>[([],0,.fo),([0],0,.tw),([0,0],0,.nu),([0,1],1,.nu),([1],2,.tw),([1,0],2,.nu),([1,1],3,.nu),([2],4,.tw),([2,0],4,.nu),([2,1],5,.nu),([3],6,.tw),([3,0],6,.nu),([3,1],7,.nu)]
def Fm(p:List Nat):PV:=.ak (p.map fun(i:Nat)=>.int (i:Int))
def All{α:Type}(P:α->Prop):List α->Prop
 | []=>True
 | a::l=>P a/\All P l
theorem All.mem{α:Type}{P:α->Prop}:∀{l:List α},All P l->∀e∈l,P e
 | a::l,h,e,he=>by
  rcases aY.mp he with rfl | he
  ·exact h.1
  ·exact All.mem h.2 e he
theorem zj{P:Sx->Te->Prop}(h:∀s,All (P s) (jn s))(s:Sx)(e:Te)(he:e∈jn s):P s e:=(h s).mem e he
theorem A7(k:Nat)(s:Sx)(e:Te)(he:e∈jn s):run aT (k+9) "is_path" [fB s,Fm e.1] []=some (.ok (.bl true),[]):=by
 revert s e
 refine zj λs=>?_
 cases s<;>(repeat' apply And.intro)<;>first | exact True.intro | kernel_rfl
theorem M4(k:Nat)(s:Sx)(e:Te)(he:e∈jn s):run aT (k+9) "part" [fB s,Fm e.1] []=some (.ok (fB e.2.2),[]):=by
 revert s e
 refine zj λs=>?_
 cases s<;>(repeat' apply And.intro)<;>first | exact True.intro | kernel_rfl
inductive At where
 | aV | num (i:Int) | QX (x:Str)
structure Sp where
 x:Str
 t:Bool
 p:List Nat
 a:At
def NK:At->PV
 | .aV=>.aV
 | .num i=>.int i
 | .QX x=>.str x
def eY(s:Sp):PV:=.ak [.str s.x,.bl s.t,Fm s.p,NK s.a]
def Ib(S:Sc)(i:Sx):At->Prop
 | .aV=>True
 | .num j=>∃n,i=.st n/\0<=j/\j<1+(n.val:Int)
 | .QX y=>∃n,i=.st n/\cO S.K y=some (.ow .nu)
structure dX (S:Sc) (s:Sp) (d:Kn) (i:Sx):Prop where
 k:cO S.K s.x=some d
 t:s.t=kT d
 p:∃f,(s.p,f,i)∈jn (A5 d)
 a:Ib S i s.a
theorem jh(k:Nat)(i:Int):run aT (k+1) "is_whole" [.int i] []=some (.ok (.bl true),[]):=by kernel_rfl
theorem sT(k:Nat)(x:List PV):run aT (k+1) "is_whole" [.ak x] []=some (.ok (.bl false),[]):=by kernel_rfl
theorem gv(k:Nat)(S:Sc)(x:Str){d e:Kn}(hd:cO S.K x=some d):run aT (k+1) "has_kind" [fX S,.str x,cP e] []=some (.ok (.bl (decide (d=e))),[]):=by
 rw[sO];simp only[↓bJ,QU hd,oZ]
theorem A8(k:Nat)(S:Sc)(x:Str)(hd:cO S.K x=some (.ow .nu)):run aT (k+1) "has_kind" [fX S,.str x,pN] []=some (.ok (.bl true),[]):=gv k S x (e:=.ow .nu) hd
theorem sU(k:Nat)(S:Sc)(i:Int)(p:PV):run aT (k+1) "has_kind" [fX S,.int i,p] []=some (.ok (.bl false),[]):=by kernel_rfl
theorem bV(k:Nat){S:Sc}{s:Sp}{d:Kn}{i:Sx}(h:dX S s d i):run aT (k+10) "spot_shape" [fX S,eY s] []=some (.ok (fB i),[]):=by
 rw[n0];obtain⟨hd,_,⟨f,hp⟩,_⟩:=h;have h:=λk=>M4 k _ _ hp
 simp only at h;simp only[↓bJ,MZ hd,oh,h]
theorem Ic(k:Nat){S:Sc}{i:Sx}{a:At}(h:Ib S i a):run aT (k+2) "is_at" [fX S,fB i,NK a] []=some (.ok (.bl true),[]):=by
 cases a with
 | aV=>kernel_rfl
 | num j =>
  obtain⟨n,rfl,h1,h2⟩:=h;rw[ql];simp only[↓bJ,sU,jh,aW h1,aW h2]
 | QX y =>
  obtain⟨n,rfl,h1⟩:=h;have e:=λk=>A8 k S y h1
  show run aT (k+2) "is_at" [fX S,fB (.st n),.str y] []=_;rw[ql];simp only[↓bJ,e]
theorem qo(k:Nat){S:Sc}{s:Sp}{d:Kn}{i:Sx}(h:dX S s d i):run aT (k+11) "is_spot" [fX S,eY s] []=some (.ok (.bl true),[]):=by
 have e1:=λk=>bV k h
 obtain⟨hk,ht,⟨f,hp⟩,ha⟩:=h;have e2:=λk=>Ic k ha
 have e3:=λk=>A7 k _ _ hp
 simp only at e3;rw[u0];have e4:Je [] (.bl s.t) (.bl (kT d))=some (.bl false):=by rw[ht];cases d<;>kernel_rfl
 simp only[↓bJ,MZ hk,Vh hk,ij,oh,e1,e2,e3,e4]
def j3:Sp->Sx->Bool
 | ⟨_,_,_,.aV⟩,.nu=>true
 | ⟨_,_,_,.aV⟩,.ow=>true
 | ⟨_,_,_,.aV⟩,_=>false
 | _,_=>true
theorem fT(k:Nat){S:Sc}{s:Sp}{d:Kn}{i:Sx}(h:dX S s d i):run aT (k+12) "is_number_spot" [fX S,eY s] []=some (.ok (.bl (j3 s i)),[]):=by
 have e1:=λk=>bV k h
 have e2:=λk=>qo k h
 rw[jc];obtain⟨x,t,p,a⟩:=s;cases a
 case aV=>cases i<;>simp only[↓bJ,e1,e2,j3]
 all_goals simp only[↓bJ,e1,e2,j3]
theorem dA(k:Nat){S:Sc}{s:Sp}{d:Kn}{i:Sx}(h:dX S s d i)(hn:s.a=.aV):run aT (k+12) "is_part_spot" [fX S,eY s] []=some (.ok (.bl true),[]):=by
 have e2:=λk=>qo k h
 rw[kR];obtain⟨x,t,p,a⟩:=s;cases hn;simp only[↓bJ,e2]
theorem gB(k:Nat){S:Sc}{s:Sp}{d:Kn}{i:Sx}(h:dX S s d i)(hn:s.a=.aV)(hh:kT d=false):run aT (k+13) "is_owned_part" [fX S,eY s] []=some (.ok (.bl true),[]):=by
 have e2:=λk=>dA k h hn
 rw[j2];simp only[↓bJ,e2,h.t,hh,Bool.not_false]
theorem JD(k:Nat){S:Sc}{s:Sp}{d:Kn}{i:Sx}(h:dX S s d i):run aT (k+1) "may_be_written" [fX S,eY s] []=some (.ok (.bl (jt d)),[]):=by
 have:=kU k S s.x (Fm s.p) (NK s.a) h.k;rw[<-h.t]at this;exact this
theorem cD(k:Nat){S:Sc}{s:Sp}{d:Kn}{i:Sx}(h:dX S s d i)(hn:s.a=.aV)(hh:jt d=true):run aT (k+13) "is_written_part" [fX S,eY s] []=some (.ok (.bl true),[]):=by
 have e2:=λk=>dA k h hn
 have e3:=λk=>JD k h
 rw[iE];simp only[↓bJ,e2,e3,hh]
theorem lb(k:Nat){S:Sc}{s:Sp}{d:Kn}{i:Sx}(h:dX S s d i)(hn:j3 s i=true)(hh:jt d=true):run aT (k+13) "is_target" [fX S,eY s] []=some (.ok (.bl true),[]):=by
 have e2:=λk=>fT k h
 have e3:=λk=>JD k h
 rw[oW];simp only[↓bJ,e2,e3,hh,hn]
inductive Op where
 | n (i:Int) | s (s:Sp)
def o6:Op->PV
 | .n i=>.int i
 | .s s=>eY s
def lN(S:Sc):Op->Prop
 | .n i=>0<=i/\i<10^30
 | .s s=>∃d i,dX S s d i/\j3 s i=true
theorem cm(k:Nat){S:Sc}{o:Op}(h:lN S o):run aT (k+13) "is_operand" [fX S,o6 o] []=some (.ok (.bl true),[]):=by
 rw[n4];cases o with
 | n i =>
  obtain⟨h1,h2⟩:=h;have h3:CZ [] (.int 10) (.int 30)=some (.int (10^30)):=by kernel_rfl
  simp only[↓bJ,o6,jh,h3,aW h1,aW h2]
 | s s =>
  obtain⟨d,i,h,hn⟩:=h;have e2:=λk=>fT k h
  have e3:∀k,run aT (k+1) "is_whole" [eY s] []=some (.ok (.bl false),[]):=λk=>sT k _
  simp only[↓bJ,o6,e2,e3,hn]
inductive Rw where
 | put (s:Sp) (o:Op)
 | set (s:Sp) (g:Str) (a b:Op)
 | fill (s:Sp) (o:Op)
 | o7 (t s:Sp)
 | o8 (t s:Sp)
 | drop (s:Sp)
 | ji (w:Bool) (x:Str) (s:Sp)
 | call (x f:Str) (as:List Str)
 | Fo (a b:Op) (to:Int)
 | go (to:Int)
 | Fp (o:Op)
 | gH (x:Str)
def R7(w:Bool):Str:=if w then "sole" else "lend"
def c6:Rw->PV
 | .put s o=>.ak [.str "put",eY s,o6 o]
 | .set s g a b=>.ak [.str "set",eY s,.str g,o6 a,o6 b]
 | .fill s o=>.ak [.str "fill",eY s,o6 o]
 | .o7 t s=>.ak [.str "copy",eY t,eY s]
 | .o8 t s=>.ak [.str "move",eY t,eY s]
 | .drop s=>.ak [.str "drop",eY s]
 | .ji w x s=>.ak [.str (R7 w),.str x,eY s]
 | .call x f as=>.ak [.str "call",.str x,.str f,.ak (as.map .str)]
 | .Fo a b to=>.ak [.str "if",o6 a,o6 b,.int to]
 | .go to=>.ak [.str "go",.int to]
 | .Fp o=>.ak [.str "say",o6 o]
 | .gH x=>.ak [.str "give",.str x]
def o9(S:Sc)(x:Str):qm->Prop
 | .aV=>x=""
 | .own s=>cO S.K x=some (.ow s)
 | .nA w s _=>cO S.K x=some (.ho w s)
def R8:Sx->Bool
 | .ow=>false
 | .no=>false
 | .dp _=>false
 | .di=>false
 | _=>true
def NL(S:Sc)(to:Int):Prop:=0<=to/\to<(S.size:Int)
def b7(S:Sc):Rw->Prop
 | .put s o=>(∃d i,dX S s d i/\j3 s i=true/\jt d=true)/\lN S o
 | .set s g a b=>(∃d i,dX S s d i/\j3 s i=true/\jt d=true)/\(g="+"\/g="-"\/g="*")/\lN S a/\lN S b
 | .fill s o=>(∃d n,dX S s d (.st n)/\s.a=.aV/\jt d=true)/\lN S o
 | .o7 t s=>∃d e i,dX S t d i/\t.a=.aV/\jt d=true/\dX S s e i/\s.a=.aV/\R8 i=true
 | .o8 t s=>∃d e i,dX S t d i/\t.a=.aV/\jt d=true/\dX S s e i/\s.a=.aV/\kT e=false
 | .drop s=>∃d i,dX S s d i/\s.a=.aV/\kT d=false
 | .ji w x s=>∃d i,dX S s d i/\s.a=.aV/\(w=true->jt d=true)/\cO S.K x=some (.ho w i)
 | .call x f as=>∃(ps:List Ky) (res:qm) (q l r:PV),fH [.inr f] S.hk=true/\cM [.inr f] S.hk S.hv=some (.ak [q,.ak (ps.map cF),fW res,l,r])/\as.length=ps.length/\ps.length<=1000/\(∀z∈as.zip ps,cO S.K z.1=some z.2.2)/\o9 S x res
 | .Fo a b to=>lN S a/\lN S b/\NL S to
 | .go to=>NL S to
 | .Fp o=>lN S o
 | .gH x=>o9 S x S.res
theorem EB(k:Nat){S:Sc}{s:Sp}{o:Op}(h:b7 S (.put s o)):run aT (k+14) "is_put" [fX S,c6 (.put s o)] []=some (.ok (.bl true),[]):=by
 obtain⟨⟨d,i,h1,h2,h3⟩,h4⟩:=h;have e1:=λk=>lb k h1 h2 h3
 have e2:=λk=>cm k h4
 rw[xF];simp only[↓bJ,e1,e2]
theorem EC(k:Nat){S:Sc}{s:Sp}{g:Str}{a b:Op}(h:b7 S (.set s g a b)):run aT (k+14) "is_set" [fX S,c6 (.set s g a b)] []=some (.ok (.bl true),[]):=by
 obtain⟨⟨d,i,h1,h2,h3⟩,h4,h5,h6⟩:=h;have e1:=λk=>lb k h1 h2 h3
 have e2:=λk=>cm k h5
 have e3:=λk=>cm k h6
 rw[xG];rcases h4 with rfl | rfl | rfl<;>simp only[↓bJ,e1,e2,e3]
theorem A9(k:Nat){S:Sc}{s:Sp}{o:Op}(h:b7 S (.fill s o)):run aT (k+14) "is_fill" [fX S,c6 (.fill s o)] []=some (.ok (.bl true),[]):=by
 obtain⟨⟨d,n,h1,h2,h3⟩,h4⟩:=h;have e1:=λk=>cD k h1 h2 h3
 have e2:=λk=>cm k h4
 have e3:=λk=>bV k h1
 rw[u3];simp only[↓bJ,e1,e2,e3]
theorem lg(k:Nat){S:Sc}{t s:Sp}{d e:Kn}{i:Sx}(h1:dX S t d i)(h2:dX S s e i):run aT (k+11) "are_alike" [fX S,eY t,eY s] []=some (.ok (.bl true),[]):=by
 have e1:=λk=>bV k h1
 have e2:=λk=>bV k h2
 rw[oX];simp only[↓bJ,e1,e2,M3,decide_true]
theorem vi(k:Nat)(i:Sx):run aT (k+9) "is_copied" [fB i] []=some (.ok (.bl (R8 i)),[]):=by cases i<;>kernel_rfl
theorem Ba(k:Nat){S:Sc}{t s:Sp}(h:b7 S (.o7 t s)):run aT (k+14) "is_copy" [fX S,c6 (.o7 t s)] []=some (.ok (.bl true),[]):=by
 obtain⟨d,e,i,h1,h2,h3,h4,h5,h6⟩:=h;have e1:=λk=>cD k h1 h2 h3
 have e2:=λk=>dA k h4 h5
 have e3:=λk=>lg k h1 h4
 have e4:=λk=>bV k h4
 rw[u4];simp only[↓bJ,e1,e2,e3,e4,vi,h6]
theorem Bb(k:Nat){S:Sc}{t s:Sp}(h:b7 S (.o8 t s)):run aT (k+14) "is_move" [fX S,c6 (.o8 t s)] []=some (.ok (.bl true),[]):=by
 obtain⟨d,e,i,h1,h2,h3,h4,h5,h6⟩:=h;have e1:=λk=>cD k h1 h2 h3
 have e2:=λk=>gB k h4 h5 h6
 have e3:=λk=>lg k h1 h4
 rw[u5];simp only[↓bJ,e1,e2,e3]
theorem Bc(k:Nat){S:Sc}{s:Sp}(h:b7 S (.drop s)):run aT (k+14) "is_drop" [fX S,c6 (.drop s)] []=some (.ok (.bl true),[]):=by
 obtain⟨d,i,h1,h2,h3⟩:=h;have e1:=λk=>gB k h1 h2 h3
 rw[u6];simp only[↓bJ,e1]
theorem oi(k:Nat){S:Sc}{x:Str}{w:Bool}{s:Sx}(hd:cO S.K x=some (.ho w s)):run aT (k+1) "has_kind" [fX S,.str x,.ak [.str (tq w),fB s]] []=some (.ok (.bl true),[]):=by
 have:=gv k S x (e:=.ho w s) hd;rw[aW rfl]at this;exact this
theorem qp(k:Nat){S:Sc}{x:Str}{s:Sp}(h:b7 S (.ji false x s)):run aT (k+14) "is_lend" [fX S,c6 (.ji false x s)] []=some (.ok (.bl true),[]):=by
 obtain⟨d,i,h1,h2,h3,h4⟩:=h;have e1:=λk=>dA k h1 h2
 have e2:=λk=>bV k h1
 have e3:=λk=>oi k h4
 rw[show tq false="lent" from rfl]at e3
 rw[u7];simp only[↓bJ,e1,e2,e3]
theorem qr(k:Nat){S:Sc}{x:Str}{s:Sp}(h:b7 S (.ji true x s)):run aT (k+14) "is_sole" [fX S,c6 (.ji true x s)] []=some (.ok (.bl true),[]):=by
 obtain⟨d,i,h1,h2,h3,h4⟩:=h;have e1:=λk=>cD k h1 h2 (h3 rfl)
 have e2:=λk=>bV k h1
 have e3:=λk=>oi k h4
 rw[show tq true="sole" from rfl]at e3
 rw[u9];simp only[↓bJ,e1,e2,e3]
def M5:qm->Bool
 | .nA _ _ _=>true
 | _=>false
theorem pd(k:Nat)(r:qm)(h:r≠.aV):run aT (k+1) "is_holder" [fW r] []=some (.ok (.bl (M5 r)),[]):=by
 cases r with
 | aV=>exact absurd rfl h
 | own s=>cases s<;>kernel_rfl
 | nA w s l=>cases w<;>kernel_rfl
theorem j4(k:Nat){S:Sc}{x:Str}{r:qm}(h:o9 S x r):run aT (k+2) "takes_back" [fX S,.str x,fW r] []=some (.ok (.bl true),[]):=by
 have e1:=λk=>pd k r
 rw[n5];cases r with
 | aV =>
  subst h;simp only[↓bJ]
 | own s =>
  have e2:∀k,run aT (k+1) "has_kind" [fX S,.str x,fW (.own s)] []=some (.ok (.bl true),[]):=λk=>by
   have:=gv k S x (e:=.ow s) h;rw[aW rfl]at this;exact this
  have e1:=λk=>e1 k (by simp)
  simp only[↓bJ,e1,M5,e2,show k7 (fW (.own s))=false by cases s<;>rfl]
 | nA w s l =>
  have e2:=λk=>oi k h
  have e1:=λk=>e1 k (by simp)
  simp only[↓bJ,e1,M5,e2]
theorem Be(k:Nat){S:Sc}{x:Str}(h:b7 S (.gH x)):run aT (k+14) "is_give" [fX S,c6 (.gH x)] []=some (.ok (.bl true),[]):=by
 have e1:=λk=>j4 k h
 rw[ve];simp only[↓bJ,e1]
theorem qt(k:Nat){S:Sc}{to:Int}(h:NL S to):run aT (k+2) "is_jump" [fX S,.int to] []=some (.ok (.bl true),[]):=by
 rw[vd];simp only[↓bJ,jh,aW h.1,aW h.2]
theorem Ie(k:Nat){S:Sc}{a b:Op}{to:Int}(h:b7 S (.Fo a b to)):run aT (k+14) "is_if" [fX S,c6 (.Fo a b to)] []=some (.ok (.bl true),[]):=by
 obtain⟨h1,h2,h3⟩:=h;have e1:=λk=>cm k h1
 have e2:=λk=>cm k h2
 have e3:=λk=>qt k h3
 rw[AX];simp only[↓bJ,e1,e2,e3]
theorem Ig(k:Nat){S:Sc}{to:Int}(h:b7 S (.go to)):run aT (k+14) "is_go" [fX S,c6 (.go to)] []=some (.ok (.bl true),[]):=by
 have e3:=λk=>qt k h
 rw[AY];simp only[↓bJ,e3]
theorem ED(k:Nat){S:Sc}{o:Op}(h:b7 S (.Fp o)):run aT (k+14) "is_say" [fX S,c6 (.Fp o)] []=some (.ok (.bl true),[]):=by
 have e3:=λk=>cm k h
 rw[xH];simp only[↓bJ,e3]
theorem sV{α β:Type}(f:α->PV)(g:β->PV):∀(as:List α) (bs:List β),List.zipWith dC (as.map f) (bs.map g)=(as.zip bs).map λz=>.ak [f z.1,g z.2]
 | [],_=>by simp
 | _::_,[]=>by simp
 | a::as,b::bs=>by
  have:=sV f g as bs;simp only[aA,List.zipWith_cons_cons,List.zip_cons_cons,this];rfl
theorem qu{α:Type}(g:α->Bool):∀L:List α,i8 (L.map λx=>.bl (g x))=some (L.map g)
 | []=>rfl
 | x::L=>by
  have:=qu g L;unfold i8 at this ⊢;simp_all [aQ,ub]
theorem all_map{α:Type}{g:α->Bool}{L:List α}{h:List aj}:uK h [.lst (L.map λx=>.bl (g x))]=some (.bl (L.all g)):=by
 show(i8 (L.map λx=>.bl (g x))).map _=_
 rw[qu];simp[List.all_map,f9]
theorem jj{α:Type}{L:List α}{h:List aj}:uK h [.lst (L.map λ_=>.bl true)]=some (.bl true):=by
 rw[all_map];simp
theorem Vk{hk:List (List b8)}{hv:List PV}{f:Str}{v:PV}{h:List aj}(e:cM [.inr f] hk hv=some v):gD h (.nd (.dZ false hk) hv) (.str f)=some v:=e
theorem Vl{hk:List (List b8)}{hv:List PV}{f:Str}{h:List aj}(e:fH [.inr f] hk=true):Dc true h (.str f) (.nd (.dZ false hk) hv)=some (.bl false):=by
 show some (PV.bl (!fH [.inr f] hk))=_;rw[e];rfl
theorem de(k:Nat)(ps:List PV)(a b:Int)(ha:a<=ps.length)(hb:(ps.length:Int)<=b):run aT (k+1) "is_tuple_from" [.ak ps,.int a,.int b] []=some (.ok (.bl true),[]):=by
 rw[jZ];simp only[↓bJ,aW ha,aW hb]
theorem c9(k:Nat)(ps:List PV)(a:Int)(ha:(ps.length:Int)=a):run aT (k+2) "is_tuple_of" [.ak ps,.int a] []=some (.ok (.bl true),[]):=by
 have e:=λk=>de k ps a a (by lia) (by lia)
 rw[lL];simp only[↓bJ,e]
theorem Bf(k:Nat){S:Sc}{x f:Str}{as:List Str}(h:b7 S (.call x f as)):run aT (k+14) "is_call" [fX S,c6 (.call x f as)] []=some (.ok (.bl true),[]):=by
 obtain⟨ps,res,q,l,r,h1,h2,h3,h4,h5,h6⟩:=h;have e1:=λk=>j4 k h6
 have e2:=λk=>c9 k (as.map .str) (ps.map cF).length (by rw[ah,ah,h3])
 have e3:∀k,∀z∈as.zip ps,run aT (k+1) "has_kind" [fX S,.str z.1,cP z.2.2] []=some (.ok (.bl true),[]):=λk z hz=>by
  have:=gv k S z.1 (e:=z.2.2) (h5 z hz);rw[aW rfl]at this;exact this
 have e4:((as.zip ps).map λz=>PV.ak [PV.str z.1,cF z.2]).length<=4000000:=by
  rw[ah,mE]
  lia
 rw[vc];simp only[↓bJ,Vk h2,Vl h1,e1,e2,e3,e4,sV,jj]
def WO:Rw->Str
 | .put _ _=>"is_put"
 | .set _ _ _ _=>"is_set"
 | .fill _ _=>"is_fill"
 | .o7 _ _=>"is_copy"
 | .o8 _ _=>"is_move"
 | .drop _=>"is_drop"
 | .ji w _ _=>if w then "is_sole" else "is_lend"
 | .call _ _ _=>"is_call"
 | .Fo _ _ _=>"is_if"
 | .go _=>"is_go"
 | .Fp _=>"is_say"
 | .gH _=>"is_give"
theorem QY(k:Nat){S:Sc}{r:Rw}(h:b7 S r):run aT (k+14) (WO r) [fX S,c6 r] []=some (.ok (.bl true),[]):=by
 cases r with
 | put s o=>exact EB k h
 | set s g a b=>exact EC k h
 | fill s o=>exact A9 k h
 | o7 t s=>exact Ba k h
 | o8 t s=>exact Bb k h
 | drop s=>exact Bc k h
 | ji w x s=>cases w;exact qp k h;exact qr k h
 | call x f as=>exact Bf k h
 | Fo a b to=>exact Ie k h
 | go to=>exact Ig k h
 | Fp o=>exact ED k h
 | gH x=>exact Be k h
theorem EE(k:Nat){S:Sc}{r:Rw}(h:b7 S r):run aT (k+15) "is_row" [fX S,c6 r] []=some (.ok (.bl true),[]):=by
 have e:=λk=>QY k h
 rw[xE];cases r
 case ji w x s =>
  cases w
  ·have e:=λk=>qp k h
   simp only[↓bJ,e]
  ·have e:=λk=>qr k h
   simp only[↓bJ,e]
 all_goals (simp only[WO]at e;simp only[↓bJ,e])
def oj:Rw->Bool
 | .go _=>true
 | .gH _=>true
 | _=>false
theorem EF{α:Type}{xs:List α}{v:α}(h:xs.getLast?=some v):L2.mZ xs (-1)=some v:=by
 have hp:0<xs.length:=by cases xs with | nil=>cases h | cons=>simp
 unfold L2.mZ L2.Fg;rw[if_neg (by lia),if_pos (by lia),my,show((-1:Int)+xs.length).toNat=xs.length-1 by lia,<-List.getLast?_eq_getElem?]
 exact h
theorem xT(k:Nat){S:Sc}{R:List Rw}{r:Rw}(h:∀r∈R,b7 S r)(hl:R.getLast?=some r)(hr:oj r=true)(hn:R.length<=1000):run aT (k+16) "are_rows" [fX S,.ak (R.map c6)] []=some (.ok (.bl true),[]):=by
 have e1:∀k,∀r∈R,run aT (k+15) "is_row" [fX S,c6 r] []=some (.ok (.bl true),[]):=λk r hr=>EE k (h r hr)
 have e2:(R.map c6).length<=4000000:=by rw[ah];lia
 have e3:gD [] (.ak (R.map c6)) (.int (-1))=some (c6 r):=by
  show L2.mZ (R.map c6) (-1)=_;exact EF (by rw[List.getLast?_map,hl];rfl)
 rw[sP];cases r<;>first | (simp only[↓bJ,e1,e2,e3,jj];done) | cases hr
structure om (x:Str):Prop where
 l:1<=x.length
 m:x.length<=8
 c:∀c∈x.cps.toList,97<=c/\c<=122
theorem len_str{h:List aj}{x:Str}(hx:x.length<=1000):jF h [.str x]=some (.int x.length):=by
 show(if x.length<=gY then _ else none)=_
 rw[if_pos (show x.length<=gY from aL hx (by decide))]
theorem Ih{h:List aj}{x:Str}(hx:∀c∈x.cps.toList,c<=122):LG h (.str x)=some (.sq (x.cps.toList.map λc=>.str ⟨#[c]⟩)):=by
 show(if x.cps.all (· < 128)=true then some (yQ.sq (Du x))else none)=_
 rw[if_pos]
 ·rfl
 ·rw[Array.all_eq_true'];intro c hc;have:=hx c (by simpa using hc)
  simp
  lia
theorem Vm{h:List aj}{c:Nat}(hc:97<=c):uu h (.str "a") (.str ⟨#[c]⟩)=some (.bl true):=by
 show some (PV.bl (!(decide ([c]<[97]))))=_;rw[bf]
 ·rfl
 ·intro h;cases h with
  | rel h=>lia
  | cons h=>cases h
theorem Vn{h:List aj}{c:Nat}(hc:c<=122):uu h (.str ⟨#[c]⟩) (.str "z")=some (.bl true):=by
 show some (PV.bl (!(decide ([122]<[c]))))=_;rw[bf]
 ·rfl
 ·intro h;cases h with
  | rel h=>lia
  | cons h=>cases h
theorem Bg(k:Nat){x:Str}(h:om x):run aT (k+1) "is_name" [.str x] []=some (.ok (.bl true),[]):=by
 have h1:(1:Int)<=x.length:=by have:=h.l;lia
 have h2:(x.length:Int)<=8:=by have:=h.m;lia
 have e1:=λh'=>Ih (h:=h') λc hc=>(h.c c hc).2
 have e2:∀h',∀c∈x.cps.toList,uu h' (.str "a") (.str ⟨#[c]⟩)=some (.bl true):=λh' c hc=>Vm (h.c c hc).1
 have e3:∀h',∀c∈x.cps.toList,uu h' (.str ⟨#[c]⟩) (.str "z")=some (.bl true):=λh' c hc=>Vn (h.c c hc).2
 have e4:=λh'=>len_str (h:=h') (aL h.m (by decide))
 have e5:(x.cps.toList.map λc=>PV.str ⟨#[c]⟩).length<=4000000:=by
  have:=h.m;rw[ah];show x.cps.toList.length<=_;have:x.cps.toList.length=x.length:=by simp[Str.length]
  lia
 rw[uX];simp only[↓bJ,e1,e2,e3,e4,e5,aW h1,aW h2,jj]
theorem oo:∀(l m:List Str),(m++l).Nodup->l.foldl kQ m=m++l
 | [],m,_=>by simp
 | x::l,m,h=>by
  have hx:m.any (· == x)=false:=by
   rw[vV];intro y hy;have:=vY.mp h;simp only[beq_iff_eq];exact λz=>this.2.2 y hy x (by simp) z
  rw[mG,show kQ m x=m++[x] by unfold kQ;rw[hx];rfl,oo l (m++[x]) (by simpa using h)]
  simp
theorem vj:∀l:List Str,aQ uC (l.map .str)=some l
 | []=>rfl
 | x::l=>by
  show(some x).bind (λy=>(aQ uC (l.map .str)).map λys=>y::ys)=_
  rw[vj l];rfl
theorem xU{l:List Str}(h:l.Nodup)(hl:l.length<=1000):D6 (.lst (l.map .str))=some (.int l.length):=by
 show(if(l.map PV.str).length<=1000 then(aQ uC (l.map .str)).map λks=>PV.int ((AO ks).length:Nat)else none)=_
 rw[if_pos (by rw[ah];exact hl),vj]
 show some (PV.int ((l.foldl kQ []).length:Nat))=_;rw[oo l [] (by simpa using h)]
 rfl
theorem cW{h:List aj}{a b:Int}:yF h (.int a) (.int b)=some (.bl (a==b)):=rfl
theorem lj(k:Nat){l:List Str}(h:∀x∈l,om x)(hd:l.Nodup)(hl:l.length<=100):run aT (k+2) "are_apart" [.lst (l.map .str)] []=some (.ok (.bl true),[]):=by
 have e1:∀k,∀x∈l,run aT (k+1) "is_name" [.str x] []=some (.ok (.bl true),[]):=λk x hx=>Bg k (h x hx)
 have e2:l.length<=4000000:=by lia
 rw[oT];simp only[↓bJ,e1,e2,jj,xU hd (by lia),ah,cW,iR]
theorem sW(k:Nat)(w:Bool)(p:PV):run aT (k+9) "is_shape" [.ak [.str (tq w),p]] []=some (.ok (.bl false),[]):=by cases w<;>kernel_rfl
theorem fU(k:Nat)(w:Bool)(s:Sx):run aT (k+10) "is_holder_kind" [.ak [.str (tq w),fB s]] []=some (.ok (.bl true),[]):=by
 have e:=λk l=>c9 k l 2
 rw[jb];cases w<;>simp only[↓bJ,e,jg]
theorem Bh(k:Nat)(d:Kn):run aT (k+11) "is_kind" [cP d] []=some (.ok (.bl true),[]):=by
 rw[uY];cases d with
 | ow s =>
  have e1:∀k,run aT (k+9) "is_shape" [cP (.ow s)] []=some (.ok (.bl true),[]):=λk=>jg k s
  simp only[↓bJ,e1]
 | ho w s =>
  have e1:∀k,run aT (k+9) "is_shape" [cP (.ho w s)] []=some (.ok (.bl false),[]):=λk=>sW k w _
  have e2:∀k,run aT (k+10) "is_holder_kind" [cP (.ho w s)] []=some (.ok (.bl true),[]):=λk=>fU k w _
  simp only[↓bJ,e1,e2]
theorem lp(k:Nat)(l:List Ky)(n:Int)(hl:(l.length:Int)<=n)(hn:n<=100):run aT (k+12) "are_named" [.ak (l.map cF),.int n] []=some (.ok (.bl true),[]):=by
 have e1:=λk=>de k (l.map cF) 0 n (by lia) (by rw[ah];exact hl)
 have e2:∀k (q:Ky),run aT (k+2) "is_tuple_of" [cF q,.int 2] []=some (.ok (.bl true),[]):=λk q=>c9 k _ _ rfl
 have e3:(l.map cF).length<=4000000:=by rw[ah];lia
 rw[oU];simp only[↓bJ,e1,e2,e3,Bh,jj]
theorem Vo{α:Type}{f:α->PV}{a b:List α}{h:List aj}(hl:a.length+b.length<=1000):lC h (.ak (a.map f)) (.ak (b.map f))=some (.ak ((a++b).map f)):=by
 show U.sizeOk _ _=_;unfold U.sizeOk;rw[if_pos (show _<=gY from(by rw[ah,ah];exact aL hl (by decide))),bO]
theorem toT_strs{h:List aj}:∀{n:Nat} (l:List Str),aQ (toT h (n+1)) (l.map .str)=some (l.map .str)
 | _,[]=>rfl
 | n,x::l=>by
  show(some (Tr.str x)).bind (λy=>(aQ (toT h (n+1)) (l.map .str)).map λys=>y::ys)=_
  rw[toT_strs l];rfl
theorem qw:∀a b:List Str,jJ (a.map .str) (b.map .str)=decide (a=b)
 | [],[]=>rfl
 | [],_::_=>rfl
 | _::_,[]=>rfl
 | x::a,y::b=>by
  show((x==y)&&jJ (a.map .str) (b.map .str))=_;rw[qw a b,mI];simp
theorem Ij{h:List aj}{a b:List Str}:yF h (.ak (a.map .str)) (.ak (b.map .str))=some (.bl (decide (a=b))):=by
 show(((aQ (toT h 999) (a.map .str)).bind (oB .ak)).bind λx=>((aQ (toT h 999) (b.map .str)).bind (oB .ak)).map λy=>eqT x y).map PV.bl=_
 rw[toT_strs,toT_strs];show some (PV.bl (jJ (a.map .str) (b.map .str)))=_;rw[qw]
theorem Ik{h:List aj}{x:Str}{l:List Str}:Dc false h (.str x) (.ak (l.map .str))=some (.bl (decide (x∈l))):=by
 show((aQ (toT h eS) (l.map .str)).map λys=>ys.any λy=>eqT y (.str x)).map (λb=>PV.bl b)=_
 rw[show eS=999+1 from rfl,toT_strs]
 show some (PV.bl ((l.map Tr.str).any λy=>eqT y (.str x)))=_
 congr 2
 rw[List.any_map,mI,v7];simp only[Function.comp,eqT,beq_iff_eq,iQ];exact⟨λ⟨y,h1,h2⟩=>h2▸h1,λh=>⟨x,h,rfl⟩⟩
def QZ(ps:List Ky):List Str:=(ps.filter λq=>kT q.2).map (·.1)
def EG(ps:List Ky)(l:List Str):Prop:=l=(QZ ps).filter λx=>decide (x∈l)
theorem pe(k:Nat){ps:List Ky}{l:List Str}(h:EG ps l)(hp:ps.length<=1000):run aT (k+2) "are_sources" [.ak (l.map .str),.ak (ps.map cF)] []=some (.ok (.bl true),[]):=by
 have e1:(ps.map cF).length<=4000000:=by rw[ah];lia
 have e2:((ps.filter λq=>kT q.2).map λq=>PV.str q.1).length<=4000000:=by
  have:=List.length_filter_le (λq:Ky=>kT q.2) ps
  rw[ah]
  lia
 have e3:List.map (λx=>PV.str x.fst) (List.filter (λx=>decide (x.fst∈l)) (List.filter (λx=>kT x.snd) ps))=l.map PV.str:=by
  conv=>rhs;rw[h]
  unfold QZ;rw[List.filter_map,dv];rfl
 rw[lM];simp only[↓bJ,e1,e2,e3,ij,Ik,Ij,decide_true]
structure Fd where
 nm:Str
 ps:List Ky
 res:qm
 ls:List Ky
 rw:List Rw
def fdP(F:Fd):PV:=.ak [.str F.nm,.ak (F.ps.map cF),fW F.res,.ak (F.ls.map cF),.ak (F.rw.map c6)]
def vk(ps:List Ky):qm->Prop
 | .nA _ _ l=>EG ps l
 | _=>True
theorem vm(k:Nat){ps:List Ky}{r:qm}(h:vk ps r)(hp:ps.length<=1000):run aT (k+11) "is_result" [fW r,.ak (ps.map cF)] []=some (.ok (.bl true),[]):=by
 rw[oV];cases r with
 | aV=>simp only[↓bJ]
 | own s =>
  have e1:∀k,run aT (k+9) "is_shape" [fW (.own s)] []=some (.ok (.bl true),[]):=λk=>jg k s
  simp only[↓bJ,e1,show k7 (fW (.own s))=false by cases s<;>rfl]
 | nA w s l =>
  have e1:∀k,run aT (k+9) "is_shape" [fW (.nA w s l)] []=some (.ok (.bl false),[]):=λk=>by cases w<;>kernel_rfl
  have e2:∀k,run aT (k+2) "is_tuple_of" [fW (.nA w s l),.int 3] []=some (.ok (.bl true),[]):=λk=>c9 k _ _ rfl
  have e3:=λk=>pe k h hp
  simp only[↓bJ,e1,e2,e3,fU]
structure Bi (F:Fd):Prop where
 p:F.ps.length<=4
 l:F.ls.length<=8
 o:F.ls≠[]
 n:∀q∈F.ps++F.ls,om q.1
 d:((F.ps++F.ls).map (·.1)).Nodup
 r:vk F.ps F.res
 w:1<=F.rw.length
 x:F.rw.length<=32
theorem Bj(k:Nat){F:Fd}(h:Bi F):run aT (k+13) "is_head" [fdP F] []=some (.ok (.bl true),[]):=by
 have e1:∀k,run aT (k+2) "is_tuple_of" [fdP F,.int 5] []=some (.ok (.bl true),[]):=λk=>c9 k _ _ rfl
 have e2:=λk=>lp k F.ps 4 (by have:=h.p;lia) (by decide)
 have e3:=λk=>lp k F.ls 8 (by have:=h.l;lia) (by decide)
 have e4:((F.ps++F.ls).map cF).length<=4000000:=by
  have:=h.p;have:=h.l;rw[ah,cG]
  lia
 have e5:=λk=>lj k (l:=(F.ps++F.ls).map (·.1)) (λx hx=>by obtain⟨q,h1,rfl⟩:=dJ.mp hx;exact h.n q h1) h.d (by have:=h.p;have:=h.l;rw[ah,cG];lia)
 rw[dv]at e5;simp only[f9]at e5;have e6:=λk=>vm k h.r (by have:=h.p;lia)
 have e7:=λk=>de k (F.rw.map c6) 1 32 (by have:=h.w;rw[ah];lia) (by have:=h.x;rw[ah];lia)
 have e8:=λh'=>Vo (f:=cF) (a:=F.ps) (b:=F.ls) (h:=h') (by have:=h.p;have:=h.l;lia)
 rw[uZ];simp only[↓bJ,e1,e2,e3,e4,e5,e6,e7,e8]
theorem sX(k:Nat){F:Fd}(h:F.res=.aV)(hp:∀q∈F.ps,q.2=.ow .nu)(hl:F.ps.length<=4):run aT (k+1) "may_be_run" [fdP F] []=some (.ok (.bl true),[]):=by
 have e1:(F.ps.map cF).length<=4000000:=by rw[ah];lia
 have e2:∀h',∀q∈F.ps,yF h' (cP q.2) pN=some (.bl true):=λh' q hq=>by rw[hp q hq];exact(oZ (a:=.ow .nu) (b:=.ow .nu)).trans (by rw[aW rfl])
 rw[nZ];simp only[↓bJ,h,e1,e2,jj]
theorem EH{α:Type}(key:α->Str)(val:α->PV):∀(L M:List α),((M++L).map key).Nodup->nL (L.map λx=>((.inr (key x):b8),val x)) ⟨.dZ false (M.map λx=>[.inr (key x)]),M.map val⟩=⟨.dZ false ((M++L).map λx=>[.inr (key x)]),(M++L).map val⟩
 | [],M,_=>by simp[nL]
 | x::L,M,h=>by
  have hx:fH [.inr (key x)] (M.map λx=>[(.inr (key x):b8)])=false:=by
   unfold fH;rw[vV];intro y hy;obtain⟨z,hz,rfl⟩:=dJ.mp hy;rw[bO]at h;have:=(vY.mp h).2.2 (key z) (mn hz) (key x) (by simp)
   simpa using this
  show nL (L.map _) (rY false [.inr (key x)] (val x) (M.map λx=>[.inr (key x)]) (M.map val))=_
  unfold rY;rw[hx,if_neg du];have:=EH key val L (M++[x]) (by simpa using h)
  simpa using this
theorem qx{α:Type}(key:α->Str)(val:α->PV):∀L:List α,aQ uH (L.map λx=>.ak [.str (key x),val x])=some (L.map λx=>((.inr (key x):b8),val x))
 | []=>rfl
 | x::L=>by
  show(some ((.inr (key x):b8),val x)).bind (λy=>(aQ uH (L.map λx=>.ak [.str (key x),val x])).map λys=>y::ys)=_
  rw[qx key val L];rfl
theorem zk{α:Type}(key:α->Str)(val:α->PV){L:List α}(h:(L.map key).Nodup)(hl:L.length<=1000):uI (L.map λx=>.ak [.str (key x),val x])=some ⟨.dZ false (L.map λx=>[.inr (key x)]),L.map val⟩:=by
 unfold uI;rw[if_pos (by rw[ah];exact hl),qx]
 have:=EH key val L [] (by simpa using h)
 exact d9 some this
def Vp(P:List Fd)(F:Fd):Sc:=⟨F.ps++F.ls,F.res,F.rw.length,P.map λG=>[.inr G.nm],P.map fdP⟩
theorem Il(c:CT){P:List Fd}{F:Fd}(h:Bi F)(hd:(P.map (·.nm)).Nodup)(hl:P.length<=6):Fl aT c "Scene" [.ref 0,.ak (P.map fdP),fdP F] [⟨.ins "Scene" [],[]⟩]=some (.ok .aV,[⟨.ins "Scene" ["kinds","result","size","heads"],[.ref 1,fW F.res,.int F.rw.length,.ref 2]⟩,⟨.dZ false (xQ (F.ps++F.ls)),A6 (F.ps++F.ls)⟩,⟨.dZ false (P.map λG=>[.inr G.nm]),P.map fdP⟩]):=by
 rw[Ew];unfold zh;have e1:∀st,Qb (.ak (F.ps.map cF)) (.ak (F.ls.map cF)) st=some (.ok (.ref st.h.length),⟨st.ρ,st.h++[⟨.dZ false (xQ (F.ps++F.ls)),A6 (F.ps++F.ls)⟩]⟩):=λst=>by
  show(if(!(F.ps.map cF).isEmpty&&(F.ls.map cF).isEmpty)=true then none else(uI (F.ps.map cF++F.ls.map cF)).bind λc=>gC c st)=_
  have:=h.o;rw[if_neg (by simp[this]),<-bO,show uI ((F.ps++F.ls).map cF)=_ from zk (λq:Ky=>q.1) (λq=>cP q.2) h.d (by have:=h.p;have:=h.l;rw[cG];lia)]
  rfl
 have e2:uI (P.map λG=>.ak [.str G.nm,fdP G])=_:=zk (λG:Fd=>G.nm) fdP hd (by lia)
 have e3:P.length<=4000000:=by lia
 simp only[↓bJ,e1,e2,e3,my,ah]
structure uU (P:List Fd):Prop where
 l:1<=P.length
 m:P.length<=6
 h:∀F∈P,Bi F
 n:∀F∈P,om F.nm
 d:(P.map (·.nm)).Nodup
 f:∀F,P[0]?=some F->F.res=.aV/\∀q∈F.ps,q.2=.ow .nu
 r:∀F∈P,(∀r∈F.rw,b7 (Vp P F) r)/\∃r,F.rw.getLast?=some r/\oj r=true
theorem Bk(s:Sx):noRef (fB s)=true:=by cases s<;>rfl
theorem Im(d:Kn):noRef (cP d)=true:=by
 cases d with
 | ow s=>exact Bk s
 | ho w s=>simp[cP,noRef,aM,Bk]
theorem dB{α:Type}{f:α->PV}(h:∀x,noRef (f x)=true):∀l:List α,aM (l.map f)=true
 | []=>rfl
 | x::l=>by rw[aA,aM,dB h l,h];rfl
theorem sY(l:List Str):aM (l.map .str)=true:=dB (λ_=>rfl) l
theorem Io(l:List Nat):aM (l.map fun(i:Nat)=>.int (i:Int))=true:=dB (λ_=>rfl) l
theorem EI(q:Ky):noRef (cF q)=true:=by simp[cF,noRef,aM,Im]
theorem qy(r:qm):noRef (fW r)=true:=by
 cases r with
 | aV=>rfl
 | own s=>exact Bk s
 | nA w s l=>simp[fW,noRef,aM,Bk,sY]
theorem zl(s:Sp):noRef (eY s)=true:=by
 obtain⟨x,t,p,a⟩:=s;cases a<;>simp[eY,Fm,NK,noRef,aM,Io]
theorem Q4:∀o,noRef (o6 o)=true
 | .n _=>rfl
 | .s s=>zl s
theorem EJ(r:Rw):noRef (c6 r)=true:=by
 cases r<;>simp[c6,noRef,aM,zl,Q4,sY]
theorem JE(F:Fd):noRef (fdP F)=true:=by simp[fdP,noRef,aM,dB,EI,qy,EJ]
theorem lX{h:List aj}{n:Nat}:∀{l:List PV},aM l=true->aQ (j7 h n) l=some l
 | [],_=>rfl
 | p::l,hn=>by
  simp only[aM,aC]at hn;show(j7 h n p).bind (λy=>(aQ (j7 h n) l).map λys=>y::ys)=_
  rw[lX hn.2,show j7 h n p=some p by cases n<;>(unfold j7;rw[if_pos hn.1])]
  rfl
theorem Bm{P:List Fd}{F:Fd}:j7 [⟨.ins "Scene" ["kinds","result","size","heads"],[.ref 1,fW F.res,.int F.rw.length,.ref 2]⟩,⟨.dZ false (xQ (F.ps++F.ls)),A6 (F.ps++F.ls)⟩,⟨.dZ false (P.map λG=>[.inr G.nm]),P.map fdP⟩] 4 (.ref 0)=some (fX (Vp P F)):=by
 have d1:∀n,j7 [⟨.ins "Scene" ["kinds","result","size","heads"],[.ref 1,fW F.res,.int F.rw.length,.ref 2]⟩,⟨.dZ false (xQ (F.ps++F.ls)),A6 (F.ps++F.ls)⟩,⟨.dZ false (P.map λG=>[.inr G.nm]),P.map fdP⟩] (n+1) (.ref 1)=some (QT (F.ps++F.ls)):=λn=>by
  show(aQ (j7 _ n) (A6 (F.ps++F.ls))).map _=_;rw[lX (l:=A6 (F.ps++F.ls)) (dB (λq:Ky=>Im q.2) _)]
  rfl
 have d2:∀n,j7 [⟨.ins "Scene" ["kinds","result","size","heads"],[.ref 1,fW F.res,.int F.rw.length,.ref 2]⟩,⟨.dZ false (xQ (F.ps++F.ls)),A6 (F.ps++F.ls)⟩,⟨.dZ false (P.map λG=>[.inr G.nm]),P.map fdP⟩] (n+1) (.ref 2)=some (.nd (.dZ false (P.map λG=>[.inr G.nm])) (P.map fdP)):=λn=>by
  show(aQ (j7 _ n) (P.map fdP)).map _=_;rw[lX (dB JE _)];rfl
 generalize hh:[(⟨.ins "Scene" ["kinds","result","size","heads"],[.ref 1,fW F.res,.int F.rw.length,.ref 2]⟩:aj),⟨.dZ false (xQ (F.ps++F.ls)),A6 (F.ps++F.ls)⟩,⟨.dZ false (P.map λG=>[.inr G.nm]),P.map fdP⟩]=H at d1 d2 ⊢
 have d3:j7 H 4 (.ref 0)=(aQ (j7 H 3) [.ref 1,fW F.res,.int F.rw.length,.ref 2]).map (.nd (.ins "Scene" ["kinds","result","size","heads"])):=by subst hh;rfl
 have d4:j7 H 3 (fW F.res)=some (fW F.res):=by unfold j7;rw[if_pos (qy _)]
 rw[d3];simp only[aQ,d1,d2,d4];rfl
theorem jk(k:Nat){P:List Fd}(h:uU P):run aT (k+17) "is_right" [.ak (P.map fdP)] []=some (.ok (.bl true),[]):=by
 have e1:=λk=>de k (P.map fdP) 1 6 (by have:=h.l;rw[ah];lia) (by have:=h.m;rw[ah];lia)
 have e2:∀k,∀F∈P,run aT (k+13) "is_head" [fdP F] []=some (.ok (.bl true),[]):=λk F hF=>Bj k (h.h F hF)
 have e3:(P.map fdP).length<=4000000:=by have:=h.m;rw[ah];lia
 have e4:=λk=>lj k (l:=P.map (·.nm)) (λx hx=>by obtain⟨q,h1,rfl⟩:=dJ.mp hx;exact h.n q h1) h.d (by have:=h.m;rw[ah];lia)
 rw[dv]at e4;simp only[f9]at e4;obtain⟨F0,h0⟩:∃F,P[0]?=some F:=⟨_,bF h.l⟩
 have e5:∀h',gD h' (.ak (P.map fdP)) (.int 0)=some (fdP F0):=λh'=>atI_nat (j:=0) (by rw[bu,h0];rfl)
 have e6:=λk=>sX k (h.f F0 h0).1 (h.f F0 h0).2 (h.h F0 (mj h0)).p
 have e7:∀k,∀F∈P,run aT (k+16) "are_rows" [fX (Vp P F),.ak (F.rw.map c6)] []=some (.ok (.bl true),[]):=λk F hF=>by
  obtain⟨h1,r,h2,h3⟩:=h.r F hF;exact xT k h1 h2 h3 (by have:=(h.h F hF).x;lia)
 have e8:∀c,∀F∈P,Fl aT c "Scene" [.ref 0,.ak (P.map fdP),fdP F] [⟨.ins "Scene" [],[]⟩]=_:=λc F hF=>Il c (h.h F hF) h.d h.m
 rw[sM];unfold nY;simp only[↓bJ,e1,e2,e3,e4,e5,e6,e7,e8,Bm,jj]
theorem iF{h:List aj}{i j:Int}(hj:0<j):Ae h (.int i) (.int j)=some (.int (i%j)):=if_pos (aW hj)
theorem Vq{h:List aj}{i j:Int}(hj:0<j/\j<1073741824):yB h (.int i) (.int j)=some (.int (i/j)):=if_pos (aW hj)
theorem Fq{h:List aj}{i j:Int}(hj:(-oI<i/\i<oI)\/(-oI<j/\j<oI)):iD h (.int i) (.int j)=some (.int (i*j)):=if_pos hj
theorem Bn{n:Nat}(hn:n<=4000000):Ar [.int n]=some ((List.range n).map λm:Nat=>.int (m:Int)):=by
 show(if Hj 0 n=true then some (Aq 0 ((n:Int)).toNat)else none)=_
 rw[if_pos (by unfold Hj;exact aW (by lia))]
 unfold Aq;simp
theorem eZ{ps:List PV}(h:aM ps=true):kP [⟨.lst,ps⟩] (.ref 0)=some (.lst ps):=by
 show(aQ (j7 _ 3) ps).map _=_;rw[lX h];rfl
theorem sZ{ρ:List (Option PV)}{F:List PV}{v:PV}(h:F.length<=4000):oK (gV xb) (.ref 0) [v] ⟨ρ,[⟨.lst,F⟩]⟩=some (.ok .aV,⟨ρ,[⟨.lst,F++[v]⟩]⟩):=by
 have:xb F [v]=some (F++[v]):=if_pos (show F.length<gY from mq h (by decide))
 show(((xb F [v]).map λqs=>((⟨.lst,qs⟩:aj),PV.aV)).map λr=>_)=_
 rw[this];rfl
def cp(n:Int):Nat:=97+(n%26).toNat
def lt(n:Int):Str:=⟨#[cp n]⟩
def strOf(l:List Nat):Str:=⟨l.toArray⟩
theorem Bo{a b:List Nat}(h:strOf a=strOf b):a=b:=by
 have:a.toArray=b.toArray:=d9 Str.cps h;simpa using this
theorem xV(a b:List Nat):strOf a++strOf b=strOf (a++b):=by
 show Str.append _ _=_;unfold Str.append strOf;simp
theorem Ip:(Str.ofString "")=strOf []:=by decide +kernel
theorem lY(l:List Nat):(strOf l).length=l.length:=by
 unfold strOf Str.length;simp
theorem xW:∀m:Fin 26,L2.mZ (Str.ofString "abcdefghijklmnopqrstuvwxyz").cps.toList ((m:Nat):Int)=some (97+(m:Nat)):=by decide +kernel
theorem qz{h:List aj}{n:Int}:gD h (.str "abcdefghijklmnopqrstuvwxyz") (.int (n%26))=some (.str (lt n)):=by
 have h0:=eG n (show(26:Int)≠0 by decide)
 have h1:=f7 n (show(0:Int)<26 by decide)
 obtain⟨m,hm⟩:=Int.eq_ofNat_of_zero_le h0;have:=xW ⟨m,by lia⟩
 show(if(Str.ofString "abcdefghijklmnopqrstuvwxyz").length<=gY then(L2.mZ (Str.ofString "abcdefghijklmnopqrstuvwxyz").cps.toList (n%26)).map λc=>PV.str ⟨#[c]⟩else none)=_
 rw[if_pos (by decide +kernel),hm,this]
 show some (PV.str ⟨#[97+m]⟩)=some (PV.str ⟨#[cp n]⟩);unfold cp;rw[hm,ki]
theorem M6{a b:Int}(h:cp a=cp b):a%26=b%26:=by
 unfold cp at h;have h0:=eG a (show(26:Int)≠0 by decide)
 have h1:=eG b (show(26:Int)≠0 by decide)
 lia
theorem JF(n:Int):97<=cp n/\cp n<=122:=by
 unfold cp;have h0:=eG n (show(26:Int)≠0 by decide)
 have h1:=f7 n (show(0:Int)<26 by decide)
 lia
theorem EK{l:List Nat}{n:Int}{h:List aj}(hl:l.length<=100):lC h (.str (strOf l)) (.str (lt n))=some (.str (strOf (l++[cp n]))):=by
 have e:lC h (.str (strOf l)) (.str (lt n))=U.sizeOk ((strOf l).length+(lt n).length) (.str (strOf l++lt n)):=rfl;rw[e,show lt n=strOf [cp n]from rfl,xV,lY,lY]
 exact if_pos (show l.length+1<=gY by have:gY=4000000:=rfl;lia)
abbrev M7:PV:=.str "abcdefghijklmnopqrstuvwxyz"
def M8(B:List Int)(a q i:Nat):Nat:=cp (B.getD i 0+(q:Int)*(if i=a then 1 else 0))
theorem lq(c:CT){x0 x1 x6:Option PV}{h0:List aj}(B:List Int)(a q:Nat)(hB:B.length<=50):∀(R9 pre:List Nat) (x8:Option PV),List.range B.length=pre++R9->∃Bp,ef (cC 8) (n6 c) (R9.map λn:Nat=>.int (n:Int)) ⟨[x0,x1,some M7,some (.int q),some (.lst (B.map .int)),some (.int a),x6,some (.str (strOf (pre.map (M8 B a q)))),x8],h0⟩=some (.ok .nx,⟨[x0,x1,some M7,some (.int q),some (.lst (B.map .int)),some (.int a),x6,some (.str (strOf ((List.range B.length).map (M8 B a q)))),Bp],h0⟩)
 | [],pre,x8,e=>⟨x8,by rw[e,eI];rfl⟩
 | i::R9,pre,x8,e=>by
  have hi:i<B.length:=dI.mp (by rw[e];simp)
  have hp:pre.length<=B.length:=by
   have:=d9 List.length e;rw[fE,cG]at this
   lia
  obtain⟨Bp,h⟩:=lq c (x0:=x0) (x1:=x1) (x6:=x6) (h0:=h0) B a q hB R9 (pre++[i]) (some (.int i)) (by rw[e];simp)
  simp only[bO,aA,bH,M8]at h;refine⟨Bp,?_⟩;have hb:∀h,gD h (.lst (B.map PV.int)) (.int (i:Int))=some (.int (B.getD i 0)):=λ_=>atI_nat (by rw[bu,BJ,bF hi];rfl)
  have he:∀h,C5 h [.bl ((i:Int)==(a:Int))]=some (.int (if i=a then 1 else 0)):=λh=>by
   by_cases hh:i=a
   ·rw[if_pos hh,hh,iR];rfl
   ·rw[if_neg hh,show((i:Int)==(a:Int))=false by rw[gM];lia];rfl
  have hm:∀h,iD h (.int (q:Int)) (.int (if i=a then 1 else 0))=some (.int ((q:Int)*(if i=a then 1 else 0))):=λh=>Fq (.inr (by split<;>decide))
  have hl:(pre.map (M8 B a q)).length<=100:=by rw[ah];lia
  rw[aA];refine dz ?_;simp only[↓lO,hb,he,hm,cW,qz,EK hl,h]
def qA(C:Int)(B:List Int)(a q:Nat):List Nat:=(List.range B.length).map (M8 B a q)++(if C/49%2==1&&(q:Int)%2==1 then [cp (C/98)]else [])
theorem Bq(c:CT){x1:Option PV}{C:Int}(B:List Int)(a q:Nat)(hB:B.length<=50){F:List PV}(hF:F.length<=100)(x7 x8:Option PV):∃Bp,je c ⟨[some (.int C),x1,some M7,some (.int q),some (.lst (B.map .int)),some (.int a),some (.ref 0),x7,x8],[⟨.lst,F⟩]⟩=some (.ok .nx,⟨[some (.int C),x1,some M7,some (.int q),some (.lst (B.map .int)),some (.int a),some (.ref 0),some (.str (strOf (qA C B a q))),Bp],[⟨.lst,F++[.str (strOf (qA C B a q))]⟩]⟩):=by
 obtain⟨Bp,h⟩:=lq c (x0:=some (.int C)) (x1:=x1) (x6:=some (.ref 0)) (h0:=[⟨.lst,F⟩]) B a q hB (List.range B.length) [] x8 rfl;obtain⟨l,hl⟩:∃l,l=(List.range B.length).map (M8 B a q):=⟨_,rfl⟩
 have ll:l.length<=100:=by rw[hl];simp;lia
 rw[<-hl]at h
 delta n6 lK at h
 refine⟨Bp,?_⟩;have e1:jF [⟨.lst,F⟩] [.lst (B.map .int)]=some (.int (B.length:Nat)):=by show some (PV.int (((B.map PV.int).length:Nat):Int))=_;rw[ah]
 have e2:=Bn (n:=B.length) (by lia)
 have hF:=λρ v=>@sZ ρ F v (aL hF (by decide))
 simp only[bH,<-Ip]at h;refine dz ?_;unfold qA;rw[<-hl];cases h1:C/49%2==1
 ·simp only[↓lO,h,e1,e2,cW,h1,hF,Bool.false_and,dt,cB,eI]
 ·cases h2:(q:Int)%2==1
  ·simp only[↓lO,h,e1,e2,cW,h1,h2,hF,kq,dt,cB,eI]
  ·simp only[↓lO,h,e1,e2,cW,h1,h2,hF,kq,ee,qz,EK ll]
theorem oq(c:CT){x1:Option PV}{C:Int}(B:List Int)(a:Nat)(hB:B.length<=50):∀(qs:List Nat) (F:List PV) (x3 x7 x8:Option PV),F.length+qs.length<=100->∃Vr xX Bp,ef (cC 3) (je c) (qs.map λn:Nat=>.int (n:Int)) ⟨[some (.int C),x1,some M7,x3,some (.lst (B.map .int)),some (.int a),some (.ref 0),x7,x8],[⟨.lst,F⟩]⟩=some (.ok .nx,⟨[some (.int C),x1,some M7,Vr,some (.lst (B.map .int)),some (.int a),some (.ref 0),xX,Bp],[⟨.lst,F++qs.map λq=>.str (strOf (qA C B a q))⟩]⟩)
 | [],F,x3,x7,x8,_=>⟨x3,x7,x8,by simp;rfl⟩
 | q::qs,F,x3,x7,x8,hz=>by
  rw[bX]at hz;obtain⟨y8,h⟩:=Bq c (x1:=x1) (C:=C) B a q hB (F:=F) (by lia) x7 x8
  obtain⟨z3,z7,z8,h2⟩:=oq c (x1:=x1) (C:=C) B a hB qs (F++[.str (strOf (qA C B a q))]) (some (.int q)) (some (.str (strOf (qA C B a q)))) y8 (by simp;lia)
  refine⟨z3,z7,z8,?_⟩;rw[aA,aA,show F++PV.str (strOf (qA C B a q))::qs.map (λq=>PV.str (strOf (qA C B a q)))=F++[PV.str (strOf (qA C B a q))]++qs.map (λq=>PV.str (strOf (qA C B a q))) by simp]
  exact fC (s1:=⟨[some (.int C),x1,some M7,some (.int q),some (.lst (B.map .int)),some (.int a),some (.ref 0),x7,x8],[⟨.lst,F⟩]⟩) rfl h h2
theorem Iq{C:Int}{B:List Int}{a q q':Nat}(hp:a<B.length)(h1:q<26)(h2:q'<26)(h:strOf (qA C B a q)=strOf (qA C B a q')):q=q':=by
 have h:=Bo h;have at_:∀q:Nat,(qA C B a q)[a]?=some (cp (B.getD a 0+(q:Int))):=λq=>by
  unfold qA;rw[ma (by simp;lia),bu,vR hp]
  simp[M8]
 have e:=d9 (λl=>l[a]?) h
 simp only[at_]at e;have:=M6 (bz e)
 lia
theorem M9{C:Int}{B:List Int}{a q:Nat}(h1:1<=B.length)(h2:B.length<=7):om (strOf (qA C B a q)):=by
 have hl:(qA C B a q).length=B.length+(if C/49%2==1&&(q:Int)%2==1 then 1 else 0):=by
  unfold qA;rw[cG,ah,fE];split<;>rfl
 refine⟨by rw[lY,hl];lia,by rw[lY,hl];split<;>lia,λc hc=>?_⟩
 have hc:c∈qA C B a q:=by simpa[strOf]using hc
 unfold qA at hc;rcases dH.mp hc with hc | hc
 ·obtain⟨i,_,rfl⟩:=dJ.mp hc;exact JF _
 ·split at hc
  ·rw[b6.mp hc];exact JF _
  ·cases hc
def Sb(N:Nat->Str):List Str:=(List.range 16).map N
theorem Ir(k:Nat)(C:Int):∃N:Nat->Str,(∀i j,i<16->j<16->N i=N j->i=j)/\(∀i,om (N i))/\run aT (k+1) "_law_names" [.int C,.int 16] []=some (.ok (.ref 0),[⟨.lst,(Sb N).map .str⟩]):=by
 obtain⟨ln,ND⟩:∃ln:Nat,1+C%7=(ln:Int):=⟨(1+C%7).toNat,by lia⟩
 have Zk:1<=ln/\ln<=7:=by lia
 obtain⟨B,hB⟩:∃B:List Int,B=(List.range ln).map λi:Nat=>(C/7/((i:Int)*i+1)+5*(i:Int))%26:=⟨_,rfl⟩
 have Bl:B.length=ln:=by rw[hB];simp
 obtain⟨a,ha⟩:∃a:Nat,C/7%(ln:Int)=(a:Int):=⟨(C/7%(ln:Int)).toNat,(Int.toNat_of_nonneg (eG _ (by lia))).symm⟩
 have YQ:a<B.length:=by
  have:=f7 (C/7) (show(0:Int)<(ln:Int) by lia)
  lia
 obtain⟨x3,x7,x8,h⟩:=oq (run aT k) (x1:=some (.int 16)) (C:=C) B a (by lia) (List.range 16) [] none none none (by simp)
 refine⟨λq=>strOf (qA C B a q),λi j hi hj e=>Iq YQ (by lia) (by lia) e,λi=>M9 (by lia) (by lia),?_⟩
 have e1:=Bn (n:=ln) (by lia)
 have e2:∀i∈List.range ln,∀h,iD h (.int (i:Int)) (.int (i:Int))=some (.int ((i:Int)*i)):=λi hi h=>Fq (.inl (by have:=dI.mp hi;have:(oI:Int)=18446744073709551616:=rfl;lia))
 have e3:∀i∈List.range ln,∀h (a:Int),yB h (.int a) (.int ((i:Int)*i+1))=some (.int (a/((i:Int)*i+1))):=λi hi h a=>by
  have hi:=dI.mp hi;have i0:(0:Int)<=(i:Int)*i:=Int.mul_nonneg (by lia) (by lia)
  have Zl:(i:Int)*i<=49:=by
   rcases i with _ | _ | _ | _ | _ | _ | _ | _<;>first | lia | decide
  exact Vq (by lia)
 have e4:∀i∈List.range ln,∀h,iD h (.int 5) (.int (i:Int))=some (.int (5*(i:Int))):=λi hi h=>Fq (.inl (by decide))
 have e5:(List.range ln).length<=4000000:=by rw[fE];lia
 have e6:(List.range ln).map (λi:Nat=>PV.int ((C/7/((i:Int)*i+1)+5*(i:Int))%26))=B.map .int:=by rw[hB,dv];rfl
 have e7:∀h,Ae h (.int (C/7)) (.int (ln:Int))=some (.int (a:Int)):=λh'=>by rw[iF (by lia),ha]
 have e8:∀(f:Nat->PV) h,jF h [.lst ((List.range ln).map f)]=some (.int (ln:Int)):=λf h'=>by show some (PV.int ((((List.range ln).map f).length:Nat):Int))=_;rw[ah,fE]
 have e9:Ar [.int 16]=some ((List.range 16).map λm:Nat=>.int (m:Int)):=Bn (n:=16) (by decide)
 delta je lK at h
 rw[eJ,<-e6]at h;rw[xJ];simp only[↓bJ,ND,e1,e2,e3,e4,e5,e7,e8,e9,h,ah];rfl
theorem EL(ps:List PV)(q:Nat):gk ps none (some (q:Int))=ps.take q:=by
 unfold gk;rw[HT.yu,HT.mX,List.drop_zero,Nat.sub_zero];by_cases h:q<=ps.length
 ·rw[wo h]
 ·rw[Nat.min_eq_right (by lia),j9 (by lia),j9 (by lia)]
theorem vn(ps:List PV)(q:Nat):gk ps (some (q:Int)) none=ps.drop q:=by
 unfold gk;rw[HT.yu,HT.mX];by_cases h:q<=ps.length
 ·rw[wo h,j9 (by simp)]
 ·rw[Nat.min_eq_right (by lia),List.drop_of_length_le (by lia),List.drop_of_length_le (by lia),List.take_nil]
theorem pick{α:Type}(f:α->PV)(L:List α)(m:Int)(h:0<L.length):∃p∈L,∀H:List aj,gD H (.lst (L.map f)) (.int (m%(L.length:Int)))=some (f p):=by
 have UI:=eG m (show(L.length:Int)≠0 by lia)
 have Zm:=f7 m (show(0:Int)<(L.length:Int) by lia)
 obtain⟨j,hj⟩:=Int.eq_ofNat_of_zero_le UI;have Vs:j<L.length:=by lia
 refine⟨L[j],wc _,λH=>?_⟩
 rw[hj];exact atI_nat (by rw[bu,bF Vs];rfl)
def Iu(b s:Sx):List Kn:=[.ow .nu,.ow b,.ow s,.ho true b,.ho false b,.ho true s,.ho false s,.ho false .nu]
theorem Na(k:Nat)(C:Int):∃b s,run aT (k+1) "_law_menu" [.int C] []=some (.ok (.lst ((Iu b s).map cP)),[]):=by
 obtain⟨n,hn⟩:∃n:Fin 8,C/8%8=(n.val:Int):=⟨⟨(C/8%8).toNat,by lia⟩,by simp;lia⟩
 obtain⟨b,s,e⟩:∃b s,∀h,gD h (.lst [.ak [pT,pN],.ak [.ak [.str "rec",.ak [pN,pO]],pO],.ak [.ak [.str "rec",.ak [.ak [.str "strip",.int (1+(n.val:Int))],pN]],.ak [.str "strip",.int (1+(n.val:Int))]],.ak [.ak [.str "rec",.ak [pT,pN]],pT],.ak [.ak [.str "rec",.ak [pD,.ak [.str "strip",.int (1+(n.val:Int))]]],.ak [.str "strip",.int (1+(n.val:Int))]],.ak [.ak [.str "strip",.int (1+(n.val:Int))],pT],.ak [.ak [.str "rec",.ak [pT,pT,pT,pT]],pT],.ak [.ak [.str "rec",.ak [pD,.ak [.str "strip",.int (1+(n.val:Int))]]],pO]]) (.int (C%8))=some (.ak [fB b,fB s]):=by
  have hr:C%8=0\/C%8=1\/C%8=2\/C%8=3\/C%8=4\/C%8=5\/C%8=6\/C%8=7:=by lia
  rcases hr with hr | hr | hr | hr | hr | hr | hr | hr<;>rw[hr]
  ·exact⟨.tw,.nu,λ_=>rfl⟩
  ·exact⟨.no,.ow,λ_=>rfl⟩
  ·exact⟨.sn n,.st n,λ_=>rfl⟩
  ·exact⟨.tn,.tw,λ_=>rfl⟩
  ·exact⟨.dp n,.st n,λ_=>rfl⟩
  ·exact⟨.st n,.tw,λ_=>rfl⟩
  ·exact⟨.fo,.tw,λ_=>rfl⟩
  ·exact⟨.dp n,.ow,λ_=>rfl⟩
 refine⟨b,s,?_⟩;rw[AZ];simp only[↓bJ,hn,e];rfl
theorem bM(k:Nat)(C:Int):run aT (k+1) "_law_mixed" [.int C] []=some (.ok (.lst [.int (C*48271%2147483647),.int (C*69621%2147483629),.int (C*16807%2147483587),.int (C*39373%2147483579)]),[]):=by
 have e1:∀h,iD h (.int C) (.int 48271)=some (.int (C*48271)):=λh=>Fq (.inr (by decide))
 have e2:∀h,iD h (.int C) (.int 69621)=some (.int (C*69621)):=λh=>Fq (.inr (by decide))
 have e3:∀h,iD h (.int C) (.int 16807)=some (.int (C*16807)):=λh=>Fq (.inr (by decide))
 have e4:∀h,iD h (.int C) (.int 39373)=some (.int (C*39373)):=λh=>Fq (.inr (by decide))
 rw[xI];simp only[↓bJ,e1,e2,e3,e4]
theorem lr(c:CT){M:List Kn}(hM:M.length=8){x2:Option PV}:∀(m:Nat) (ns:List Nat) (C:Int) (ks:List Kn) (x4:Option PV),ns.length=m->ks.length+m<=1000->∃(C':Int) (Br:Option PV) (ls:List Kn),ls.length=ks.length+m/\ef (cC 4) (k9 c) (ns.map λn:Nat=>.int (n:Int)) ⟨[some (.lst (M.map cP)),some (.int C),x2,some (.ref 0),x4],[⟨.lst,ks.map cP⟩]⟩=some (.ok .nx,⟨[some (.lst (M.map cP)),some (.int C'),x2,some (.ref 0),Br],[⟨.lst,ls.map cP⟩]⟩)
 | 0,ns,C,ks,x4,hn,_=>by
  rw[gI hn];exact⟨C,x4,ks,rfl,rfl⟩
 | m+1,n::ns,C,ks,x4,hn,hk=>by
  obtain⟨d,_,hd⟩:=pick cP M C (by lia)
  rw[hM]at hd;have hd:∀H,gD H (.lst (M.map cP)) (.int (C%8))=some (cP d):=hd
  obtain⟨C',Br,ls,h1,h2⟩:=lr c hM (x2:=x2) m ns (C/8) (ks++[d]) (some (.int n)) (by simpa using hn) (by simp;lia)
  refine⟨C',Br,ls,by simp at h1;lia,?_⟩
  have e1:∀h,jF h [.lst (M.map cP)]=some (.int 8):=λh=>by show some (PV.int (((M.map cP).length:Nat):Int))=_;rw[ah,hM];rfl
  have e2:=λρ v=>@sZ ρ (ks.map cP) v (by rw[ah];lia)
  simp only[bO,aA,bH]at h2;rw[aA];refine dz ?_;simp only[↓lO,e1,e2,hd,h2]
theorem Q5(l:List Kn):aM (l.map cP)=true:=dB Im l
theorem vo(k:Nat){M:List Kn}(hM:M.length=8)(C:Int)(m:Nat)(hm:m<=100):∃ks:List Kn,ks.length=m/\run aT (k+1) "_law_picked" [.lst (M.map cP),.int C,.int (m:Int)] []=some (.ok (.ref 0),[⟨.lst,ks.map cP⟩]):=by
 obtain⟨C',x4,ks,h1,h2⟩:=lr (run aT k) hM (x2:=some (.int m)) m (List.range m) C [] none (by simp) (by simp;lia)
 refine⟨ks,by simpa using h1,?_⟩
 have e1:=Bn (n:=m) (by lia)
 delta k9 lK at h2
 rw[bH]at h2;rw[vf];simp only[↓bJ,e1,h2]
def Iv:qm->Option Kn
 | .aV=>none
 | .own s=>some (.ow s)
 | .nA w s _=>some (.ho w s)
theorem xY(k:Nat)(r:qm){d:Kn}(h:Iv r=some d):run aT (k+1) "_law_back" [fW r] []=some (.ok (cP d),[]):=by
 cases r with
 | aV=>cases h
 | own s=>cases h;cases s<;>kernel_rfl
 | nA w s l=>cases h;kernel_rfl
def w0:Kn->Str
 | .ho w _=>tq w
 | .ow .nu=>"num"
 | .ow .ow=>"own"
 | .ow (.st _)=>"strip"
 | .ow _=>"rec"
theorem Bs{h:List aj}{d:Kn}:gD h (cP d) (.int 0)=some (.str (w0 d)):=by
 cases d with
 | ow s=>cases s<;>rfl
 | ho w s=>rfl
theorem zm{h:List aj}{d:Kn}:Dc false h (.str (w0 d)) (.ak [.str "lent",.str "sole"])=some (.bl (kT d)):=by
 cases d with
 | ow s=>cases s<;>kernel_rfl
 | ho w s=>cases w<;>kernel_rfl
def Iw:List Ky->Int->List Str
 | [],_=>[]
 | q::ps,n=>(if kT q.2&&n%2==0 then [q.1]else [])++Iw ps (n/2)
theorem ik(c:CT){x0 x1 x2:Option PV}:∀(ps:List Ky) (l:List Str) (n:Int) (x5 x6:Option PV),l.length+ps.length<=1000->∃(n':Int) (Iy qB:Option PV),ef (kE 2 Q3) (la c) (ps.map cF) ⟨[x0,x1,x2,some (.ref 0),some (.int n),x5,x6],[⟨.lst,l.map .str⟩]⟩=some (.ok .nx,⟨[x0,x1,x2,some (.ref 0),some (.int n'),Iy,qB],[⟨.lst,(l++Iw ps n).map .str⟩]⟩)
 | [],l,n,x5,x6,_=>⟨n,x5,x6,by simp[Iw];rfl⟩
 | q::ps,l,n,x5,x6,hl=>by
  simp only[bX]at hl;have e2:=λρ v=>@sZ ρ (l.map .str) v (by rw[ah];lia)
  unfold Iw;cases h1:kT q.2&&n%2==0
  ·obtain⟨n',y5,y6,h⟩:=ik c (x0:=x0) (x1:=x1) (x2:=x2) ps l (n/2) (some (.str q.1)) (some (cP q.2)) (by lia)
   refine⟨n',y5,y6,?_⟩;rw[aA];refine dz ?_;cases h2:kT q.2
   ·simp only[↓lO,Bs,zm,h2,h,dt,cB,eJ]
   ·have h3:(n%2==0)=false:=by rw[h2]at h1;simpa using h1
    simp only[↓lO,Bs,zm,h2,h3,cW,h,dt,cB,eJ]
  ·obtain⟨n',y5,y6,h⟩:=ik c (x0:=x0) (x1:=x1) (x2:=x2) ps (l++[q.1]) (n/2) (some (.str q.1)) (some (cP q.2)) (by simp;lia)
   refine⟨n',y5,y6,?_⟩;rw[aC]at h1;rw[aA];simp only[bO,aA,bH]at h;refine dz ?_;simp only[↓lO,Bs,zm,h1.1,h1.2,cW,e2,h,ee,bO,aA,bH,mw]
theorem lZ:∀(ps:List Ky) (n:Int),(Iw ps n).Sublist (QZ ps)
 | [],_=>.slnil
 | q::ps,n=>by
  unfold Iw QZ;cases hq:kT q.2 with
  | false =>
   rw[vF (by simp[hq])]
   simp only[Bool.false_and,dt,cB,eJ];exact lZ ps (n/2)
  | true =>
   rw[vH (by simp[hq]),aA]
   by_cases h2:n%2==0
   ·simp only[h2,kq,ee,List.singleton_append];exact(lZ ps (n/2)).cons_cons _
   ·simp only[h2,kq,dt,cB,eJ];exact(lZ ps (n/2)).cons _
theorem xZ{l m:List Str}(h:l.Sublist m)(hd:m.Nodup):l=m.filter λx=>decide (x∈l):=by
 induction h with
 | slnil=>rfl
 | @cons l m a h ih =>
  have FK:=eL.mp hd;rw[vF (by simpa using λz=>FK.1 (h.subset z))]
  exact ih FK.2
 | @cons_cons l m a h ih =>
  have FK:=eL.mp hd;rw[vH (by simp)]
  congr 1
  refine(ih FK.2).trans (List.filter_congr λx hx=>?_)
  have:x≠a:=λz=>FK.1 (z▸hx)
  simp[this]
theorem Iz(ps:List Ky):(QZ ps).Sublist (ps.map (·.1)):=List.Sublist.map _ List.filter_sublist
theorem IA{ps:List Ky}(hd:(ps.map (·.1)).Nodup)(n:Int):EG ps (Iw ps n):=xZ (lZ ps n) (hd.sublist (Iz ps))
theorem EM(k:Nat){b s:Sx}{ps:List Ky}(hp:ps.length<=4)(hd:(ps.map (·.1)).Nodup)(C:Int):∃(r:qm) (h':List aj),vk ps r/\run aT (k+1) "_law_result" [.lst ((Iu b s).map cP),.lst (ps.map cF),.int C] []=some (.ok (fW r),h'):=by
 rw[vg];have h4:C%4=0\/C%4=1\/(C%4==0)=false/\(C%4==1)=false:=by simp only[gM];lia
 rcases h4 with h4 | h4 | ⟨h4,h5⟩
 ·refine⟨.aV,[],trivial,?_⟩;simp only[↓bJ,cW,h4];rfl
 ·obtain⟨s',hs⟩:∃s',gD [] (.lst ((Iu b s).map cP)) (.int (C/4%3))=some (fB s'):=by
   have:C/4%3=0\/C/4%3=1\/C/4%3=2:=by lia
   rcases this with h | h | h<;>rw[h]
   ·exact⟨.nu,rfl⟩
   ·exact⟨b,rfl⟩
   ·exact⟨s,rfl⟩
  refine⟨.own s',[],trivial,?_⟩;simp only[↓bJ,cW,h4,hs];rfl
 ·obtain⟨w,s',hs⟩:∃w s',∀H,gD H (.lst ((Iu b s).map cP)) (.int (3+C/4%5))=some (.ak [.str (tq w),fB s']):=by
   have:C/4%5=0\/C/4%5=1\/C/4%5=2\/C/4%5=3\/C/4%5=4:=by lia
   rcases this with h | h | h | h | h<;>rw[h]
   ·exact⟨true,b,λ_=>rfl⟩
   ·exact⟨false,b,λ_=>rfl⟩
   ·exact⟨true,s,λ_=>rfl⟩
   ·exact⟨false,s,λ_=>rfl⟩
   ·exact⟨false,.nu,λ_=>rfl⟩
  obtain⟨n',x5,x6,h⟩:=ik (run aT k) (x0:=some (.lst ((Iu b s).map cP))) (x1:=some (.lst (ps.map cF))) (x2:=some (.int C)) ps [] (C/32) none none (by simp;lia)
  delta la lK at h
  rw[bH,eJ]at h;refine⟨.nA w s' (Iw ps (C/32)),[⟨.lst,(Iw ps (C/32)).map .str⟩],IA hd _,?_⟩;simp only[↓bJ,cW,h4,h5,hs,h];rfl
theorem lz{xs:List Str}{ks:List Kn}(h:ks.length<=1000):UE (.lst (xs.map .str)) (.lst (ks.map cP))=some ((xs.zip ks).map cF):=by
 show(if(List.zipWith dC (xs.map .str) (ks.map cP)).length<=gY then some (List.zipWith dC (xs.map .str) (ks.map cP))else none)=_
 rw[sV,if_pos]
 ·rfl
 ·rw[ah,mE];exact aL (aL (Nat.min_le_right _ _) h) (by decide)
theorem Vt{a b:List Kn}{h:List aj}(hl:a.length+b.length<=1000):lC h (.lst (a.map cP)) (.lst (b.map cP))=some (.lst ((a++b).map cP)):=by
 show U.sizeOk _ _=_;unfold U.sizeOk;rw[if_pos (show _<=gY from(by rw[ah,ah];exact aL hl (by decide))),bO]
theorem JG{a:List Kn}{d:Kn}{h:List aj}(hl:a.length<=900):lC h (.lst (a.map cP)) (.lst [cP d])=some (.lst ((a++[d]).map cP)):=Vt (b:=[d]) (by simp;lia)
theorem Nb{α:Type}{f:α->PV}{L:List α}{n:Nat}{h:List aj}:GQ h (some (n:Int)) none (.lst (L.map f))=some (.lst ((L.drop n).map f)):=by
 show some (PV.lst (gk (L.map f) (some (n:Int)) none))=_;rw[vn,List.map_drop]
theorem Q6{h:List aj}{m:Nat}(hm:m<=100):iD h (.lst [pN]) (.int m)=some (.lst ((List.replicate m (Kn.ow .nu)).map cP)):=by
 show((if(-1000<=(m:Int)/\(m:Int)<=1000/\1<=100)then some (List.replicate ((m:Int)).toNat [pN]).flatten else none)).map PV.lst=_
 rw[if_pos (by lia),ki]
 have:(List.replicate m [pN]).flatten=(List.replicate m (Kn.ow .nu)).map cP:=by
  induction m with
  | zero=>rfl
  | succ m ih=>rw[fZ,iP,fZ,aA,ih (by lia)];rfl
 rw[this];rfl
structure Hd where
 nm:Str
 ps:List Ky
 res:qm
 ls:List Ky
def fg(H:Hd):PV:=.ak [.str H.nm,.lst (H.ps.map cF),fW H.res,.lst (H.ls.map cF)]
structure fj (xs:List Str) (i:Nat) (H:Hd):Prop where
 nm:xs[15-i]?=some H.nm
 p:H.ps.length<=4
 l:H.ls.length<=8
 nn:∃m,(H.ps++H.ls).map (·.1)=xs.take m
 nu:∃q∈H.ls,q.2=.ow .nu
 r:vk H.ps H.res
 bk:∀d,Iv H.res=some d->∃q∈H.ls,q.2=d
 z:i=0->H.res=.aV/\∀q∈H.ps,q.2=.ow .nu
theorem l6{α β:Type}:∀(a:List α) (b:List β),(a.zip b).map (·.1)=a.take b.length
 | [],_=>by simp
 | _::_,[]=>by simp
 | x::a,y::b=>by simp[l6 a b]
theorem zo{α β:Type}:∀(a:List α) (b:List β),b.length<=a.length->(a.zip b).map (·.2)=b
 | _,[],_=>by simp
 | [],_::_,h=>by simp at h
 | x::a,y::b,h=>by simp[zo a b (by simpa using h)]
theorem s9{xs:List Str}(hx:xs.length=16){i:Nat}{nm:Str}(hn:xs[15-i]?=some nm){ks ds:List Kn}(hk:ks.length<=4)(hd:ds.length<=8){r:qm}(hr:vk (xs.zip ks) r)(h1:.ow .nu∈ds)(h2:∀d,Iv r=some d->d∈ds)(h3:i=0->r=.aV/\∀d∈ks,d=.ow .nu):fj xs i ⟨nm,xs.zip ks,r,(xs.drop (xs.zip ks).length).zip ds⟩:=by
 have hz:(xs.zip ks).length=ks.length:=by rw[mE];lia
 have hs:((xs.drop ks.length).zip ds).map (·.2)=ds:=zo _ _ (by rw[qS];lia)
 have mem:∀d∈ds,∃q∈(xs.drop ks.length).zip ds,q.2=d:=λd h=>by rw[<-hs]at h;exact dJ.mp h
 rw[hz];refine⟨hn,by rw[hz];exact hk,?_,⟨ks.length+ds.length,?_⟩,mem _ h1,hr,λd h=>mem d (h2 d h),λh=>⟨(h3 h).1,λq hq=>(h3 h).2 q.2 (qX hq).2⟩⟩
 ·rw[mE];lia
 ·rw[bO,l6,l6,List.take_add]
theorem Nc(k:Nat){b s:Sx}{xs:List Str}(hx:xs.length=16)(hd:xs.Nodup)(i:Nat)(hi:i<=5)(C:Int):∃H:Hd,fj xs i H/\run aT (k+2) "_law_head" [.lst ((Iu b s).map cP),.lst (xs.map .str),.int (i:Int),.int C] []=some (.ok (fg H),[]):=by
 obtain⟨m,hm,Zn⟩:∃m:Nat,C*48271%2147483647%5=(m:Int)/\m<=4:=⟨(C*48271%2147483647%5).toNat,by lia,by lia⟩
 obtain⟨l,hl,Zo⟩:∃m:Nat,C*48271%2147483647/16%7=(m:Int)/\m<=6:=⟨(C*48271%2147483647/16%7).toNat,by lia,by lia⟩
 obtain⟨es,he,hE⟩:=vo k (M:=Iu b s) rfl (C*39373%2147483579) l (by lia)
 obtain⟨nm,hn⟩:∃nm,xs[15-i]?=some nm:=⟨_,bF (by lia)⟩
 have e1:∀h,gD h (.lst (xs.map .str)) (.int (15-(i:Int)))=some (.str nm):=λh=>by
  rw[show(15:Int)-(i:Int)=((15-i:Nat):Int) by lia]
  exact atI_nat (by rw[bu,hn];rfl)
 have e2:=λh=>JG (a:=es) (d:=.ow .nu) (h:=h) (by lia)
 have fz:=λl=>eZ (Q5 l)
 simp only[show cP (.ow .nu)=pN from rfl]at e2
 rw[A0];rcases Nat.eq_zero_or_pos i with rfl | hp
 ·refine⟨⟨nm,xs.zip (List.replicate m (.ow .nu)),.aV,(xs.drop (xs.zip (List.replicate m (Kn.ow .nu))).length).zip (es++[.ow .nu])⟩,s9 hx hn (by simp;lia) (by simp;lia) trivial (by simp) (λd h=>by cases h) (λ_=>⟨rfl,λd h=>(List.mem_replicate.mp h).2⟩),?_⟩
  have e3:=λh=>Q6 (h:=h) (m:=m) (by lia)
  have e4:=lz (xs:=xs) (ks:=List.replicate m (.ow .nu)) (by simp;lia)
  have e5:=λxs=>lz (xs:=xs) (ks:=es++[.ow .nu]) (by simp;lia)
  have YR:∀h,gD h (.lst (xs.map .str)) (.int (15-((0:Nat):Int)))=some (.str nm):=e1
  simp only[↓bJ,bM,hm,hl,hE,fz,YR,e2,e3,e4,e5,Nb,ah,fg,fW]
 ·have h0:(0:Int)<(i:Int):=by lia
  obtain⟨ks,hk,hK⟩:=vo k (M:=Iu b s) rfl (C*69621%2147483629) m (by lia)
  have nd:((xs.zip ks).map (·.1)).Nodup:=by rw[l6];exact hd.sublist (mx _ _)
  obtain⟨r,h',hr,hR⟩:=EM k (b:=b) (s:=s) (ps:=xs.zip ks) (by rw[mE];lia) nd (C*16807%2147483587)
  have fr:kP h' (fW r)=some (fW r):=sL (qy r);have e3:=λh=>Q6 (h:=h) (m:=m) (by lia)
  have e4:=lz (xs:=xs) (ks:=ks) (by lia)
  cases hb:Iv r with
  | none =>
   have YS:r=.aV:=by cases r<;>first | rfl | cases hb
   subst YS;refine⟨⟨nm,xs.zip ks,.aV,(xs.drop (xs.zip ks).length).zip (es++[.ow .nu])⟩,s9 hx hn (by lia) (by simp;lia) trivial (by simp) (λd h=>by cases h) (λz=>by lia),?_⟩
   have e5:=λxs=>lz (xs:=xs) (ks:=es++[.ow .nu]) (by simp;lia)
   simp only[↓bJ,bM,hm,hl,hE,hK,hR,fz,fr,e1,e2,e3,e4,e5,Nb,ah,aW h0,fg]
  | some d =>
   refine⟨⟨nm,xs.zip ks,r,(xs.drop (xs.zip ks).length).zip (es++[.ow .nu]++[d])⟩,s9 hx hn (by lia) (by simp;lia) hr (by simp) (λd' h=>by rw[hb]at h;cases h;simp) (λz=>by lia),?_⟩
   have e5:=λxs=>lz (xs:=xs) (ks:=es++[.ow .nu]++[d]) (by simp;lia)
   have e6:=λh=>JG (a:=es++[.ow .nu]) (d:=d) (h:=h) (by simp;lia)
   have e7:k7 (fW r)=false:=by
    cases r with
    | aV=>cases hb
    | own s'=>cases s'<;>rfl
    | nA _ _ _=>rfl
   have e8:=xY k r hb;simp only[↓bJ,bM,hm,hl,hE,hK,hR,fz,fr,e1,e2,e3,e4,e5,e6,e7,e8,Nb,ah,aW h0,fg,Bool.not_false]
theorem EN{α:Type} [Inhabited α] {P:Nat->Prop} {Q:Nat->α->Prop} (h:∀i,P i->∃a,Q i a):∃f:Nat->α,∀i,P i->Q i (f i):=by
 classical
 refine⟨λi=>if hi:P i then(h i hi).choose else default,λi hi=>?_⟩
 have e:(if hi:P i then(h i hi).choose else default)=(h i hi).choose:=dif_pos hi
 show Q i (if hi:P i then(h i hi).choose else default)
 rw[e];exact(h i hi).choose_spec
instance:Inhabited Hd:=⟨⟨"",[],.aV,[]⟩⟩
def cell(ns:List Int)(i:Nat):Int:=ns.getD i 0
theorem ot(k:Nat)(ns:List Int)(i:Nat):run aT (k+1) "_law_cell_at" [xD ns,.int (i:Int)] []=some (.ok (.int (cell ns i)),[]):=by
 rw[sQ];have ln:jF [] [xD ns]=some (.int (ns.length:Int)):=by
  show some (PV.int (((ns.map PV.int).length:Nat):Int))=_;rw[ah]
 unfold cell;rw[BJ];by_cases hi:i<ns.length
 ·have e:gD [] (xD ns) (.int (i:Int))=some (.int ns[i]):=atI_nat (by rw[bu,bF hi];rfl)
  simp only[↓bJ,ln,e,aW (show(i:Int)<(ns.length:Int) by lia),bF hi,Option.getD_some]
 ·simp only[↓bJ,ln,bf (show ¬(i:Int)<(ns.length:Int) by lia),mh (v5 hi),wb]
theorem IB(k:Nat)(ns:List Int):∃(xs:List Str) (Hs:List Hd),xs.length=16/\xs.Nodup/\(∀x∈xs,om x)/\1<=Hs.length/\Hs.length<=6/\(∀i H,Hs[i]?=some H->fj xs i H)/\run aT (k+3) "_law_heads" [xD ns] []=some (.ok (.lst (Hs.map fg)),[]):=by
 obtain⟨N,n1,n2,n3⟩:=Ir (k+1) (cell ns 0);obtain⟨xs,Sd⟩:∃xs,xs=Sb N:=⟨_,rfl⟩
 rw[<-Sd]at n3;have xl:xs.length=16:=by rw[Sd];simp[Sb]
 have xd:xs.Nodup:=by
  rw[Sd];unfold Sb List.Nodup;rw[List.pairwise_map];refine List.Pairwise.imp_of_mem (λ{a b} ha hb hne e=>hne (n1 a b (dI.mp ha) (dI.mp hb) e)) List.nodup_range
 obtain⟨b,s,hM⟩:=Na (k+1) (cell ns 1*48271%2147483647);obtain⟨m,hm,YT,TL⟩:∃m:Nat,1+cell ns 2%6=(m:Int)/\1<=m/\m<=6:=⟨(1+cell ns 2%6).toNat,by lia,by lia,by lia⟩
 obtain⟨f,hf⟩:=EN (P:=λi=>i<=5) λi hi=>Nc k (b:=b) (s:=s) xl xd i hi (cell ns (3+i))
 refine⟨xs,(List.range m).map f,xl,xd,λx hx=>by rw[Sd]at hx;obtain⟨i,_,rfl⟩:=dJ.mp hx;exact n2 i,by simpa using YT,by simpa using TL,λi H h=>?_,?_⟩
 ·rw[bu]at h;obtain⟨j,h1,rfl⟩:=fD.mp h;obtain⟨h2,h3⟩:=cw.mp h1;rw[List.getElem_range]at h3;subst h3;rw[fE]at h2;exact(hf i (by lia)).1
 have c0:=ot (k+1) ns 0;have c1:=ot (k+1) ns 1;have c2:=ot (k+1) ns 2;have c3:∀i∈List.range m,run aT (k+1+1) "_law_cell_at" [xD ns,.int (3+(i:Int))] []=some (.ok (.int (cell ns (3+i))),[]):=λi hi=>by
  have:=ot (k+1) ns (3+i)
  rwa [show((3+i:Nat):Int)=3+(i:Int) by lia]at this
 have c4:∀i∈List.range m,run aT (k+2) "_law_head" [.lst ((Iu b s).map cP),.lst (xs.map .str),.int (i:Int),.int (cell ns (3+i))] []=some (.ok (fg (f i)),[]):=λi hi=>(hf i (by have:=dI.mp hi;lia)).2
 have e1:∀h,iD h (.int (cell ns 1)) (.int 48271)=some (.int (cell ns 1*48271)):=λh=>Fq (.inr (by decide))
 have e2:=Bn (n:=m) (by lia)
 have e3:((List.range m).map λm:Nat=>PV.int (m:Int)).length<=4000000:=by rw[ah,fE];lia
 have fz:=eZ (sY xs);have c0:run aT (k+2) "_law_cell_at" [xD ns,.int 0] []=some (.ok (.int (cell ns 0)),[]):=c0;have c1:run aT (k+2) "_law_cell_at" [xD ns,.int 1] []=some (.ok (.int (cell ns 1)),[]):=c1;have c2:run aT (k+2) "_law_cell_at" [xD ns,.int 2] []=some (.ok (.int (cell ns 2)),[]):=c2;rw[xM];simp only[↓bJ,c0,c1,c2,c3,c4,n3,fz,hM,e1,e2,e3,hm,dv,f9]
def Se(e:Te):PV:=.ak [Fm e.1,.int (e.2.1:Int),fB e.2.2]
theorem IC(k:Nat)(s:Sx):run aT (k+9) "_law_table" [fB s] []=some (.ok (.lst ((jn s).map Se)),[]):=by cases s<;>kernel_rfl
theorem Nd(k:Nat)(d:Kn):run aT (k+1) "_law_held" [cP d] []=some (.ok (fB (A5 d)),[]):=by
 cases d with
 | ow s=>cases s<;>kernel_rfl
 | ho w s=>cases w<;>kernel_rfl
abbrev Zt:=Ky×Te
def lu(z:Zt):Sp:=⟨z.1.1,kT z.1.2,z.2.1,.aV⟩
def kW(z:Zt):PV:=.ak [eY (lu z),fB z.2.2.2,.str (w0 z.1.2)]
def il(K:List Ky):List Zt:=K.flatMap λq=>(jn (A5 q.2)).map λe=>(q,e)
theorem vp(c:CT){x0:Option PV}{q:Ky}:∀(E:List Te) (L:List PV) (x5 x6 x7:Option PV),L.length+E.length<=4000->∃Iy qB xX:Option PV,ef (kE 3 (dk (cC 5) (dk (cC 6) (dk (cC 7) m8)))) (jf c) (E.map Se) ⟨[x0,some (.ref 0),some (.str q.1),some (cP q.2),some (.bl (kT q.2)),x5,x6,x7],[⟨.lst,L⟩]⟩=some (.ok .nx,⟨[x0,some (.ref 0),some (.str q.1),some (cP q.2),some (.bl (kT q.2)),Iy,qB,xX],[⟨.lst,L++E.map λe=>kW (q,e)⟩]⟩)
 | [],L,x5,x6,x7,_=>⟨x5,x6,x7,by simp;rfl⟩
 | e::E,L,x5,x6,x7,hl=>by
  simp only[bX]at hl;obtain⟨y5,y6,y7,h⟩:=vp c (x0:=x0) (q:=q) E (L++[kW (q,e)]) (some (Fm e.1)) (some (.int e.2.1)) (some (fB e.2.2)) (by simp;lia)
  refine⟨y5,y6,y7,?_⟩;have e2:=λρ v=>@sZ ρ L v (by lia)
  have h:ef _ (jf c) (E.map Se) ⟨_,[⟨.lst,L++[.ak [.ak [.str q.1,.bl (kT q.2),Fm e.1,.aV],fB e.2.2,.str (w0 q.2)]]⟩]⟩=_:=h;rw[aA,aA,show L++kW (q,e)::E.map (λe=>kW (q,e))=L++[kW (q,e)]++E.map λe=>kW (q,e) by simp]
  refine dz ?_;simp only[↓lO,Bs,e2,h]
theorem qC(c:CT) (hc:∀d,c "_law_held" [cP d] []=some (.ok (fB (A5 d)),[])) (ht:∀s,c "_law_table" [fB s] []=some (.ok (.lst ((jn s).map Se)),[])) {x0:Option PV}:∀(K:List Ky) (L:List PV) (x2 x3 x4 x5 x6 x7:Option PV),L.length+13*K.length<=4000->∃YU Vr Br Iy qB xX:Option PV,ef (kE 2 (dk (cC 2) (dk (cC 3) m8))) (n8 c) (K.map cF) ⟨[x0,some (.ref 0),x2,x3,x4,x5,x6,x7],[⟨.lst,L⟩]⟩=some (.ok .nx,⟨[x0,some (.ref 0),YU,Vr,Br,Iy,qB,xX],[⟨.lst,L++(il K).map kW⟩]⟩)
 | [],L,x2,x3,x4,x5,x6,x7,_=>⟨x2,x3,x4,x5,x6,x7,by simp[il];rfl⟩
 | q::K,L,x2,x3,x4,x5,x6,x7,hl=>by
  simp only[bX]at hl;have tl:(jn (A5 q.2)).length<=13:=by cases A5 q.2<;>exact Nat.le_of_ble_eq_true rfl
  obtain⟨a5,a6,a7,h1⟩:=vp c (x0:=x0) (q:=q) (jn (A5 q.2)) L x5 x6 x7 (by lia)
  obtain⟨y2,y3,y4,y5,y6,y7,h⟩:=qC c hc ht (x0:=x0) K (L++(jn (A5 q.2)).map λe=>kW (q,e)) (some (.str q.1)) (some (cP q.2)) (some (.bl (kT q.2))) a5 a6 a7 (by simp;lia)
  refine⟨y2,y3,y4,y5,y6,y7,?_⟩
  delta jf lK at h1
  rw[aA,show L++(il (q::K)).map kW=L++((jn (A5 q.2)).map λe=>kW (q,e))++(il K).map kW by simp[il,f9]]
  refine dz ?_;simp only[↓lO,Bs,zm,hc,ht,h1,h,aM,Im,Bk]
theorem zt(k:Nat)(K:List Ky)(hK:K.length<=20):run aT (k+10) "_law_spots" [.lst (K.map cF)] []=some (.ok (.ref 0),[⟨.lst,(il K).map kW⟩]):=by
 obtain⟨y2,y3,y4,y5,y6,y7,h⟩:=qC (run aT (k+9)) (λd=>Nd _ d) (λs=>IC _ s) (x0:=some (.lst (K.map cF))) K [] none none none none none none (by simp;lia)
 delta n8 lK at h
 rw[eJ]at h;rw[xK];simp only[↓bJ,h]
structure tu (S:Sc):Prop where
 nd:(S.K.map (·.1)).Nodup
 nu:∃q∈S.K,q.2=.ow .nu
 l:S.K.length<=12
theorem fV:∀{l:List Ky} {q:Ky},(l.map (·.1)).Nodup->q∈l->cO l q.1=some q.2
 | r::l,q,hd,h=>by
  rw[aA,eL]at hd;unfold cO;rcases aY.mp h with rfl | h
  ·rw[if_pos rfl]
  ·rw[if_neg (λz:r.1=q.1=>hd.1 (by rw[z];exact mn h))]
   exact fV hd.2 h
theorem l7{K:List Ky}{z:Zt}:z∈il K↔z.1∈K/\z.2∈jn (A5 z.1.2):=by
 unfold il;simp only[wa,dJ];constructor
 ·rintro⟨q,h1,e,h2,rfl⟩
  exact⟨h1,h2⟩
 ·rintro⟨h1,h2⟩
  exact⟨z.1,h1,z.2,h2,rfl⟩
theorem x9{S:Sc}(hS:tu S){z:Zt}(h:z∈il S.K):dX S (lu z) z.1.2 z.2.2.2:=⟨fV hS.nd (l7.mp h).1,rfl,⟨z.2.2.1,(l7.mp h).2⟩,trivial⟩
abbrev Nz:=Sp×Kn
def td(z:Nz):PV:=.ak [eY z.1,.str (w0 z.2)]
def Bt(S:Sc)(z:Nz):Prop:=∃i,dX S z.1 z.2 i/\j3 z.1 i=true
def own(K:List Ky):List Ky:=K.filter λq=>decide (q.2=.ow .nu)
theorem Vu{h:List aj}{d:Kn}:yF h (cP d) pN=some (.bl (decide (d=.ow .nu))):=oZ (b:=.ow .nu)
theorem toT_strL{h:List aj}{n:Nat}(l:List Ky):aQ (toT h (n+1)) (l.map λq=>.str q.1)=some (l.map λq=>.str q.1):=by
 have:=toT_strs (h:=h) (n:=n) (l.map (·.1));rw[dv,dv]at this;exact this
theorem ya{h:List aj}{ps:List PV}{ts:List Tr}(e:aQ (toT h 999) ps=some ts):Je h (.lst ps) (.lst [])=some (.bl (!ps.isEmpty)):=by
 show((((aQ (toT h 999) ps).bind (oB .lst)).bind λx=>((aQ (toT h 999) []).bind (oB .lst)).map λy=>eqT x y).map λb=>PV.bl !b)=_
 rw[e];show some (PV.bl !(jJ ts []))=_;have:ts.length=ps.length:=nU e;cases ps with
 | nil=>rw[gI this];rfl
 | cons p ps=>cases ts with | nil=>cases this | cons t ts=>rfl
theorem tf(c:CT){S:Sc}(hS:tu S){x0:Option PV}{C:Int}{z:Zt}(hz:z∈il S.K)(L:List Nz)(hl:L.length<=3000)(x7:Option PV):∃(A:List Nz) (xX:Option PV),A.length<=1/\(∀e∈A,Bt S e)/\(z.2.2.2=.nu->jt z.1.2=true->∃e∈A,jt e.2=true)/\eE c ⟨[x0,some (.int C),some (.lst ((own S.K).map λq=>.str q.1)),some (.ref 0),some (eY (lu z)),some (fB z.2.2.2),some (.str (w0 z.1.2)),x7],[⟨.lst,L.map td⟩]⟩=some (.ok .nx,⟨[x0,some (.int C),some (.lst ((own S.K).map λq=>.str q.1)),some (.ref 0),some (eY (lu z)),some (fB z.2.2.2),some (.str (w0 z.1.2)),xX],[⟨.lst,(L++A).map td⟩]⟩):=by
 have NM:=x9 hS hz;have e2:=λρ v=>@sZ ρ (L.map td) v (by rw[ah];lia)
 generalize hi:z.2.2.2=i at NM
 have one:(i=.nu\/i=.ow)->∃(A:List Nz) (xX:Option PV),A.length<=1/\(∀e∈A,Bt S e)/\(i=.nu->jt z.1.2=true->∃e∈A,jt e.2=true)/\eE c ⟨[x0,some (.int C),some (.lst ((own S.K).map λq=>.str q.1)),some (.ref 0),some (eY (lu z)),some (fB i),some (.str (w0 z.1.2)),x7],[⟨.lst,L.map td⟩]⟩=some (.ok .nx,⟨[x0,some (.int C),some (.lst ((own S.K).map λq=>.str q.1)),some (.ref 0),some (eY (lu z)),some (fB i),some (.str (w0 z.1.2)),xX],[⟨.lst,(L++A).map td⟩]⟩):=λh=>by
  refine⟨[(lu z,z.1.2)],x7,aq _,λe he=>?_,λ_ h2=>⟨_,b6.mpr rfl,h2⟩,?_⟩
  ·rw[b6.mp he];exact⟨i,NM,by rcases h with rfl | rfl<;>rfl⟩
  ·refine dz ?_;rcases h with rfl | rfl<;>simp only[↓lO,e2,bO,aA,bH,td]
 cases i
 case nu=>exact one (.inl rfl)
 case ow=>exact one (.inr rfl)
 case st n =>
  have hn:(0:Int)<1+(n.val:Int):=by lia
  have m1:=λh=>iF (h:=h) (i:=C/2) hn
  by_cases hc:C%2=1
  ·obtain⟨q,hq,hp⟩:=pick (λq:Ky=>.str q.1) (own S.K) (C/2) (by
    obtain⟨q,h1,h2⟩:=hS.nu;exact fY (cH.mpr ⟨h1,by simp[h2]⟩))
   have IX:=cH.mp hq;have o0:0<(own S.K).length:=fY hq;have n1:∀h,Je h (.lst ((own S.K).map λq=>.str q.1)) (.lst [])=some (.bl true):=λh=>by
    rw[ya (toT_strL (h:=h) (n:=998) (own S.K))];cases ho:own S.K with | nil=>rw[ho]at o0;cases o0 | cons a l=>rfl
   have l1:∀h,jF h [.lst ((own S.K).map λq=>.str q.1)]=some (.int ((own S.K).length:Nat)):=λh=>by show some (PV.int ((((own S.K).map λq=>PV.str q.1).length:Nat):Int))=_;rw[ah]
   have m2:=λh=>iF (h:=h) (i:=C/2) (show(0:Int)<((own S.K).length:Nat) by lia)
   refine⟨[(⟨z.1.1,kT z.1.2,z.2.1,.QX q.1⟩,z.1.2)],some (.str q.1),aq _,λe he=>?_,(λh=>by cases h),?_⟩
   ·rw[b6.mp he];exact⟨.st n,⟨NM.k,rfl,NM.p,⟨n,rfl,by rw[fV hS.nd IX.1,d6 IX.2]⟩⟩,rfl⟩
   ·refine dz ?_;simp only[↓lO,e2,m1,m2,cW,hc,n1,l1,hp,bO,aA,bH,td];rfl
  ·refine⟨[(⟨z.1.1,kT z.1.2,z.2.1,.num (C/2%(1+(n.val:Int)))⟩,z.1.2)],some (.int (C/2%(1+(n.val:Int)))),aq _,λe he=>?_,(λh=>by cases h),?_⟩
   ·rw[b6.mp he];exact⟨.st n,⟨NM.k,rfl,NM.p,⟨n,rfl,eG _ (by lia),f7 _ hn⟩⟩,rfl⟩
   ·refine dz ?_;simp only[↓lO,e2,m1,cW,show(C%2==1)=false by simpa using hc,bO,aA,bH,td]
    rfl
 all_goals
  refine⟨[],x7,eN _,(λe he=>by cases he),(λh=>by cases h),dz ?_⟩
  simp only[↓lO,eI]
theorem j5(c:CT){S:Sc}(hS:tu S){x0:Option PV}{C:Int}:∀(Z:List Zt) (L:List Nz) (x4 x5 x6 x7:Option PV),(∀z∈Z,z∈il S.K)->(∀e∈L,Bt S e)->L.length+Z.length<=3000->∃(L':List Nz) (Br Iy qB xX:Option PV),L'.length<=L.length+Z.length/\(∀e∈L',Bt S e)/\(∀e∈L,e∈L')/\((∃z∈Z,z.2.2.2=.nu/\jt z.1.2=true)->∃e∈L',jt e.2=true)/\ef (kE 3 (dk (cC 4) Q3)) (eE c) (Z.map kW) ⟨[x0,some (.int C),some (.lst ((own S.K).map λq=>.str q.1)),some (.ref 0),x4,x5,x6,x7],[⟨.lst,L.map td⟩]⟩=some (.ok .nx,⟨[x0,some (.int C),some (.lst ((own S.K).map λq=>.str q.1)),some (.ref 0),Br,Iy,qB,xX],[⟨.lst,L'.map td⟩]⟩)
 | [],L,x4,x5,x6,x7,_,hL,_=>⟨L,x4,x5,x6,x7,aq _,hL,λ_ h=>h,(λ⟨z,h,_⟩=>nomatch h),rfl⟩
 | z::Z,L,x4,x5,x6,x7,hZ,hL,hl=>by
  simp only[bX]at hl;obtain⟨A,y7,a1,a2,a3,a4⟩:=tf c hS (x0:=x0) (C:=C) (hZ z cb) L (by lia) x7
  obtain⟨L',z4,z5,z6,z7,b1,b2,b3,b4,b5⟩:=j5 c hS (x0:=x0) (C:=C) Z (L++A) (some (eY (lu z))) (some (fB z.2.2.2)) (some (.str (w0 z.1.2))) y7 (λy h=>hZ y (bW _ h)) (λe h=>by rcases dH.mp h with h | h;exact hL e h;exact a2 e h) (by simp;lia)
  refine⟨L',z4,z5,z6,z7,by simp at b1 ⊢;lia,b2,λe h=>b3 e (dH.mpr (.inl h)),?_,?_⟩
  ·rintro⟨y,hy,h1,h2⟩
   rcases aY.mp hy with rfl | hy
   ·obtain⟨e,he,h3⟩:=a3 h1 h2;exact⟨e,b3 e (dH.mpr (.inr he)),h3⟩
   ·exact b4 ⟨y,hy,h1,h2⟩
  ·exact fC (s1:=⟨[x0,some (.int C),some (.lst ((own S.K).map λq=>.str q.1)),some (.ref 0),some (eY (lu z)),some (fB z.2.2.2),some (.str (w0 z.1.2)),x7],[⟨.lst,L.map td⟩]⟩) rfl a4 b5
theorem l8:∀K:List Ky,(il K).length<=13*K.length
 | []=>by simp[il]
 | q::K=>by
  have tl:(jn (A5 q.2)).length<=13:=by cases A5 q.2<;>exact Nat.le_of_ble_eq_true rfl
  have:=l8 K;unfold il at this ⊢;simp only[List.flatMap_cons,cG,ah,bX]
  lia
theorem JH(z:Zt):noRef (kW z)=true:=by simp[kW,noRef,aM,zl,Bk]
theorem Q7(z:Nz):noRef (td z)=true:=by simp[td,noRef,aM,zl]
theorem Bu(k:Nat){S:Sc}(hS:tu S)(C:Int):∃L:List Nz,(∀e∈L,Bt S e)/\(∃e∈L,jt e.2=true)/\L.length<=200/\run aT (k+11) "_law_numbers" [.lst (S.K.map cF),.int C] []=some (.ok (.ref 0),[⟨.lst,L.map td⟩]):=by
 have WQ:=l8 S.K;have hl:=hS.l;obtain⟨L,y4,y5,y6,y7,b1,b2,b3,b4,b5⟩:=j5 (run aT (k+10)) hS (x0:=some (.lst (S.K.map cF))) (C:=C) (il S.K) [] none none none none (λz h=>h) (λe h=>by cases h) (by simp;lia)
 refine⟨L,b2,b4 ?_,by simp at b1;lia,?_⟩
 ·obtain⟨q,h1,h2⟩:=hS.nu;refine⟨(q,([],0,.nu)),l7.mpr ⟨h1,?_⟩,rfl,?_⟩
  ·rw[h2];exact b6.mpr rfl
  ·show jt q.2=true;rw[h2];rfl
 have e1:=zt k S.K (by lia)
 have e2:(S.K.map cF).length<=4000000:=by rw[ah];lia
 have fz:=eZ (dB JH (il S.K));have nr:aM (S.K.map cF)=true:=dB EI _
 delta eE lK at b5
 simp only[own]at b5;rw[sR];simp only[bH]at b5;simp only[↓bJ,e1,e2,Vu,fz,b5,aM,noRef,nr]
def Nf(p:PV):Prop:=∀h,∃t,toT h 999 p=some t
theorem Vv{α:Type}{f:α->PV}(hf:∀x,Nf (f x))(h:List aj):∀l:List α,∃ts,aQ (toT h 999) (l.map f)=some ts
 | []=>⟨[],rfl⟩
 | x::l=>by
  obtain⟨t,e⟩:=hf x h;obtain⟨ts,e2⟩:=Vv hf h l;refine⟨t::ts,?_⟩;show(toT h 999 (f x)).bind (λy=>(aQ (toT h 999) (l.map f)).map λys=>y::ys)=_
  rw[e,e2];rfl
theorem toT_ints{h:List aj}{n:Nat}:∀l:List Nat,aQ (toT h (n+1)) (l.map fun(i:Nat)=>.int (i:Int))=some (l.map fun(i:Nat)=>.int (i:Int))
 | []=>rfl
 | i::l=>by
  show(some (Tr.int i)).bind (λy=>(aQ (toT h (n+1)) (l.map fun(i:Nat)=>.int (i:Int))).map λys=>y::ys)=_
  rw[toT_ints l];rfl
theorem toT_pa{h:List aj}{n:Nat}(p:List Nat):toT h (n+2) (Fm p)=some (.ak (p.map fun(i:Nat)=>.int (i:Int))):=by
 show((aQ (toT h (n+1)) (p.map fun(i:Nat)=>.int (i:Int))).bind (oB .ak))=_
 rw[toT_ints];rfl
theorem toT_sp{h:List aj}{n:Nat}(s:Sp):∃t,toT h (n+3) (eY s)=some t:=by
 have:∃t,toT h (n+2) (NK s.a)=some t:=by cases s.a<;>exact⟨_,rfl⟩
 obtain⟨t,ht⟩:=this;refine⟨.ak [.str s.x,.bl s.t,.ak (s.p.map fun(i:Nat)=>.int (i:Int)),t],?_⟩
 show((aQ (toT h (n+2)) [.str s.x,.bl s.t,Fm s.p,NK s.a]).bind (oB .ak))=_;simp only[aQ,toT_pa,ht];rfl
theorem Q8(z:Nz):Nf (td z):=λh=>by
 obtain⟨t,ht⟩:=toT_sp (h:=h) (n:=995) z.1;refine⟨.ak [t,.str (w0 z.2)],?_⟩;show((aQ (toT h 998) [eY z.1,.str (w0 z.2)]).bind (oB .ak))=_;simp only[aQ,ht];rfl
theorem EO{h:List aj}{ps:List PV}{ts:List Tr}(e:aQ (toT h 999) ps=some ts):yF h (.lst ps) (.lst [])=some (.bl ps.isEmpty):=by
 have:=ya e;show(O3 h (.lst ps) (.lst [])).map PV.bl=_;have h2:(O3 h (.lst ps) (.lst [])).map (λb=>PV.bl !b)=some (PV.bl !ps.isEmpty):=this
 obtain⟨b,hb,h3⟩:=fD.mp h2;rw[hb];simp at h3;rw[<-h3];rfl
theorem bD{α:Type}{f:α->PV}{L:List α}{h:List aj}:jF h [.lst (L.map f)]=some (.int (L.length:Nat)):=by
 show some (PV.int (((L.map f).length:Nat):Int))=_;rw[ah]
theorem qD(k:Nat){S:Sc}{L:List Nz}(hL:∀e∈L,Bt S e)(m C:Int):∃o:Op,lN S o/\run aT (k+1) "_law_operand" [.lst (L.map td),.int m,.int C] []=some (.ok (o6 o),[]):=by
 obtain⟨ts,Vg⟩:=Vv Q8 [] L;have e1:=EO Vg;have e2:iD [] (.int C) (.int 982451653)=some (.int (C*982451653)):=Fq (.inr (by decide))
 have e3:CZ [] (.int 10) (.int 30)=some (.int (10^30)):=by kernel_rfl
 have num:∃o:Op,lN S o/\PV.int (C*982451653%10^30)=o6 o:=⟨.n (C*982451653%10^30),⟨eG _ (by decide),f7 _ (by decide)⟩,rfl⟩
 have e4:Ae [] (.int (C*982451653)) (.int (10^30))=some (.int (C*982451653%10^30)):=iF (by decide)
 rw[sS];cases h1:m%4==0
 ·cases h2:L.isEmpty
  ·obtain⟨e,he,hp⟩:=pick td L (m/4) (by cases L with | nil=>cases h2 | cons=>simp)
   have l0:(0:Int)<(L.length:Nat):=by have:=fY he;lia
   have m1:=iF (h:=[]) (i:=m/4) l0;obtain⟨i,hi,hn⟩:=hL e he;refine⟨.s e.1,⟨e.2,i,hi,hn⟩,?_⟩;simp only[↓bJ,cW,h1,e1,mB,h2,bD,m1,hp];rfl
  ·obtain⟨o,ho,eo⟩:=num;refine⟨o,ho,?_⟩;simp only[↓bJ,cW,h1,e1,mB,h2,e2,e3,e4,eo]
 ·obtain⟨o,ho,eo⟩:=num;refine⟨o,ho,?_⟩;simp only[↓bJ,cW,h1,e1,e2,e3,e4,eo]
end cE
set_option maxHeartbeats 0
namespace cE
open PySem L2 L2.U
theorem cq{h:List aj}{d:Kn}:Je h (.str (w0 d)) (.str "lent")=some (.bl (jt d)):=by
 cases d with
 | ow s=>cases s<;>kernel_rfl
 | ho w s=>cases w<;>kernel_rfl
theorem Ng(L:List Nz):aM (L.map td)=true:=dB Q7 L
theorem ER(L:List Ky):aM (L.map cF)=true:=dB EI L
theorem vq(k:Nat){S:Sc}(hS:tu S)(C:Int)(hn:0<S.size):∃r:Rw,b7 S r/\run aT (k+12) "_law_plain_row" [.lst (S.K.map cF),.int C,.int (S.size:Nat)] []=some (.ok (c6 r),[]):=by
 obtain⟨L,l1,⟨e0,l2,l3⟩,l4,l5⟩:=Bu k hS (C*39373%2147483579);obtain⟨o1,JI,Nh⟩:=qD (k+10) l1 (C*69621%2147483629) C;obtain⟨o2,Sf,Ni⟩:=qD (k+10) l1 (C*16807%2147483587) (C+1);obtain⟨e,he,hp⟩:=pick (λz:Nz=>eY z.1) (L.filter λz=>jt z.2) (C*48271%2147483647) (fY (cH.mpr ⟨l2,l3⟩))
 have l0:(0:Int)<((L.filter λz=>jt z.2).length:Nat):=by have:=fY he;lia
 have m1:=λh=>iF (h:=h) (i:=C*48271%2147483647) l0
 have WR:=cH.mp he;obtain⟨i,hi,L5⟩:=l1 e WR.1;have tg:∃d i,dX S e.1 d i/\j3 e.1 i=true/\jt d=true:=⟨e.2,i,hi,L5,WR.2⟩
 have e2:(L.map td).length<=4000000:=by rw[ah];lia
 have fz:=eZ (Ng L);have jm:=eG (C*48271%2147483647/8) (show(S.size:Int)≠0 by lia)
 have jl:=f7 (C*48271%2147483647/8) (show(0:Int)<(S.size:Int) by lia)
 have m2:=λh=>iF (h:=h) (i:=C*48271%2147483647/8) (show(0:Int)<(S.size:Int) by lia)
 rw[og];by_cases h1:C%16<10
 ·refine⟨.put e.1 o1,⟨tg,JI⟩,?_⟩;simp only[↓bJ,bM,l5,fz,e2,cq,Nh,Ni,aW h1,bD,m1,hp];rfl
 by_cases h2:C%16=10
 ·have h3:C*39373%2147483579%3=0\/C*39373%2147483579%3=1\/C*39373%2147483579%3=2:=by lia
  rcases h3 with h3 | h3 | h3
  ·refine⟨.set e.1 "+" o1 o2,⟨tg,.inl rfl,JI,Sf⟩,?_⟩;simp only[↓bJ,bM,l5,fz,e2,cq,Nh,Ni,bf h1,cW,h2,bD,m1,hp,h3];rfl
  ·refine⟨.set e.1 "-" o1 o2,⟨tg,.inr (.inl rfl),JI,Sf⟩,?_⟩;simp only[↓bJ,bM,l5,fz,e2,cq,Nh,Ni,bf h1,cW,h2,bD,m1,hp,h3];rfl
  ·refine⟨.set e.1 "*" o1 o2,⟨tg,.inr (.inr rfl),JI,Sf⟩,?_⟩;simp only[↓bJ,bM,l5,fz,e2,cq,Nh,Ni,bf h1,cW,h2,bD,m1,hp,h3];rfl
 by_cases h4:C%16=11
 ·refine⟨.Fo o1 o2 (C*48271%2147483647/8%(S.size:Int)),⟨JI,Sf,jm,jl⟩,?_⟩;simp only[↓bJ,bM,l5,fz,e2,cq,Nh,Ni,bf h1,cW,h4,bD,m2];rfl
 by_cases h5:C%16=12
 ·refine⟨.go (C*48271%2147483647/8%(S.size:Int)),⟨jm,jl⟩,?_⟩;simp only[↓bJ,bM,l5,fz,e2,cq,Nh,Ni,bf h1,cW,h5,bD,m2];rfl
 ·refine⟨.Fp o1,JI,?_⟩;simp only[↓bJ,bM,l5,fz,e2,cq,Nh,Ni,bf h1,cW,show(C%16==10)=false by simpa using h2,show(C%16==11)=false by simpa using h4,show(C%16==12)=false by simpa using h5]
  rfl
end cE
set_option maxHeartbeats 0
namespace cE
open PySem L2 L2.U
theorem zu{h:List aj}{d:Kn}{w:Bool}{i:Sx}:yF h (cP d) (.ak [.str (tq w),fB i])=some (.bl (decide (d=.ho w i))):=oZ (b:=.ho w i)
theorem ou(c:CT){S:Sc}(hS:tu S){x0 x1:Option PV}(w:Bool){q:Ky}(hq:q∈S.K):∀(Z:List Zt) (R:List Rw) (x6 x7 x8:Option PV),(∀z∈Z,z∈il S.K)->(∀r∈R,b7 S r)->R.length+Z.length<=3000->∃(R':List Rw) (qB xX Bp:Option PV),R'.length<=R.length+Z.length/\(∀r∈R',b7 S r)/\ef (kE 3 (dk (cC 6) (dk (cC 7) (dk (cC 8) m8)))) (gu c) (Z.map kW) ⟨[x0,x1,some (.str (tq w)),some (.ref 0),some (.str q.1),some (cP q.2),x6,x7,x8],[⟨.lst,R.map c6⟩]⟩=some (.ok .nx,⟨[x0,x1,some (.str (tq w)),some (.ref 0),some (.str q.1),some (cP q.2),qB,xX,Bp],[⟨.lst,R'.map c6⟩]⟩)
 | [],R,x6,x7,x8,_,hR,_=>⟨R,x6,x7,x8,aq _,hR,rfl⟩
 | z::Z,R,x6,x7,x8,hZ,hR,hl=>by
  simp only[bX]at hl;have e2:=λρ v=>@sZ ρ (R.map c6) v (by rw[ah];lia)
  have sp:=x9 hS (hZ z cb);by_cases hc:q.2=.ho w z.2.2.2/\(w=true->jt z.1.2=true)
  ·have hr:b7 S (.ji w q.1 (lu z)):=⟨_,_,sp,rfl,hc.2,by rw[fV hS.nd hq,hc.1]⟩
   obtain⟨R',y6,y7,y8,h1,h2,h3⟩:=ou c hS (x0:=x0) (x1:=x1) w hq Z (R++[.ji w q.1 (lu z)]) (some (eY (lu z))) (some (fB z.2.2.2)) (some (.str (w0 z.1.2))) (λy h=>hZ y (bW _ h)) (λr h=>by rcases dH.mp h with h | h;exact hR r h;rw[b6.mp h];exact hr) (by simp;lia)
   refine⟨R',y6,y7,y8,by simp at h1 ⊢;lia,h2,?_⟩
   rw[bO]at h3;rw[aA];refine dz ?_;cases w with
   | false =>
    have h3:ef _ (gu c) (Z.map kW) ⟨_,[⟨.lst,R.map c6++[.ak [.str "lend",.str q.1,eY (lu z)]]⟩]⟩=_:=h3;simp only[↓lO,zu,aW hc.1,e2,h3]
   | true =>
    have h3:ef _ (gu c) (Z.map kW) ⟨_,[⟨.lst,R.map c6++[.ak [.str "sole",.str q.1,eY (lu z)]]⟩]⟩=_:=h3;simp only[↓lO,zu,aW hc.1,cq,hc.2 rfl,e2,h3]
  ·obtain⟨R',y6,y7,y8,h1,h2,h3⟩:=ou c hS (x0:=x0) (x1:=x1) w hq Z R (some (eY (lu z))) (some (fB z.2.2.2)) (some (.str (w0 z.1.2))) (λy h=>hZ y (bW _ h)) hR (by lia)
   refine⟨R',y6,y7,y8,by simp only[bX];lia,h2,?_⟩
   rw[aA];refine dz ?_;by_cases hk:q.2=.ho w z.2.2.2
   ·cases w with
    | false=>exact absurd ⟨hk,λh=>by cases h⟩ hc
    | true =>
     have hm:jt z.1.2=false:=by
      cases hm:jt z.1.2 with
      | false=>rfl
      | true=>exact absurd ⟨hk,λ_=>hm⟩ hc
     simp only[↓lO,zu,aW hk,cq,hm,h3]
   ·simp only[↓lO,zu,bf hk,h3]
theorem qE(c:CT){S:Sc}(hS:tu S){x0:Option PV}(w:Bool):∀(K:List Ky) (R:List Rw) (x4 x5 x6 x7 x8:Option PV),(∀q∈K,q∈S.K)->(∀r∈R,b7 S r)->R.length+160*K.length<=3000->∃(R':List Rw) (Br Iy qB xX Bp:Option PV),R'.length<=R.length+160*K.length/\(∀r∈R',b7 S r)/\ef (kE 2 (dk (cC 4) (dk (cC 5) m8))) (n9 c) (K.map cF) ⟨[x0,some (.lst ((il S.K).map kW)),some (.str (tq w)),some (.ref 0),x4,x5,x6,x7,x8],[⟨.lst,R.map c6⟩]⟩=some (.ok .nx,⟨[x0,some (.lst ((il S.K).map kW)),some (.str (tq w)),some (.ref 0),Br,Iy,qB,xX,Bp],[⟨.lst,R'.map c6⟩]⟩)
 | [],R,x4,x5,x6,x7,x8,_,hR,_=>⟨R,x4,x5,x6,x7,x8,aq _,hR,rfl⟩
 | q::K,R,x4,x5,x6,x7,x8,hK,hR,hl=>by
  simp only[bX]at hl;have WQ:=l8 S.K;have Zr:=hS.l;obtain⟨R1,y6,y7,y8,h1,h2,h3⟩:=ou c hS (x0:=x0) (x1:=some (.lst ((il S.K).map kW))) w (hK q cb) (il S.K) R x6 x7 x8 (λz h=>h) hR (by lia)
  obtain⟨R2,z4,z5,z6,z7,z8,g1,g2,g3⟩:=qE c hS (x0:=x0) w K R1 (some (.str q.1)) (some (cP q.2)) y6 y7 y8 (λy h=>hK y (bW _ h)) h2 (by lia)
  refine⟨R2,z4,z5,z6,z7,z8,by simp only[bX];lia,g2,?_⟩
  delta gu lK at h3
  rw[aA];refine dz ?_;simp only[↓lO,h3,g3]
theorem zw(k:Nat){S:Sc}(hS:tu S)(w:Bool):∃R:List Rw,(∀r∈R,b7 S r)/\run aT (k+1) "_law_lends" [.lst (S.K.map cF),.lst ((il S.K).map kW),.str (tq w)] []=some (.ok (.ref 0),[⟨.lst,R.map c6⟩]):=by
 have hl:=hS.l;obtain⟨R,y4,y5,y6,y7,y8,h1,h2,h3⟩:=qE (run aT k) hS (x0:=some (.lst (S.K.map cF))) w S.K [] none none none none none (λq h=>h) (λr h=>by cases h) (by simp;lia)
 refine⟨R,h2,?_⟩
 delta n9 lK at h3
 rw[bH]at h3;rw[xN];simp only[↓bJ,h3]
theorem ES(k:Nat)(i:Sx):run aT (k+10) "_law_copied" [fB i] []=some (.ok (.bl (R8 i)),[]):=by cases i<;>kernel_rfl
def Q9:Sx->Bool
 | .st _=>true
 | _=>false
theorem Ra{h:List aj}{i:Sx}:gD h (fB i) (.int 0)=some (.str (w0 (.ow i))):=Bs (d:=.ow i)
theorem ET{h:List aj}{i:Sx}:yF h (.str (w0 (.ow i))) (.str "strip")=some (.bl (Q9 i)):=by cases i<;>kernel_rfl
theorem EU(L:List Zt):aM (L.map kW)=true:=dB JH L
theorem EV(L:List Rw):aM (L.map c6)=true:=dB EJ L
theorem EW{S:Sc}(hS:tu S):∃z∈il S.K,kT z.1.2=false/\jt z.1.2=true:=by
 obtain⟨q,h1,h2⟩:=hS.nu;refine⟨(q,([],0,.nu)),l7.mpr ⟨h1,?_⟩,?_,?_⟩
 ·rw[h2];exact b6.mpr rfl
 ·show kT q.2=false;rw[h2];rfl
 ·show jt q.2=true;rw[h2];rfl
theorem EX{α:Type}(f:α->PV)(b:α->Bool)(L:List α)(m:Int)(h:∃x∈L,b x=true):∃p,p∈L/\b p=true/\(0:Int)<((L.filter b).length:Nat)/\∀H:List aj,gD H (.lst ((L.filter b).map f)) (.int (m%((L.filter b).length:Int)))=some (f p):=by
 obtain⟨x,h1,h2⟩:=h;obtain⟨p,hp,e⟩:=pick f (L.filter b) m (fY (cH.mpr ⟨h1,h2⟩));have:=cH.mp hp;exact⟨p,this.1,this.2,by have:=fY hp;lia,e⟩
theorem EY(k:Nat){S:Sc}(hS:tu S)(C m:Int):∃R:List Rw,(∀r∈R,b7 S r)/\run aT (k+11) "_law_things" [.lst (S.K.map cF),.int C,.int m] []=some (.ok (.lst (R.map c6)),[]):=by
 have hl:=hS.l;have WQ:=l8 S.K;have e1:=zt k S.K (by lia)
 have fz:=eZ (EU (il S.K));have ll:((il S.K).map kW).length<=4000000:=by rw[ah];lia
 have lf:∀b,(((il S.K).filter b).map kW).length<=4000000:=λb=>by have:=List.length_filter_le b (il S.K);rw[ah];lia
 have n1:=EU (il S.K);have n2:=ER S.K;have e2:∀h,iD h (.int C) (.int 982451653)=some (.int (C*982451653)):=λh=>Fq (.inr (by decide))
 have e3:∀h,CZ h (.int 10) (.int 30)=some (.int (10^30)):=λh=>by kernel_rfl
 have e4:∀h,Ae h (.int (C*982451653)) (.int (10^30))=some (.int (C*982451653%10^30)):=λh=>iF (by decide)
 have ok:∀{z},z∈il S.K->dX S (lu z) z.1.2 z.2.2.2:=λh=>x9 hS h
 rw[vh];by_cases h1:C%16<2
 ·obtain⟨R,r1,r2⟩:=zw (k+9) hS false;have fr:=eZ (EV R);rw[show tq false="lent" from rfl]at r2
  refine⟨R,r1,?_⟩;simp only[↓bJ,e1,fz,ll,cq,aW h1,r2,fr]
 by_cases h2:C%16<4
 ·obtain⟨R,r1,r2⟩:=zw (k+9) hS true;have fr:=eZ (EV R);rw[show tq true="sole" from rfl]at r2
  refine⟨R,r1,?_⟩;simp only[↓bJ,e1,fz,ll,cq,bf h1,aW h2,r2,fr]
 by_cases h3:C%16=4
 ·obtain⟨z0,p1,p2,p3,p4⟩:=EX kW (λz=>jt z.1.2) (il S.K) m (let ⟨z,a,_,b⟩:=EW hS;⟨z,a,b⟩)
  have m1:=λh=>iF (h:=h) (i:=m) p3
  refine⟨((il S.K).filter λz=>decide (z.2.2.2=z0.2.2.2)&&R8 z0.2.2.2).map λz=>.o7 (lu z0) (lu z),λr hr=>?_,?_⟩
  ·obtain⟨z,hz,rfl⟩:=dJ.mp hr;obtain⟨z1,z2⟩:=cH.mp hz;rw[aC,iQ]at z2;exact⟨_,_,_,ok p1,rfl,p2,z2.1▸ok z1,rfl,z2.2⟩
  ·simp only[↓bJ,e1,fz,ll,cq,bf h1,bf h2,cW,h3,bD,m1,p4,M3,ES,dv,f9];rfl
 by_cases h4:C%16=5
 ·obtain⟨z0,p1,p2,p3,p4⟩:=EX kW (λz=>!(lu z).t) (il S.K) m (let ⟨z,a,b,_⟩:=EW hS;⟨z,a,by show(!kT z.1.2)=true;rw[b];rfl⟩)
  have m1:=λh=>iF (h:=h) (i:=m) p3
  refine⟨(((il S.K).filter λz=>jt z.1.2).filter λz=>decide (z.2.2.2=z0.2.2.2)).map λz=>.o8 (lu z) (lu z0),λr hr=>?_,?_⟩
  ·obtain⟨z,hz,rfl⟩:=dJ.mp hr;obtain⟨z1,z2⟩:=cH.mp hz;obtain⟨z1,z3⟩:=cH.mp z1;rw[iQ]at z2;exact⟨_,_,_,z2▸ok z1,rfl,z3,ok p1,rfl,by simpa[lu]using p2⟩
  ·simp only[↓bJ,e1,fz,ll,lf,cq,bf h1,bf h2,cW,h4,bD,m1,p4,M3,dv,f9];rfl
 by_cases h5:C%16=6
 ·refine⟨((il S.K).filter λz=>!(lu z).t).map λz=>.drop (lu z),λr hr=>?_,?_⟩
  ·obtain⟨z,hz,rfl⟩:=dJ.mp hr;obtain⟨z1,z2⟩:=cH.mp hz;exact⟨_,_,ok z1,rfl,by simpa[lu]using z2⟩
  ·simp only[↓bJ,e1,fz,ll,lf,cq,bf h1,bf h2,cW,h5,dv,f9];rfl
 ·refine⟨(((il S.K).filter λz=>jt z.1.2).filter λz=>Q9 z.2.2.2).map λz=>.fill (lu z) (.n (C*982451653%10^30)),λr hr=>?_,?_⟩
  ·obtain⟨z,hz,rfl⟩:=dJ.mp hr;obtain⟨z1,z2⟩:=cH.mp hz;obtain⟨z1,z3⟩:=cH.mp z1;have hz:=ok z1;cases hi:z.2.2.2 with
   | st n=>rw[hi]at hz;exact⟨⟨_,n,hz,rfl,z3⟩,eG _ (by decide),f7 _ (by decide)⟩
   | _=>rw[hi]at z2;cases z2
  ·simp only[↓bJ,e1,e2,e3,e4,fz,ll,lf,cq,bf h1,bf h2,cW,show(C%16==4)=false by simpa using h3,show(C%16==5)=false by simpa using h4,show(C%16==6)=false by simpa using h5,Ra,ET,dv,f9]
   rfl
end cE
set_option maxHeartbeats 0
namespace cE
open PySem L2 L2.U
def dY(K:List Ky)(d:Kn):List Ky:=K.filter λq=>decide (q.2=d)
theorem ox{S:Sc}(hS:tu S){d:Kn}{q:Ky}(h:q∈dY S.K d):cO S.K q.1=some d:=by
 have:=cH.mp h;rw[fV hS.nd this.1,d6 this.2]
theorem j6{h:List aj}{l:List Ky}:yF h (.lst (l.map λq=>.str q.1)) (.lst [])=some (.bl l.isEmpty):=by
 rw[EO (toT_strL (h:=h) (n:=998) l),mB]
theorem yb(l:List Ky)(m:Int)(h:l.isEmpty=false):∃q∈l,(0:Int)<(l.length:Nat)/\∀H:List aj,gD H (.lst (l.map λq=>.str q.1)) (.int (m%(l.length:Int)))=some (.str q.1):=by
 obtain⟨q,h1,h2⟩:=pick (λq:Ky=>.str q.1) l m (by cases l with | nil=>cases h | cons=>simp)
 exact⟨q,h1,by have:=fY h1;lia,h2⟩
theorem Rb{α:Type}{f:Gx α}{s:bN}{a:α}(h:∃st,gx f s=some (.ok a,st)):∃st,f s=some (.ok a,st):=h
theorem qG(c:CT){S:Sc}(hS:tu S){x0 x2 x3 x4 x5 x6 x7:Option PV}:∀(ps:List Ky) (as:List Str) (m:Int) (Rc Rf Rg:Option PV),as.length+ps.length<=100 ->
  (∃st,ef Q0 (iy c) (ps.map cF) ⟨[x0,some (.lst (S.K.map cF)),x2,x3,x4,x5,x6,x7,some (.ref 0),some (.int m),Rc,Rf,Rg],[⟨.lst,as.map .str⟩]⟩=some (.ok (.rt .aV),st)) \/
  ∃(bs:List Str) (m':Int) (Sg Sh Si:Option PV),bs.length=ps.length/\(∀z∈bs.zip ps,cO S.K z.1=some z.2.2)/\ef Q0 (iy c) (ps.map cF) ⟨[x0,some (.lst (S.K.map cF)),x2,x3,x4,x5,x6,x7,some (.ref 0),some (.int m),Rc,Rf,Rg],[⟨.lst,as.map .str⟩]⟩=some (.ok .nx,⟨[x0,some (.lst (S.K.map cF)),x2,x3,x4,x5,x6,x7,some (.ref 0),some (.int m'),Sg,Sh,Si],[⟨.lst,(as++bs).map .str⟩]⟩)
 | [],as,m,Rc,Rf,Rg,_=>.inr ⟨[],m,Rc,Rf,Rg,rfl,(λz h=>nomatch h),by rw[eI];rfl⟩
 | p::ps,as,m,Rc,Rf,Rg,hl=>by
  simp only[bX]at hl;have kl:=hS.l;have e2:=λρ v=>@sZ ρ (as.map .str) v (by rw[ah];lia)
  have e3:(S.K.map cF).length<=4000000:=by rw[ah];lia
  rw[aA];cases he:(dY S.K p.2).isEmpty with
  | true =>
   refine .inl (Rb ?_);unfold dY at he;simp only[↓lO,e3,oZ,j6,he];exact⟨_,rfl⟩
  | false =>
   obtain⟨q,hq,h0,hp⟩:=yb (dY S.K p.2) m he;have m1:=λh=>iF (h:=h) (i:=m) h0
   unfold dY at he hp m1;rcases qG c hS (x0:=x0) (x2:=x2) (x3:=x3) (x4:=x4) (x5:=x5) (x6:=x6) (x7:=x7) ps (as++[q.1]) (m/8) (some (.str p.1)) (some (cP p.2)) (some (.lst ((dY S.K p.2).map λq=>.str q.1))) (by simp;lia)with⟨st,h⟩ | ⟨bs,m',Sg,Sh,Si,b1,b2,b3⟩
   ·unfold dY at h;simp only[bO,aA,bH]at h;refine .inl ⟨st,dz ?_⟩;simp only[↓lO,e2,e3,oZ,j6,he,bD,m1,hp,h]
   ·unfold dY at b3;simp only[bO,aA,bH]at b3;refine .inr ⟨q.1::bs,m',Sg,Sh,Si,by simp[b1],λz hz=>?_,dz ?_⟩
    ·rw[List.zip_cons_cons]at hz;rcases aY.mp hz with rfl | hz
     ·exact ox hS hq
     ·exact b2 z hz
    ·simp only[↓lO,e2,e3,oZ,j6,he,bD,m1,hp,b3,bO,aA,mw,List.cons_append,eJ,bH]
end cE
set_option maxHeartbeats 0
namespace cE
open PySem L2 L2.U
structure NN (Hs:List Hd) (H:Hd) (n:Nat) (S:Sc):Prop where
 K:S.K=H.ps++H.ls
 res:S.res=H.res
 size:S.size=n
 heads:∀G∈Hs,∃q l r,fH [.inr G.nm] S.hk=true/\cM [.inr G.nm] S.hk S.hv=some (.ak [q,.ak (G.ps.map cF),fW G.res,l,r])
def Vw:Option Rw->PV
 | none=>.aV
 | some r=>c6 r
theorem EZ{r:qm}(h:Iv r=none):r=.aV:=by cases r<;>first | rfl | cases h
theorem vt{r:qm}{d:Kn}(h:Iv r=some d):k7 (fW r)=false:=by
 cases r with
 | aV=>cases h
 | own s'=>cases s'<;>rfl
 | nA _ _ _=>rfl
theorem JJ{S:Sc}{x:Str}{r:qm}{d:Kn}(h:Iv r=some d)(hx:cO S.K x=some d):o9 S x r:=by
 cases r with
 | aV=>cases h
 | own s'=>cases h;exact hx
 | nA _ _ _=>cases h;exact hx
theorem Nj(k:Nat){Hs:List Hd}{H:Hd}{n:Nat}{S:Sc}(hS:tu S)(hM:NN Hs H n S)(h0:0<Hs.length)(hp:∀G∈Hs,G.ps.length<=4)(C:Int):∃(o:Option Rw) (h':List aj),(∀r,o=some r->b7 S r)/\run aT (k+2) "_law_call" [.lst (Hs.map fg),.lst (S.K.map cF),.int C] []=some (.ok (Vw o),h'):=by
 obtain⟨G,hG,pG⟩:=pick fg Hs (C*48271%2147483647) h0;have m0:=λh=>iF (h:=h) (i:=C*48271%2147483647) (show(0:Int)<(Hs.length:Nat) by lia)
 have gp:=hp G hG;have kl:=hS.l;have e3:(S.K.map cF).length<=4000000:=by rw[ah];lia
 obtain⟨q,l,r,g1,g2⟩:=hM.heads G hG;rw[A1];rcases qG (run aT (k+1)) hS (x0:=some (.lst (Hs.map fg))) (x2:=some (.int C)) (x3:=some (.lst [.int (C*48271%2147483647),.int (C*69621%2147483629),.int (C*16807%2147483587),.int (C*39373%2147483579)])) (x4:=some (.str G.nm)) (x5:=some (.lst (G.ps.map cF))) (x6:=some (fW G.res)) (x7:=some (.lst (G.ls.map cF))) G.ps [] (C*69621%2147483629) none none none (by simp;lia)with⟨st,h⟩ | ⟨bs,m',Sg,Sh,Si,b1,b2,b3⟩
 ·delta iy lK at h
  rw[bH]at h;refine⟨none,st.h,(λr h=>by cases h),?_⟩
  simp only[↓bJ,bM,bD,m0,pG,h];rfl
 ·delta iy lK at b3
  rw[bH,eJ]at b3;cases hb:Iv G.res with
  | none =>
   have hr:=EZ hb;rw[hr,show fW .aV=PV.aV from rfl]at b3
   refine⟨some (.call "" G.nm bs),[⟨.lst,bs.map .str⟩],(λr' h=>by cases h;exact⟨G.ps,G.res,q,l,r,g1,g2,b1,by lia,b2,by rw[hr];rfl⟩),?_⟩
   have pG:∀h,gD h (.lst (Hs.map fg)) (.int (C*48271%2147483647%(Hs.length:Int)))=some (.ak [.str G.nm,.lst (G.ps.map cF),.aV,.lst (G.ls.map cF)]):=λh=>by rw[pG];unfold fg;rw[hr];rfl
   simp only[↓bJ,bM,bD,m0,pG,b3];rfl
  | some d =>
   have e4:=xY k G.res hb;have e5:=vt hb;cases he:(dY S.K d).isEmpty with
   | true =>
    refine⟨none,[⟨.lst,bs.map .str⟩],(λr h=>by cases h),?_⟩
    unfold dY at he;simp only[↓bJ,bM,bD,m0,pG,b3,e3,e4,e5,oZ,j6,he,aM,qy];rfl
   | false =>
    obtain⟨z,hz,z0,zp⟩:=yb (dY S.K d) (C*16807%2147483587) he;have m1:=λh=>iF (h:=h) (i:=C*16807%2147483587) z0
    refine⟨some (.call z.1 G.nm bs),[⟨.lst,bs.map .str⟩],(λr' h=>by cases h;exact⟨G.ps,G.res,q,l,r,g1,g2,b1,by lia,b2,JJ hb (ox hS hz)⟩),?_⟩
    unfold dY at he zp m1;simp only[↓bJ,bM,bD,m0,pG,b3,e3,e4,e5,oZ,j6,he,m1,zp,aM,qy];rfl
theorem Rh{a b:List Ky}{h:List aj}(hl:a.length+b.length<=1000):lC h (.lst (a.map cF)) (.lst (b.map cF))=some (.lst ((a++b).map cF)):=by
 show U.sizeOk _ _=_;unfold U.sizeOk;rw[if_pos (show _<=gY from(by rw[ah,ah];exact aL hl (by decide))),bO]
theorem E2(k:Nat){xs:List Str}{Hs:List Hd}{H:Hd}{i n:Nat}{S:Sc}(hS:tu S)(hM:NN Hs H n S)(hH:fj xs i H)(C:Int):∃x:Str,b7 S (.gH x)/\run aT (k+2) "_law_give" [fg H,.int C] []=some (.ok (c6 (.gH x)),[]):=by
 have h1:=hH.p;have h2:=hH.l;rw[A2];cases hb:Iv H.res with
 | none =>
  have hr:=EZ hb;refine⟨"",by show o9 S "" S.res;rw[hM.res,hr];rfl,?_⟩
  simp only[↓bJ,fg,hr,fW];rfl
 | some d =>
  have e1:=λh=>Rh (a:=H.ps) (b:=H.ls) (h:=h) (by lia)
  have e3:((H.ps++H.ls).map cF).length<=4000000:=by rw[ah,cG];lia
  have e4:=xY k H.res hb;have e5:=vt hb;have he:(dY S.K d).isEmpty=false:=by
   obtain⟨q,h1,h2⟩:=hH.bk d hb;have:q∈dY S.K d:=cH.mpr ⟨by rw[hM.K];exact dH.mpr (.inr h1),by simp[h2]⟩
   cases hw:dY S.K d with
   | nil=>rw[hw]at this;cases this
   | cons=>rfl
  obtain⟨z,hz,z0,zp⟩:=yb (dY S.K d) C he;have m1:=λh=>iF (h:=h) (i:=C) z0
  refine⟨z.1,by show o9 S z.1 S.res;rw[hM.res];exact JJ hb (ox hS hz),?_⟩
  unfold dY at zp m1;rw[hM.K]at zp m1;simp only[↓bJ,fg,e1,e3,e4,e5,oZ,bD,m1,zp];rfl
end cE
set_option maxHeartbeats 0
namespace cE
open PySem L2 L2.U
theorem toT_op{h:List aj}{n:Nat}(o:Op):∃t,toT h (n+3) (o6 o)=some t:=by
 cases o with
 | n i=>exact⟨_,rfl⟩
 | s s=>exact toT_sp s
theorem Rj(r:Rw):Nf (c6 r):=λh=>by
 cases r with
 | put s o =>
  obtain⟨t,ht⟩:=toT_sp (h:=h) (n:=995) s;obtain⟨u,hu⟩:=toT_op (h:=h) (n:=995) o;exact⟨.ak [.str "put",t,u],by show((aQ (toT h 998) [.str "put",eY s,o6 o]).bind (oB .ak))=_;simp only[aQ,ht,hu];rfl⟩
 | set s g a b =>
  obtain⟨t,ht⟩:=toT_sp (h:=h) (n:=995) s;obtain⟨u,hu⟩:=toT_op (h:=h) (n:=995) a;obtain⟨v,hv⟩:=toT_op (h:=h) (n:=995) b;exact⟨.ak [.str "set",t,.str g,u,v],by show((aQ (toT h 998) [.str "set",eY s,.str g,o6 a,o6 b]).bind (oB .ak))=_;simp only[aQ,ht,hu,hv];rfl⟩
 | fill s o =>
  obtain⟨t,ht⟩:=toT_sp (h:=h) (n:=995) s;obtain⟨u,hu⟩:=toT_op (h:=h) (n:=995) o;exact⟨.ak [.str "fill",t,u],by show((aQ (toT h 998) [.str "fill",eY s,o6 o]).bind (oB .ak))=_;simp only[aQ,ht,hu];rfl⟩
 | o7 t s =>
  obtain⟨u,hu⟩:=toT_sp (h:=h) (n:=995) t;obtain⟨v,hv⟩:=toT_sp (h:=h) (n:=995) s;exact⟨.ak [.str "copy",u,v],by show((aQ (toT h 998) [.str "copy",eY t,eY s]).bind (oB .ak))=_;simp only[aQ,hu,hv];rfl⟩
 | o8 t s =>
  obtain⟨u,hu⟩:=toT_sp (h:=h) (n:=995) t;obtain⟨v,hv⟩:=toT_sp (h:=h) (n:=995) s;exact⟨.ak [.str "move",u,v],by show((aQ (toT h 998) [.str "move",eY t,eY s]).bind (oB .ak))=_;simp only[aQ,hu,hv];rfl⟩
 | drop s =>
  obtain⟨v,hv⟩:=toT_sp (h:=h) (n:=995) s;exact⟨.ak [.str "drop",v],by show((aQ (toT h 998) [.str "drop",eY s]).bind (oB .ak))=_;simp only[aQ,hv];rfl⟩
 | ji w x s =>
  obtain⟨v,hv⟩:=toT_sp (h:=h) (n:=995) s;exact⟨.ak [.str (R7 w),.str x,v],by show((aQ (toT h 998) [.str (R7 w),.str x,eY s]).bind (oB .ak))=_;simp only[aQ,hv];rfl⟩
 | call x f as =>
  have hv:toT h 998 (.ak (as.map .str))=some (.ak (as.map .str)):=by
   show((aQ (toT h 997) (as.map .str)).bind (oB .ak))=_;rw[toT_strs];rfl
  exact⟨.ak [.str "call",.str x,.str f,.ak (as.map .str)],by show((aQ (toT h 998) [.str "call",.str x,.str f,.ak (as.map .str)]).bind (oB .ak))=_;simp only[aQ,hv];rfl⟩
 | Fo a b to =>
  obtain⟨u,hu⟩:=toT_op (h:=h) (n:=995) a;obtain⟨v,hv⟩:=toT_op (h:=h) (n:=995) b;exact⟨.ak [.str "if",u,v,.int to],by show((aQ (toT h 998) [.str "if",o6 a,o6 b,.int to]).bind (oB .ak))=_;simp only[aQ,hu,hv];rfl⟩
 | go to=>exact⟨_,rfl⟩
 | Fp o =>
  obtain⟨u,hu⟩:=toT_op (h:=h) (n:=995) o;exact⟨.ak [.str "say",u],by show((aQ (toT h 998) [.str "say",o6 o]).bind (oB .ak))=_;simp only[aQ,hu];rfl⟩
 | gH x=>exact⟨_,rfl⟩
theorem Vx{h:List aj}{R:List Rw}:Je h (.lst (R.map c6)) (.lst [])=some (.bl (!R.isEmpty)):=by
 obtain⟨ts,e⟩:=Vv Rj h R;rw[ya e,mB]
theorem rw_isNon(r:Rw):k7 (c6 r)=false:=by cases r<;>rfl
theorem Rk(k:Nat){Hs:List Hd}{H:Hd}{n:Nat}{S:Sc}(hS:tu S)(hM:NN Hs H n S)(h0:0<Hs.length)(hp:∀G∈Hs,G.ps.length<=4)(hl:H.ps.length+H.ls.length<=12)(C:Int)(j:Nat)(hj:j+1<n):∃r:Rw,b7 S r/\run aT (k+13) "_law_row" [.lst (Hs.map fg),fg H,.int C,.int (j:Int),.int (n:Int)] []=some (.ok (c6 r),[]):=by
 have e1:∀h,lC h (.lst (H.ps.map cF)) (.lst (H.ls.map cF))=some (.lst (S.K.map cF)):=λh=>by rw[hM.K];exact Rh (by lia)
 have hn:=hM.size;have go:∃r:Rw,b7 S r/\PV.ak [.str "go",.int ((j:Int)+1)]=c6 r:=⟨.go ((j:Int)+1),⟨by lia,by rw[hn];lia⟩,rfl⟩
 rw[Ex];by_cases c1:C%16=15
 ·obtain⟨o,h',o1,o2⟩:=Nj (k+10) hS hM h0 hp (C/16);cases o with
  | none =>
   obtain⟨r,r1,r2⟩:=go;refine⟨r,r1,?_⟩;rw[show Vw none=PV.aV from rfl]at o2
   have fz:kP h' .aV=some .aV:=sL rfl;simp only[↓bJ,fg,e1,bM,cW,c1,o2,fz,r2]
  | some r =>
   refine⟨r,o1 r rfl,?_⟩;rw[show Vw (some r)=c6 r from rfl]at o2
   have fz:kP h' (c6 r)=some (c6 r):=sL (EJ r);simp only[↓bJ,fg,e1,bM,cW,c1,o2,fz,rw_isNon]
 have LC:(C%16==15)=false:=by simpa using c1
 by_cases c2:C%16<8
 ·obtain⟨R,t1,t2⟩:=EY (k+1) hS C (C*48271%2147483647);cases he:R.isEmpty with
  | true =>
   obtain⟨r,r1,r2⟩:=go;refine⟨r,r1,?_⟩;simp only[↓bJ,fg,e1,bM,cW,LC,aW c2,t2,Vx,he,r2]
  | false =>
   obtain⟨r,hr,rp⟩:=pick c6 R (C*69621%2147483629) (by cases R with | nil=>cases he | cons=>simp)
   have m1:=λh=>iF (h:=h) (i:=C*69621%2147483629) (show(0:Int)<(R.length:Nat) by have:=fY hr;lia)
   refine⟨r,t1 r hr,?_⟩;simp only[↓bJ,fg,e1,bM,cW,LC,aW c2,t2,Vx,he,bD,m1,rp,rw_isNon]
 ·obtain⟨r,t1,t2⟩:=vq k hS C (by rw[hn];lia)
  rw[hn]at t2;refine⟨r,t1,?_⟩;simp only[↓bJ,fg,e1,bM,cW,LC,bf c2,t2,rw_isNon]
end cE
set_option maxHeartbeats 0
namespace cE
open PySem L2 L2.U
theorem Bv{i m n:Nat}(hm:1<=m)(h:n+m<=200):(U.k8 i m n).length<=200:=by
 unfold U.k8 sliceRange;rw[ah,fE];have e:sliceBounds (some (i:Int)) none (some (m:Int)) n=(max 0 (min (i:Int) n),(n:Int),(m:Int)):=by
  unfold sliceBounds;simp only[Option.getD_some,if_pos (show(m:Int)>0 by lia),if_neg (show ¬(i:Int)<0 by lia)]
 rw[e];simp only;rw[if_pos (by lia)]
 split
 ·have:=Int.ediv_le_self (a:=(n:Int)-max 0 (min (i:Int) n)+m-1) (m:Int) (by lia)
  lia
 ·simp
theorem E3{α β:Type}(f:α->β)(a m:Int)(ps:List α):gz a m (ps.map f)=(gz a m ps).map f:=by
 unfold gz;rw[ah,List.map_filterMap];refine d9 (λg=>List.filterMap g _) (funext λj=>?_)
 rw[bu]
theorem E4{i m:Nat}{cs:List Int}(hm:1<=m)(h:cs.length+m<=200):Lm (.lst (cs.map .int)) (some (i:Int)) (some (m:Int))=some (.lst ((gz (i:Int) (m:Int) cs).map .int)):=by
 show(if((m:Int) != 0&&decide ((U.k8 (i:Int) (m:Int) (cs.map PV.int).length).length<=gY))=true then some (PV.lst (gz (i:Int) (m:Int) (cs.map PV.int)))else none)=_
 rw[if_pos,E3];rw[ah,aC];exact⟨by simp;lia,aW (aL (Bv hm h) (by decide))⟩
def sg(Hs:List Hd)(H:Hd)(n:Nat):Sc:=⟨H.ps++H.ls,H.res,n,Hs.map λG=>[.inr G.nm],Hs.map λG=>.ak [.str G.nm,.ak (G.ps.map cF),fW G.res,.aV,.aV]⟩
theorem yc{α:Type}(nm:α->Str)(v:α->PV):∀{l:List α} {x:α},(l.map nm).Nodup->x∈l->fH [.inr (nm x)] (l.map λy=>[.inr (nm y)])=true/\cM [.inr (nm x)] (l.map λy=>[.inr (nm y)]) (l.map v)=some (v x)
 | y::l,x,hd,h=>by
  rw[aA,eL]at hd;rcases aY.mp h with rfl | h
  ·refine⟨?_,?_⟩
   ·show(decide ([(Sum.inr (nm x):b8)]=[Sum.inr (nm x)]) || _)=true;rw[aW rfl];rfl
   ·show(if [(Sum.inr (nm x):b8)]=[Sum.inr (nm x)]then _ else _)=_
    rw[if_pos rfl]
  ·have hne:nm y≠nm x:=λz=>hd.1 (by rw[z];exact mn h)
   obtain⟨h1,h2⟩:=yc nm v hd.2 h;refine⟨?_,?_⟩
   ·show(decide ([(Sum.inr (nm y):b8)]=[Sum.inr (nm x)]) || fH _ (l.map _))=true;rw[h1,Bool.or_true]
   ·show(if [(Sum.inr (nm y):b8)]=[Sum.inr (nm x)]then _ else cM _ (l.map _) (l.map v))=_
    rw[if_neg (by simpa using hne),h2]
theorem Rl{Hs:List Hd}{H:Hd}{n:Nat}(hd:(Hs.map (·.nm)).Nodup):NN Hs H n (sg Hs H n) where
 K:=rfl
 res:=rfl
 size:=rfl
 heads:=λG hG=>by
  obtain⟨h1,h2⟩:=yc (λG:Hd=>G.nm) (λG=>.ak [.str G.nm,.ak (G.ps.map cF),fW G.res,.aV,.aV]) hd hG
  exact⟨_,_,_,h1,h2⟩
theorem Vy{xs:List Str}(hx:xs.length=16)(yd:xs.Nodup){Hs:List Hd}{H:Hd}{i n:Nat}(hH:fj xs i H):tu (sg Hs H n) where
 nd:=by
  obtain⟨m,e⟩:=hH.nn;show((H.ps++H.ls).map (·.1)).Nodup;rw[e];exact yd.sublist (mx _ _)
 nu:=by
  obtain⟨q,h1,h2⟩:=hH.nu;exact⟨q,dH.mpr (.inr h1),h2⟩
 l:=by
  have:=hH.p;have:=hH.l;show(H.ps++H.ls).length<=12;rw[cG]
  lia
theorem zx(H:Hd):noRef (fg H)=true:=by simp[fg,noRef,aM,ER,qy]
theorem Nk(Hs:List Hd):aM (Hs.map fg)=true:=dB zx Hs
theorem iI(k:Nat){xs:List Str}{Hs:List Hd}{H:Hd}{i n:Nat}{S:Sc}(hS:tu S)(hM:NN Hs H n S)(hH:fj xs i H)(h0:0<Hs.length)(hp:∀G∈Hs,G.ps.length<=4){x1 x2:Option PV}{all:List Int}(t8:((all.length:Nat):Int)+1=(n:Int)):∀(ds:List Int) (R:List Rw) (x6:Option PV),R.length+ds.length+1=n->R.length+ds.length<=1000->(∀r∈R,b7 S r)->∃(R':List Rw) (qB:Option PV),R'.length=R.length+ds.length/\(∀r∈R',b7 S r)/\ef (cC 6) (c8 (run aT (k+13))) (ds.map .int) ⟨[some (.lst (Hs.map fg)),x1,x2,some (fg H),some (.lst (all.map .int)),some (.ref 0),x6],[⟨.lst,R.map c6⟩]⟩=some (.ok .nx,⟨[some (.lst (Hs.map fg)),x1,x2,some (fg H),some (.lst (all.map .int)),some (.ref 0),qB],[⟨.lst,R'.map c6⟩]⟩)
 | [],R,x6,_,_,hR=>⟨R,x6,rfl,hR,rfl⟩
 | C::ds,R,x6,hl,hb,hR=>by
  simp only[bX]at hl hb;have e2:=λρ v=>@sZ ρ (R.map c6) v (by rw[ah];lia)
  have h1:=hH.p;have h2:=hH.l;have gT:∀r,b7 S r->(∀qB R',ef (cC 6) (c8 (run aT (k+13))) (ds.map .int) ⟨[some (.lst (Hs.map fg)),x1,x2,some (fg H),some (.lst (all.map .int)),some (.ref 0),some (.int C)],[⟨.lst,R.map c6++[c6 r]⟩]⟩=some (.ok .nx,⟨[some (.lst (Hs.map fg)),x1,x2,some (fg H),some (.lst (all.map .int)),some (.ref 0),qB],[⟨.lst,R'⟩]⟩)->ef (cC 6) (c8 (run aT (k+13))) ((C::ds).map .int) ⟨[some (.lst (Hs.map fg)),x1,x2,some (fg H),some (.lst (all.map .int)),some (.ref 0),x6],[⟨.lst,R.map c6⟩]⟩=some (.ok .nx,⟨[some (.lst (Hs.map fg)),x1,x2,some (fg H),some (.lst (all.map .int)),some (.ref 0),qB],[⟨.lst,R'⟩]⟩))->∃(R':List Rw) (qB:Option PV),R'.length=R.length+(C::ds).length/\(∀r∈R',b7 S r)/\ef (cC 6) (c8 (run aT (k+13))) ((C::ds).map .int) ⟨[some (.lst (Hs.map fg)),x1,x2,some (fg H),some (.lst (all.map .int)),some (.ref 0),x6],[⟨.lst,R.map c6⟩]⟩=some (.ok .nx,⟨[some (.lst (Hs.map fg)),x1,x2,some (fg H),some (.lst (all.map .int)),some (.ref 0),qB],[⟨.lst,R'.map c6⟩]⟩):=λr hr step=>by
   obtain⟨R',y6,b1,b2,b3⟩:=iI k hS hM hH h0 hp (x1:=x1) (x2:=x2) t8 ds (R++[r]) (some (.int C)) (by simp;lia) (by simp;lia) (λr' h=>by rcases dH.mp h with h | h;exact hR r' h;rw[b6.mp h];exact hr)
   refine⟨R',y6,by simp at b1 ⊢;lia,b2,step y6 _ ?_⟩
   simpa using b3
  by_cases c1:C%32=31
  ·obtain⟨x,g1,g2⟩:=E2 (k+11) hS hM hH (C/32);refine gT (.gH x) g1 λqB R' h=>?_
   rw[aA];refine dz ?_;simp only[↓lO,cW,c1,e2,g2,h,aM,noRef,zx]
  ·obtain⟨r,g1,g2⟩:=Rk k hS hM h0 hp (by lia) C R.length (by lia)
   refine gT r g1 λqB R' h=>?_
   rw[aA];refine dz ?_;simp only[↓lO,cW,show(C%32==31)=false by simpa using c1,e2,g2,h,bD,ah,t8,aM,noRef,zx,Nk]
end cE
set_option maxHeartbeats 0
namespace cE
open PySem L2 L2.U
def E5(H:Hd)(R:List Rw):Fd:=⟨H.nm,H.ps,H.res,H.ls,R⟩
theorem ye(k:Nat){xs:List Str}(hx:xs.length=16)(yd:xs.Nodup){Hs:List Hd}(h6:Hs.length<=6)(hd:(Hs.map (·.nm)).Nodup)(hp:∀G∈Hs,G.ps.length<=4){H:Hd}{i:Nat}(hi:Hs[i]?=some H)(hH:fj xs i H){cs:List Int}(hc:cs.length<=63):∃(R:List Rw) (h':List aj),1<=R.length/\R.length<=32/\(∀r∈R,b7 (sg Hs H R.length) r)/\(∃x,R.getLast?=some (.gH x))/\run aT (k+14) "_law_function" [.lst (Hs.map fg),.int (i:Int),.lst (cs.map .int)] []=some (.ok (fdP (E5 H R)),h'):=by
 have Wm:=(cw.mp hi).1;obtain⟨ds,IY⟩:∃ds,ds=(gz (i:Int) (Hs.length:Int) cs).take 31:=⟨_,rfl⟩
 have dl:ds.length<=31:=by rw[IY,km];lia
 obtain⟨S,Vz⟩:∃S,S=sg Hs H (ds.length+1):=⟨_,rfl⟩
 have hS:tu S:=Vz▸Vy hx yd hH;have hM:NN Hs H (ds.length+1) S:=Vz▸Rl hd;obtain⟨R,y6,b1,b2,b3⟩:=iI k hS hM hH (by lia) hp (x1:=some (.int i)) (x2:=some (.lst (cs.map .int))) (all:=ds) (by lia) ds [] none (by simp) (by simp;lia) (λr h=>by cases h)
 obtain⟨x,g1,g2⟩:=E2 (k+11) hS hM hH (cs.length:Int);have e1:∀h,gD h (.lst (Hs.map fg)) (.int (i:Int))=some (fg H):=λh=>atI_nat (by rw[bu,hi];rfl)
 have e2:=E4 (i:=i) (m:=Hs.length) (cs:=cs) (by lia) (by lia)
 have e3:∀h,GQ h none (some 31) (.lst ((gz (i:Int) (Hs.length:Int) cs).map .int))=some (.lst (ds.map .int)):=λh=>by
  show some (PV.lst (gk _ none (some ((31:Nat):Int))))=_;rw[EL,<-List.map_take,IY]
 have e4:=λρ v=>@sZ ρ (R.map c6) v (by rw[ah];simp at b1;lia)
 have ll:R.length=ds.length:=by simpa using b1
 refine⟨R++[.gH x],[⟨.lst,(R++[Rw.gH x]).map c6⟩],by simp,by simp;lia,λr hr=>?_,⟨x,by simp⟩,?_⟩
 ·rw[cG,show [Rw.gH x].length=1 from rfl,ll,<-Vz]
  rcases dH.mp hr with hr | hr
  ·exact b2 r hr
  ·rw[b6.mp hr];exact g1
 delta c8 lK at b3
 rw[bH]at b3;rw[oY];simp only[↓bJ,e1,e2,e3,e4,bD,b3,g2,aM,noRef,zx];simp only[fdP,E5,bO,aA,bH]
theorem E6(ps:List PV):gk ps none (some (-1))=ps.dropLast:=by
 unfold gk;rw[HT.mX,List.drop_zero,Nat.sub_zero,List.dropLast_eq_take]
 congr 1
 show(if(-1:Int)<0 then((-1:Int)+(ps.length:Int)).toNat else min ((-1:Int)).toNat ps.length)=_
 rw[if_pos (by decide)]
 lia
theorem VA{a:List PV}{p:PV}{h:List aj}(hl:a.length<=900):lC h (.ak a) (.ak [p])=some (.ak (a++[p])):=by
 show U.sizeOk _ _=_;unfold U.sizeOk;rw[if_pos (show _<=gY from(by show a.length+1<=_;exact aL (Nat.succ_le_succ hl) (by decide)))]
theorem ID{α:Type}{f:α->PV}{L:List α}{h:List aj}:jF h [.ak (L.map f)]=some (.int (L.length:Nat)):=by
 show some (PV.int (((L.map f).length:Nat):Int))=_;rw[ah]
theorem IE(k:Nat){H:Hd}{R:List Rw}{S:Sc}(hS:S.size=R.length)(h1:1<=R.length)(h2:R.length<=32)(hR:∀r∈R,b7 S r)(hl:∃x,R.getLast?=some (.gH x))(C:Int):∃R':List Rw,R'.length=R.length/\(∀r∈R',b7 S r)/\(∃r,R'.getLast?=some r/\oj r=true)/\run aT (k+1) "_law_ended" [fdP (E5 H R),.int C] []=some (.ok (fdP (E5 H R')),[]):=by
 rw[xO];by_cases hc:C%2=0
 ·obtain⟨x,hx⟩:=hl;refine⟨R,rfl,hR,⟨_,hx,rfl⟩,?_⟩;simp only[↓bJ,cW,hc]
 ·have m1:=λh=>iF (h:=h) (i:=C/2) (show(0:Int)<(R.length:Nat) by lia)
  have e1:∀h,GQ h none (some (-1)) (.ak (R.map c6))=some (.ak (R.dropLast.map c6)):=λh=>by
   show some (PV.ak (gk (R.map c6) none (some (-1))))=_;rw[E6,List.map_dropLast]
  have e2:=λh p=>VA (a:=R.dropLast.map c6) (p:=p) (h:=h) (by rw[ah,List.length_dropLast];lia)
  have j0:=eG (C/2) (show(R.length:Int)≠0 by lia)
  have j1:=f7 (C/2) (show(0:Int)<(R.length:Int) by lia)
  refine⟨R.dropLast++[.go (C/2%(R.length:Int))],by simp;lia,λr hr=>?_,⟨.go (C/2%(R.length:Int)),by simp,rfl⟩,?_⟩
  ·rcases dH.mp hr with hr | hr
   ·exact hR r ((List.dropLast_sublist R).subset hr)
   ·rw[b6.mp hr];exact⟨j0,by rw[hS];exact j1⟩
  ·rw[show fdP (E5 H R)=.ak [.str H.nm,.ak (H.ps.map cF),fW H.res,.ak (H.ls.map cF),.ak (R.map c6)]from rfl]
   simp only[↓bJ,cW,show(C%2==0)=false by simpa using hc,fdP,E5,ID,m1,e1,e2,bO,aA,bH]
   rfl
def WS:Rw->Str
 | .put _ _=>"put"
 | .set _ _ _ _=>"set"
 | .fill _ _=>"fill"
 | .o7 _ _=>"copy"
 | .o8 _ _=>"move"
 | .drop _=>"drop"
 | .ji w _ _=>R7 w
 | .call _ _ _=>"call"
 | .Fo _ _ _=>"if"
 | .go _=>"go"
 | .Fp _=>"say"
 | .gH _=>"give"
def ip:Rw->Bool
 | .call _ _ _=>true
 | _=>false
theorem Rm{h:List aj}{r:Rw}:gD h (c6 r) (.int 0)=some (.str (WS r)):=by cases r<;>rfl
theorem IF{h:List aj}{r:Rw}:yF h (.str (WS r)) (.str "call")=some (.bl (ip r)):=by
 cases r
 case ji w x s=>cases w<;>kernel_rfl
 all_goals kernel_rfl
theorem zy(k:Nat)(F:Fd)(hF:F.rw.length<=100):run aT (k+1) "_law_calls" [fdP F] []=some (.ok (.bl (!(F.rw.filter ip).isEmpty)),[]):=by
 have e1:(F.rw.map c6).length<=4000000:=by rw[ah];lia
 rw[xP];simp only[↓bJ,fdP,e1,Rm,IF,Vx]
theorem rw_tr{S T:Sc}{r:Rw}(hK:T.K=S.K)(hr:T.res=S.res)(hs:T.size=S.size)(h:b7 S r)(hh:ip r=true->∀(f:Str) (ps:List Ky) (res:qm) (q l s:PV),cM [.inr f] S.hk S.hv=some (.ak [q,.ak (ps.map cF),fW res,l,s])->∃q l s,fH [.inr f] T.hk=true/\cM [.inr f] T.hk T.hv=some (.ak [q,.ak (ps.map cF),fW res,l,s])):b7 T r:=by
 have at_:∀{i a},Ib S i a->Ib T i a:=λ{i a} h=>by
  cases a with
  | aV=>trivial
  | num j=>exact h
  | QX y=>obtain⟨n,e,h⟩:=h;exact⟨n,e,by rw[hK];exact h⟩
 have sp:∀{s d i},dX S s d i->dX T s d i:=λh=>⟨by rw[hK];exact h.k,h.t,h.p,at_ h.a⟩
 have op:∀{o},lN S o->lN T o:=λ{o} h=>by
  cases o with
  | n i=>exact h
  | s s=>obtain⟨d,i,h1,h2⟩:=h;exact⟨d,i,sp h1,h2⟩
 have jo:∀{to},NL S to->NL T to:=λh=>by unfold NL at *;rw[hs];exact h
 have tb:∀{x res},o9 S x res->o9 T x res:=λ{x res} h=>by cases res<;>(unfold o9 at *;first | exact h | (rw[hK];exact h))
 cases r with
 | put s o=>obtain⟨⟨d,i,h1,h2⟩,h3⟩:=h;exact⟨⟨d,i,sp h1,h2⟩,op h3⟩
 | set s g a b=>obtain⟨⟨d,i,h1,h2⟩,h3,h4,h5⟩:=h;exact⟨⟨d,i,sp h1,h2⟩,h3,op h4,op h5⟩
 | fill s o=>obtain⟨⟨d,i,h1,h2⟩,h3⟩:=h;exact⟨⟨d,i,sp h1,h2⟩,op h3⟩
 | o7 t s=>obtain⟨d,e,i,h1,h2,h3,h4,h5⟩:=h;exact⟨d,e,i,sp h1,h2,h3,sp h4,h5⟩
 | o8 t s=>obtain⟨d,e,i,h1,h2,h3,h4,h5⟩:=h;exact⟨d,e,i,sp h1,h2,h3,sp h4,h5⟩
 | drop s=>obtain⟨d,i,h1,h2⟩:=h;exact⟨d,i,sp h1,h2⟩
 | ji w x s=>obtain⟨d,i,h1,h2,h3,h4⟩:=h;exact⟨d,i,sp h1,h2,h3,by rw[hK];exact h4⟩
 | call x f as =>
  obtain⟨ps,res,q,l,r,h1,h2,h3,h4,h5,h6⟩:=h;obtain⟨q',l',r',g1,g2⟩:=hh rfl f ps res q l r h2;exact⟨ps,res,q',l',r',g1,g2,h3,h4,λz hz=>by rw[hK];exact h5 z hz,tb h6⟩
 | Fo a b to=>exact⟨op h.1,op h.2.1,jo h.2.2⟩
 | go to=>exact jo h
 | Fp o=>exact op h
 | gH x=>show o9 T x T.res;rw[hr];exact tb h
end cE
set_option maxHeartbeats 0
namespace cE
open PySem L2 L2.U
theorem oy(g:Nat->PV):∀(m n:Nat),hV n ((List.range' n m).map g)=(List.range' n m).map λi=>.ak [.int (i:Int),g i]
 | 0,_=>rfl
 | m+1,n=>by
  rw[List.range'_succ,aA,aA];show dC (.int n) (g n)::hV (n+1) ((List.range' (n+1) m).map g)=_;rw[oy g m (n+1)];rfl
theorem Nl(g:Nat->PV)(m:Nat):hV 0 ((List.range m).map g)=(List.range m).map λi=>.ak [.int (i:Int),g i]:=by
 rw[List.range_eq_range'];exact oy g m 0
structure WT (xs:List Str) (Hs:List Hd) (P:List Fd):Prop where
 l:P.length=Hs.length
 a:∀(i:Nat) (F:Fd),P[i]?=some F->∃H,Hs[i]?=some H/\F=E5 H F.rw/\1<=F.rw.length/\F.rw.length<=32/\(∀r∈F.rw,b7 (sg Hs H F.rw.length) r)/\∃r,F.rw.getLast?=some r/\oj r=true
theorem E7{xs:List Str}(hx:xs.length=16)(yd:xs.Nodup){Hs:List Hd}(h6:Hs.length<=6)(hh:∀i H,Hs[i]?=some H->fj xs i H):(Hs.map (·.nm)).Nodup:=by
 unfold List.Nodup;rw[List.pairwise_map,List.pairwise_iff_getElem];intro i j hi hj Zs e;have h1:Hs[i]?=some Hs[i]:=bF hi;have h2:Hs[j]?=some Hs[j]:=bF hj;have n1:=(hh i _ h1).nm;have n2:=(hh j _ h2).nm;rw[e,<-n2]at n1;have:=(vW (by lia) yd).mp n1
 lia
theorem E8{α:Type}(nm:α->Str)(v:α->PV){f:Str}{w:PV}:∀{l:List α},cM [.inr f] (l.map λy=>[.inr (nm y)]) (l.map v)=some w->∃x∈l,nm x=f/\v x=w
 | [],h=>by cases h
 | y::l,h=>by
  have h:(if [(Sum.inr (nm y):b8)]=[Sum.inr f]then some (v y)else cM [.inr f] (l.map λy=>[.inr (nm y)]) (l.map v))=some w:=h
  by_cases e:nm y=f
  ·rw[if_pos (by rw[e])]at h
   exact⟨y,cb,e,bz h⟩
  ·rw[if_neg (by simpa using e)]at h
   obtain⟨x,h1,h2⟩:=E8 nm v h;exact⟨x,bW _ h1,h2⟩
theorem IG{xs:List Str}(yd:xs.Nodup)(hn:∀x∈xs,om x){i:Nat}{H:Hd}(h:fj xs i H){R:List Rw}(h1:1<=R.length)(h2:R.length<=32):Bi (E5 H R) where
 p:=h.p
 l:=h.l
 o:=λe=>by obtain⟨q,hq,_⟩:=h.nu;have e:H.ls=[]:=e;rw[e]at hq;cases hq
 n:=λq hq=>by
  obtain⟨m,e⟩:=h.nn;exact hn _ ((mx m xs).subset (e▸mn (f:=(·.1)) hq))
 d:=by
  obtain⟨m,e⟩:=h.nn;show((H.ps++H.ls).map (·.1)).Nodup;rw[e];exact yd.sublist (mx _ _)
 r:=h.r
 w:=h1
 x:=h2
section
variable {xs:List Str} (hx:xs.length=16) (yd:xs.Nodup) (hn:∀x∈xs,om x) {Hs:List Hd} (h6:Hs.length<=6) (hh:∀i H,Hs[i]?=some H->fj xs i H) {P:List Fd} (hP:WT xs Hs P)
include hx yd hn h6 hh hP
theorem Nm:P.map (·.nm)=Hs.map (·.nm):=by
 refine List.ext_getElem? λi=>?_
 rw[bu,bu];cases h:P[i]? with
 | none =>
  have:=eF.mp h;rw[mh (by rw[<-hP.l];exact this)]
  rfl
 | some F =>
  obtain⟨H,e,e2,_⟩:=hP.a i F h;rw[e,e2];rfl
theorem E9(Q:List Fd)(hQ:∀F∈Q,F∈P):(∀F∈Q,Bi F)/\∀F∈Q,om F.nm:=by
 have:∀F∈Q,Bi F/\om F.nm:=λF hF=>by
  obtain⟨i,hi⟩:=qN (hQ F hF);obtain⟨H,e,e2,h1,h2,_⟩:=hP.a i F hi;have hO:=hh i H e;refine⟨e2▸IG yd hn hO h1 h2,?_⟩;rw[e2];exact hn _ (mj hO.nm)
 exact⟨λF h=>(this F h).1,λF h=>(this F h).2⟩
theorem Fb(Q:List Fd)(hQ:∀F∈Q,F∈P)(h0:Q[0]?=P[0]?)(l1:1<=Q.length)(l2:Q.length<=6)(hd:(Q.map (·.nm)).Nodup)(hc:∀F∈Q,∀r∈F.rw,ip r=true->∀G∈P,G∈Q):uU Q where
 l:=l1
 m:=l2
 h:=(E9 hx yd hn h6 hh hP Q hQ).1
 n:=(E9 hx yd hn h6 hh hP Q hQ).2
 d:=hd
 f:=λF hF=>by
  rw[h0]at hF;obtain⟨H,e,e2,_⟩:=hP.a 0 F hF;have:=(hh 0 H e).z rfl;rw[e2];exact this
 r:=λF hF=>by
  obtain⟨i,hi⟩:=qN (hQ F hF);obtain⟨H,e,e2,h1,h2,h3,h4⟩:=hP.a i F hi;have eK:F.ps=H.ps/\F.ls=H.ls/\F.res=H.res:=by rw[e2];exact⟨rfl,rfl,rfl⟩
  refine⟨λr hr=>rw_tr (S:=sg Hs H F.rw.length) ?_ ?_ rfl (h3 r hr) λYV f ps res q l s hl=>?_,h4⟩
  ·show F.ps++F.ls=H.ps++H.ls;rw[eK.1,eK.2.1]
  ·exact eK.2.2
  ·obtain⟨G,hG,g1,g2⟩:=E8 (λG:Hd=>G.nm) (λG=>.ak [.str G.nm,.ak (G.ps.map cF),fW G.res,.aV,.aV]) hl
   obtain⟨j,hj⟩:=qN hG;have Vs:j<P.length:=by rw[hP.l];exact(cw.mp hj).1
   have WU:P[j]?=some P[j]:=bF Vs;obtain⟨G',f1,f2,_⟩:=hP.a j _ WU;rw[hj]at f1;cases f1;have YW:=hc F hF r hr YV _ (mj WU);obtain⟨d1,d2⟩:=yc (λG:Fd=>G.nm) fdP hd YW
   have e3:P[j].nm=f:=by rw[f2];exact g1
   simp only[e3]at d1 d2;refine⟨.str P[j].nm,.ak (P[j].ls.map cF),.ak (P[j].rw.map c6),d1,d2.trans ?_⟩;simp only[PV.ak,PV.nd.injEq,qV,true_and,and_true]at g2;unfold fdP;rw[show P[j].ps=G.ps by rw[f2];rfl,show P[j].res=G.res by rw[f2];rfl,g2.2.1,g2.2.2.1]
end
instance:Inhabited Fd:=⟨⟨"",[],.aV,[],[]⟩⟩
theorem Bw(k:Nat){xs:List Str}(hx:xs.length=16)(yd:xs.Nodup){Hs:List Hd}(h6:Hs.length<=6)(hh:∀i H,Hs[i]?=some H->fj xs i H){cs:List Int}(hc:cs.length<=63)(D:Int):∃(g:Nat->Fd) (f:Nat->Fd) (h':Nat->List aj),(∀i,i<Hs.length->run aT (k+14) "_law_function" [.lst (Hs.map fg),.int (i:Int),.lst (cs.map .int)] []=some (.ok (fdP (g i)),h' i))/\(∀i,i<Hs.length->run aT (k+14) "_law_ended" [fdP (g i),.int (D+(i:Int))] []=some (.ok (fdP (f i)),[]))/\WT xs Hs ((List.range Hs.length).map f):=by
 have hd:=E7 hx yd h6 hh;have hp:∀G∈Hs,G.ps.length<=4:=λG hG=>by
  obtain⟨i,hi⟩:=qN hG;exact(hh i G hi).p
 obtain⟨φ,VB⟩:=EN (α:=Fd×Fd×List aj) (P:=λi=>i<Hs.length) (Q:=λi z=>run aT (k+14) "_law_function" [.lst (Hs.map fg),.int (i:Int),.lst (cs.map .int)] []=some (.ok (fdP z.1),z.2.2)/\run aT (k+14) "_law_ended" [fdP z.1,.int (D+(i:Int))] []=some (.ok (fdP z.2.1),[])/\∃H,Hs[i]?=some H/\z.2.1=E5 H z.2.1.rw/\1<=z.2.1.rw.length/\z.2.1.rw.length<=32/\(∀r∈z.2.1.rw,b7 (sg Hs H z.2.1.rw.length) r)/\∃r,z.2.1.rw.getLast?=some r/\oj r=true) λi hi=>by
  have VC:Hs[i]?=some Hs[i]:=bF hi;obtain⟨R,h',r1,r2,r3,r4,r5⟩:=ye k hx yd h6 hd hp VC (hh i _ VC) hc;obtain⟨R',s1,s2,s3,s4⟩:=IE (k+13) (H:=Hs[i]) (S:=sg Hs Hs[i] R.length) rfl r1 r2 r3 r4 (D+(i:Int));refine⟨(E5 Hs[i] R,E5 Hs[i] R',h'),r5,s4,Hs[i],VC,rfl,?_,?_,?_,s3⟩
  ·show 1<=R'.length;lia
  ·show R'.length<=32;lia
  ·show ∀r∈R',b7 (sg Hs Hs[i] R'.length) r
   rw[s1];exact s2
 refine⟨λi=>(φ i).1,λi=>(φ i).2.1,λi=>(φ i).2.2,λi hi=>(VB i hi).1,λi hi=>(VB i hi).2.1,by simp,λi F h=>?_⟩
 rw[bu]at h;obtain⟨j,h1,rfl⟩:=fD.mp h;obtain⟨h2,h3⟩:=cw.mp h1;rw[List.getElem_range]at h3;subst h3;rw[fE]at h2;exact(VB i h2).2.2
end cE
set_option maxHeartbeats 0
namespace cE
open PySem L2 L2.U
theorem vv(c:CT){P0:Fd}{x0 x1 x2 x3:Option PV}{Pr:PV}(h0:∀h,gD h Pr (.int 0)=some (fdP P0)):∀(Fs:List Fd) (x4:Option PV),(∀F∈Fs,c "_law_calls" [fdP F] []=some (.ok (.bl true),[])\/c "_law_calls" [fdP F] []=some (.ok (.bl false),[])/\c "is_right" [.ak [fdP P0,fdP F]] []=some (.ok (.bl true),[]))->∃Br,ef (cC 4) (zi c) (Fs.map fdP) ⟨[x0,x1,x2,x3,x4,some Pr],[]⟩=some (.ok .nx,⟨[x0,x1,x2,x3,Br,some Pr],[]⟩)
 | [],x4,_=>⟨x4,rfl⟩
 | F::Fs,x4,hF=>by
  obtain⟨Br,h⟩:=vv c (x0:=x0) (x1:=x1) (x2:=x2) (x3:=x3) h0 Fs (some (fdP F)) λG hG=>hF G (bW _ hG)
  refine⟨Br,?_⟩;rw[aA];refine dz ?_;rcases hF F cb with h1 | ⟨h1,h2⟩
  ·simp only[↓lO,h1,h]
  ·simp only[↓lO,h1,h0,h2,h]
theorem Fc(ns:List Int)(h:ns.length<=63):R0 (run aT 20 "law" [xD ns] []):=by
 obtain⟨xs,Hs,x1,x2,x3,s1,s2,s3,s4⟩:=IB 16 ns;obtain⟨cs,c1,c2⟩:∃cs:List Int,cs.length<=63/\∀h,GQ h (some 9) (some 72) (xD ns)=some (.lst (cs.map .int)):=by
  refine⟨(ns.drop (HT.cZ ns.length 0 (some 9))).take (HT.cZ ns.length ns.length (some 72)-HT.cZ ns.length 0 (some 9)),?_,λh=>?_⟩
  ·rw[km,qS];lia
  ·show some (PV.lst (gk (ns.map .int) (some 9) (some 72)))=_;unfold gk;rw[ah,List.map_take,List.map_drop]
 obtain⟨g,f,h',f1,f2,f3⟩:=Bw 5 x1 x2 s2 s3 c1 (cell ns 3/7);obtain⟨P,hP⟩:∃P,P=(List.range Hs.length).map f:=⟨_,rfl⟩
 rw[<-hP]at f3;have Pl:=f3.l;have nm:=Nm x1 x2 x3 s2 s3 f3;have nd:(P.map (·.nm)).Nodup:=by rw[nm];exact E7 x1 x2 s2 s3
 obtain⟨P0,Ps,rfl⟩:∃P0 Ps,P=P0::Ps:=by cases P with | nil=>simp at Pl;lia | cons a l=>exact⟨a,l,rfl⟩
 have WV:uU (P0::Ps):=Fb x1 x2 x3 s2 s3 f3 _ (λF h=>h) rfl (by simp) (by lia) nd λF hF r hr hc G hG=>hG
 have r0:=jk 2 WV;have rl:∀F∈P0::Ps,F.rw.length<=100:=λF hF=>by have:=(WV.h F hF).x;lia
 have eP:(List.range Hs.length).map (λi=>fdP (f i))=(P0::Ps).map fdP:=by rw[hP,dv];rfl
 have e8:∀h,C4 h [.lst ((List.range Hs.length).map λi=>fdP (f i))]=some (.ak ((P0::Ps).map fdP)):=λh=>by rw[<-eP];rfl
 have VD:∀h,gD h (.ak ((P0::Ps).map fdP)) (.int 0)=some (fdP P0):=λh=>atI_nat (j:=0) rfl
 have e1:=Bn (n:=Hs.length) (by lia)
 have e2:(List.range Hs.length).length<=4000000:=by rw[fE];lia
 have e3:∀i∈List.range Hs.length,run aT 19 "_law_function" [.lst (Hs.map fg),.int (i:Int),.lst (cs.map .int)] []=some (.ok (fdP (g i)),h' i):=λi hi=>f1 i (dI.mp hi)
 have e4:∀i∈List.range Hs.length,run aT 19 "_law_ended" [fdP (g i),.int (cell ns 3/7+(i:Int))] []=some (.ok (fdP (f i)),[]):=λi hi=>f2 i (dI.mp hi)
 have e5:∀i,kP (h' i) (fdP (g i))=some (fdP (g i)):=λi=>sL (JE _)
 have e6:run aT 19 "_law_cell_at" [xD ns,.int 3] []=some (.ok (.int (cell ns 3)),[]):=ot 18 ns 3;have e7:=Nl (λi=>fdP (g i)) Hs.length
 have k0:=zy 18 P0 (rl P0 cb);rw[show run aT 20 "law"=_ from H0 19]
 have go:∀o:Option (Rs PV×List aj),o=some (.ok (.bl true),[])->R0 o:=λo h=>⟨[],h⟩
 refine go _ ?_;cases q0:(P0.rw.filter ip).isEmpty with
 | false =>
  rw[q0]at k0;simp only[↓bJ,s4,c2,bD,ah,e1,e2,e3,e4,e5,e6,e7,e8,r0,VD,k0,Bool.not_false]
 | true =>
  rw[q0]at k0;have nc:∀F:Fd,(F.rw.filter ip).isEmpty=true->∀r∈F.rw,ip r=true->False:=λF hq r hr hc=>by
   have:=we.mp hq;have h2:=cH.mpr ⟨hr,hc⟩;rw[this]at h2;cases h2
  have JI:uU [P0]:=Fb x1 x2 x3 s2 s3 f3 [P0] (λF h=>by rw[b6.mp h];exact cb) rfl (by simp) (by simp) (by simp) λF hF r hr hc=>by
   rw[b6.mp hF]at hr;exact(nc P0 q0 r hr hc).elim
  have r1:run aT 19 "is_right" [.ak [fdP P0]] []=some (.ok (.bl true),[]):=jk 2 JI;obtain⟨x4,hl⟩:=vv (run aT 19) (x0:=some (xD ns)) (x1:=some (.lst (Hs.map fg))) (x2:=some (.lst (cs.map .int))) (x3:=some (.lst ((List.range Hs.length).map λi=>fdP (g i)))) VD Ps none λF hF=>by
   have kF:=zy 18 F (rl F (bW _ hF));cases qF:(F.rw.filter ip).isEmpty with
   | false=>rw[qF]at kF;exact .inl kF
   | true =>
    rw[qF]at kF;refine .inr ⟨kF,jk 2 (P:=[P0,F]) (Fb x1 x2 x3 s2 s3 f3 [P0,F] (λG h=>?_) rfl (by simp) (by simp) ?_ λG hG r hr hc=>?_)⟩
    ·simp only[aY,cx,cA]at h;rcases h with rfl | rfl
     ·exact cb
     ·exact bW _ hF
    ·rw[aA,eL]at nd;have:P0.nm≠F.nm:=λz=>nd.1 (by rw[z];exact mn hF)
     simpa using this
    ·simp only[aY,cx,cA]at hG;rcases hG with rfl | rfl
     ·exact(nc _ q0 r hr hc).elim
     ·exact(nc _ qF r hr hc).elim
  delta zi lK at hl
  have t1:∀h,GQ h (some 1) none (.ak ((P0::Ps).map fdP))=some (.ak (Ps.map fdP)):=λh=>by
   show some (PV.ak (gk ((P0::Ps).map fdP) (some ((1:Nat):Int)) none))=_;rw[vn];rfl
  have t2:∀h,GQ h none (some 1) (.ak ((P0::Ps).map fdP))=some (.ak [fdP P0]):=λh=>by
   show some (PV.ak (gk ((P0::Ps).map fdP) none (some ((1:Nat):Int))))=_;rw[EL];rfl
  simp only[↓bJ,s4,c2,bD,ah,e1,e2,e3,e4,e5,e6,e7,e8,r0,r1,VD,k0,Bool.not_true,hl,t1,t2]
end cE
noncomputable section
open PySem PySem.W PyProof.Rows PySem.Calls
theorem PySem.Challenge.cw_lendrule_k16_right_programs_holds : PySem.Challenge.rw_lendrule_k16_right_programs.Holds := by
 exact cE.gT λd h1 h2=>L2.U.Eu (P:=cE.aT) (N:=20) (st:=cE.QS) (x:="_law_script") (l:=PySem.Challenge.rw_lendrule_k16_right_programs) (by kernel_rfl) (by kernel_rfl) rfl h1 h2 ⟨rfl,by decide,by decide⟩ (by kernel_rfl) (λw h Y=>Y) cE.Fc
end
