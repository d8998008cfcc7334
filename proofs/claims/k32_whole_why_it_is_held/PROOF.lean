import PyProof.Rows.All
import Wide.All
import Wide.FinOn
import PyProof.EqAt
import PyProof.EqKinds
import PyProof.TupleCall
import PyProof.NeKinds
import PySem.Challenge.RW_lendrule_k32_whole_why_it_is_held
import KE.KLam
import KE.KNestM
import KE.KSortedM
import KE.KFromBytes
import KE.KIsAll
import KE.KDictOf
import KE.KDictSum
import KE.KStateDown
set_option maxHeartbeats 0
set_option Elab.async false
set_option linter.all false
set_option maxRecDepth 100000
noncomputable section
section
open PySem PySem.Spec PyProof.Rows
def J9:=@List.findIdx?_eq_some_iff_getElem
def om:=@PyProof.Rows.slot_tuple_getitem
def Ka:=@PyProof.Rows.callWith_builtin1
def lU:=@List.eq_nil_of_length_eq_zero
def Kb:=@PySem.F.slot_dict_setdefault
def Kc:=@F.args_tuple_iterator_next_1
def lV:=@PyProof.Rows.callWith_type1
def Ke:=@F.entry_tuple_iterator_next
def Kf:=@List.getD_eq_getElem?_getD
def Kg:=@wpAny_newFunctionEnv_cells
def Kh:=@Calls.Name_function_global
def rW:=@Array.perm_iff_toList_perm
def rX:=@List.getElem?_append_right
def xb:=@F.slot_tuple_iterator_next
def jD:=@List.getElem?_append_left
def rY:=@Array.getElem?_eq_getElem
def cz:=@List.getElem?_eq_some_iff
def rZ:=@List.drop_eq_getElem_cons
def Dq:=@Calls.call_function_entry
def oo:=@List.getElem?_eq_none_iff
def Dr:=@F.slot_tuple_getattribute
def bU:=@List.getElem?_eq_getElem
def j7:=@AutoSeq1.wpAny_loadPart'
def Ds:=@PySem.F.args_tuple_add_2
def j8:=@wpAny_callSpecial?_slot
def Dt:=@decide_eq_false_iff_not
def Du:=@PySem.F.entry_tuple_add
def r9:=@Option.bind_eq_some_iff
def Dv:=@F.plain_set_update_loop
def xc:=@PySem.F.plainAttrs_list
def xf:=@Int.eq_ofNat_of_zero_le
def xg:=@List.take_of_length_le
def sd:=@Option.map_eq_some_iff
def eJ:=@Nat.le_add_right_of_le
def Dw:=@List.range_succ_eq_map
def Dx:=@PySem.F.slot_tuple_add
def se:=@List.getElem?_set_self
def xh:=@Heap.get?_update_other
def bj:=@Heap.get?_push_of_some
def Dy:=@List.take_append_drop
def sg:=@Heap.get?_update_self
def lW:=@Array.getElem?_toList
def xi:=@List.perm_append_comm
def oq:=@List.mem_iff_getElem?
def ou:=@List.getElem?_eq_none
def Dz:=@Obj.isFreed_of_fields
def dO:=@List.mem_append_right
def DA:=@builtinLookup_eq_fast
def c7:=@Nat.le_add_left_of_le
def gG:=@List.mem_append_left
def ox:=@Array.toList_extract
def cB:=@List.mem_of_getElem?
def aU:=@List.mem_cons_of_mem
def oy:=@List.getElem?_set_ne
def si:=@Around.under_plainId
def sj:=@List.pairwise_append
def ie:=@Bool.and_eq_true_iff
def DB:=@List.mem_iff_getElem
def eK:=@PySem.mem_of_lookup
def cY:=@Array.length_toList
def xj:=@List.map_congr_left
def jE:=@Array.toList_append
def cJ:=@Heap.get?_push_size
def sk:=@List.filterMap_cons
def oz:=@Int.toNat_of_nonneg
def jF:=@beq_eq_false_iff_ne
def oA:=@Heap.SameBut.update
def su:=@List.getElem?_range
def sv:=@List.mem_filterMap
def DC:=@wpAny_pyIter_tuple
def xk:=@Array.size_extract
def bg:=@List.mem_cons_self
def xl:=@List.pairwise_cons
def dc:=@Bool.false_ne_true
def xm:=@tupleKind_room_in1
def bW:=@Nat.lt_of_lt_of_le
def oC:=@Obj.data_mapFields
def sx:=@Bool.false_eq_true
def bJ:=@List.length_append
def sy:=@Nat.lt_of_le_of_ne
def bt:=@List.mem_singleton
def xo:=@Nat.pos_of_ne_zero
def iQ:=@Nat.lt_of_le_of_lt
def xp:=@Int.emod_lt_of_pos
def j9:=@wpAny_Call_Name_kw
def DD:=@List.Pairwise.drop
def DE:=@Option.isSome_map
def xq:=@Nat.lt_succ_of_lt
def lX:=@List.map_inj_left
def DF:=@List.take_add_one
def xt:=@Array.toList_push
def ei:=@Int.toNat_natCast
def fw:=@List.size_toArray
def eP:=@List.length_range
def lY:=@wpAny_truthy_bool
def DG:=@wpAny_pyIter_list
def DH:=@List.reverse_perm
def xu:=@Bool.not_eq_true'
def iR:=@List.flatMap_cons
def iS:=@wpAny_newObj_type
def cj:=@List.append_assoc
def ka:=@wpAny_setState_of
def DI:=@Obj.cls_mapFields
def bZ:=@List.getElem?_map
def xw:=@List.reverse_cons
def xx:=@List.nodup_append
def fy:=@of_decide_eq_true
def iU:=@decide_eq_true_eq
def DJ:=@wpAny_askSetting
def xy:=@List.isEmpty_iff
def dP:=@Option.bind_some
def jG:=@List.length_take
def xA:=@Around.in1_units
def xB:=@List.drop_length
def aO:=@Bool.and_eq_true
def DK:=@Option.getD_none
def DL:=@wpAny_isInstance
def xD:=@List.mem_reverse
def sE:=@Nat.lt_succ_self
def DM:=@Nat.lt_of_not_le
def kc:=@List.lookup_cons
def eQ:=@List.not_mem_nil
def dw:=@List.mem_flatMap
def ig:=@wpAny_call_entry
def DN:=@noFill_tuple_add
def ij:=@List.all_eq_true
def fz:=@beq_self_eq_true
def DO:=@Nat.max_eq_right
def sF:=@List.length_drop
def oE:=@Nat.le_of_not_lt
def fM:=@Nat.le_add_right
def aM:=@List.length_cons
def gH:=@Option.map_some
def xE:=@List.length_set
def DP:=@Bool.or_eq_true
def DQ:=@Nat.not_lt_zero
def fN:=@List.nil_append
def ck:=@List.map_append
def cC:=@Option.some.inj
def xF:=@List.of_mem_zip
def DR:=@typeLookup_type
def xG:=@wpAny_execs_nil
def iV:=@decide_eq_false
def lZ:=@wpAny_passesOwn
def sH:=@List.length_nil
def oF:=@codeAny_builtin
def DS:=@wpAny_ite_split
def bD:=@List.mem_append
def fA:=@List.append_nil
def iW:=@List.nodup_cons
def xJ:=@List.foldl_cons
def DT:=@List.cons.injEq
def sJ:=@List.find?_cons
def iX:=@Nat.le_add_left
def l7:=@Int.emod_nonneg
def gn:=@List.mem_filter
def aD:=@List.length_map
def oG:=@List.nodup_nil
def bX:=@decide_eq_true
def oH:=@Heap.size_push
def cD:=@List.mem_range
def xK:=@List.drop_zero
def sL:=@wpAny_setField
def gI:=@Nat.lt_irrefl
def sM:=@Prod.mk.injEq
def xM:=@wpAny_attempt
def gp:=@List.any_cons
def oI:=@Paired.length
def aE:=@List.map_cons
def ik:=@List.all_cons
def xN:=@plainId_quiet
def xO:=@Bool.and_true
def aV:=@List.mem_cons
def eS:=@wpAny_holding
def kf:=@codeAny_mono
def aW:=@Heap.lt_size
def sN:=@Nat.ne_of_gt
def iY:=@Int.le_of_eq
def oJ:=@wpAny_typeOf
def oK:=@Nat.add_zero
def aA:=@List.mem_map
def gJ:=@Nat.le_of_eq
def br:=@Nat.le_trans
def b6:=@List.map_map
def dQ:=@wpS_forRange
def kh:=@Int.zero_add
def ki:=@Int.le_of_lt
def c8:=@Int.le_trans
def dy:=@Nat.zero_add
def bG:=@Nat.ne_of_lt
def oM:=@List.map_nil
def oN:=@Nat.lt_trans
def dz:=@Nat.le_of_lt
def xP:=@sizeLine_eq
def sO:=@Nat.le_succ
def dm:=@Nat.zero_le
def oO:=@Int.le_refl
def aq:=@Nat.le_refl
def kj:=@wpAny_field
def af:=@wpAny_bind
def bu:=@beq_iff_eq
def aj:=@wpAny_pure
def gq:=@wpS_modify
def kl:=@wpAny_mono
def l8:=@call_meets
def sP:=@wpAny_call
def gu:=@wpAny_rule
def aY:=@eq_of_beq
def dA:=@congrArg
def aw:=@wpS_pure
def dR:=@wpS_mono
def jH:=@if_false
def ai:=@wpS_bind
def eU:=@or_false
def km:=@wpS_lift
def dU:=@Ne.symm
def iZ:=@if_true
def eW:=@wpS_get
end
namespace PSh
end PSh
section
namespace L2
open PySem PySem.Spec PyProof.Rows
abbrev bK:=Sum Int Str
inductive V where
 | b9 | bl (b:Bool) | int (i:Int) | str (x:Str) | XZ (b:Array UInt8) | flt (b:UInt64) | ref (a:Addr) | ty (n:String)
 deriving DecidableEq
def RelV:V->Value->Prop
 | .b9,u=>u=Value.none
 | .bl b,u=>u=Value.bool b
 | .int i,u=>∃t,u=Value.int i t
 | .str x,u=>∃t,u=Value.str x t
 | .XZ b,u=>∃t,u=Value.bytes b t
 | .flt b,u=>∃t,u=Value.float b t
 | .ref a,u=>u=Value.ref a
 | .ty n,u=>u=Value.type n
abbrev Vals:List V->List Value->Prop:=Paired RelV
noncomputable def kV:bK->V
 | .inl i=>.int i
 | .inr x=>.str x
inductive HO where
 /-- a list -/
 | lst (xs:List V)
 /-- a tuple (never abO) -/
 | ao (xs:List V)
 /-- a dict Sd keys are ints and Yt;one Sd keys are tuples of ints and Yt (Oi empty one is ahc) -/
 | dK (kvs:List (bK×V)) | dT (xs:List (List bK×Addr×Value))
 /-- a set of ints: aG abP,aG size -/
 | set (S:Int->Bool) (n:Nat)
 /-- an instance of Oi class at C,aG dict at dx,aG T3 -/
 | kO (C dx:Addr) (fs:List (Str×V))
 /-- Oi dict of Oi instance at x -/
 | own (x:Addr)
 /-- Oi dict of an X0 -/
 | xd (fs:List (Str×V))
 /-- a bound method,f of x -/
 | met (f x:Addr)
 /-- a range Ki lo,lo+1,.. below hi -/
 | rng (lo hi:Int)
 /-- a Yu ahd is afz to Oi Ki (Oi acU;a dict while a loop afA it): ahe,never written while it is so -/
 | pT (o:Obj) (u:HO)
 /-- a code Yv table -/
 | DU (q:Str)
 /-- any other Yu,by what is true of aG one Ki (a def of afB own: ahf a S n:=HO.ext λh=>..) -/
 | ext (φ:Heap->Prop)
abbrev Hp:=Addr->Option HO
def Rd(H:Hp)(a:Addr)(u:HO):Prop:=H a=some u\/∃o,H a=some (.pT o u)
noncomputable def dn:List Str:=["arrivals","empties","needs","held"]
def jm(K:W.Frag)(H:Hp)(a:Addr)(xs:List V):Prop :=
 Rd H a (.ao xs) \/
  ∃(o:Obj) (aG:Array Value) (n:Nat),K.lookup a=some o/\o.cls=.type "tuple"/\o.data=.seq aG n/\aG.size<=sizeLine/\Vals xs aG.toList
def kP(K:W.Frag)(H:Hp)(a:Addr)(xs:List V):Prop :=
 Rd H a (.lst xs)\/∃(aG:List Value) (n:Nat),K.lookup a=some {cls:=.type "list",data:=.seq aG.toArray n}/\aG.length<=sizeLine/\Vals xs aG
structure HM (K:W.Frag) (C:Addr):Prop where
 pg:W.plainGet K C Str.empty=true
 hd:W.hasDictIn K C=true
 po:W.plainOver K C=true
 sa:W.findIn K (.ref C) "__setattr__"=some (some (.builtin "object.__setattr__"))
def jI(K:W.Frag)(C:Addr)(f:Str):Prop:=W.findIn K (.ref C) f=some none
section
variable {X:Cx} {CX:J0} {k:Nat} {f C:Addr} {fd:FuncData} {ps:List Str} {sp:Sp} {Se:List V} {ds:List Value} {E:XK} {x m:Str} {p pos sQ:Pos} {e o:Expr} {es:List Expr} {ta:TE} {t:TA}
structure Mk (K:W.Frag) (C f:Addr):Prop where
 makes:W.makesIn K C=true
 init:W.findIn K (.ref C) "__init__"=some (some (.ref f))
 fn:W.isFn K (.ref f)=true
 kp:W.keepIn K (.ref C)=true
end
structure dB (N P:List Str) (sc:Scope):Prop where
 kind:sc.kind=.function
 co:sc.isCoroutine=false
 gen:sc.isGenerator=false
 nd:N.Nodup
 pre:N.take P.length=P
 par:∀x∈P,sc.names.lookup x=some .local\/sc.names.lookup x=some .cell
 nofree:∀y∈sc.names,y.2≠.free
noncomputable def iH(s:Stmt):Arguments:=match s with
 | .FunctionDef _ a _ _ _ _ _ _ _ _=>a
 | _=>{posonlyargs:=[],args:=[],vararg:=none,kwonlyargs:=[],kw_defaults:=[],kwarg:=none,defaults:=[]}
def dk(s:Stmt):List Stmt:=match s with
 | .FunctionDef _ _ b _ _ _ _ _ _ _=>b
 | _=>[]
def au(s:Stmt):Scope:=match s with
 | .FunctionDef _ _ _ _ _ _ sc _ _ _=>sc
 | _=>{kind:=.function,names:=[],isGenerator:=false,isCoroutine:=false}
structure DV (K:W.Frag) (x qual:Str) (st:Stmt) (f:Addr) (fd:FuncData):Prop where
 ex:∃(oc:Value) (od:Option Addr) (kV doc pm:Value) (an:Option Addr) (cW ct:Value) (Ad:Array (Option Value)),
  fd=W.fnOf x qual (iH st) (dk st) (au st) .none kV doc pm an cW ct/\K.lookup f=some ⟨oc,od,.func fd,Ad⟩/\W.codeIn K cW qual=true
 kp:W.keepIn K (.ref f)=true
section
variable {P:Program} {w:World} {K:W.Frag} {mg:Str->Option Value} {base:Heap}
def Kj{st:Stmt}{oc:Value}{od an:Option Addr}{Ad:Array (Option Value)}{kV doc pm cW ct:Value}(l:K.lookup f=some ⟨oc,od,.func (W.fnOf x qual (iH st) (dk st) (au st) .none kV doc pm an cW ct),Ad⟩)
  (c:W.codeIn K cW qual=true) (k:W.keepIn K (.ref f)=true):DV K x qual st f (W.fnOf x qual (iH st) (dk st) (au st) .none kV doc pm an cW ct):=⟨⟨oc,od,kV,doc,pm,an,cW,ct,Ad,rfl,l,c⟩,k⟩
end
section
variable {X:Cx} {ae:List (Addr×Obj)} {σ:St} {H:Hp} {s:Shared} {a b:Addr} {k:List bK} {v:V} {r:Value} {A:Around} {E:Value->Shared->Prop} {xs:List (List bK×Addr×Value)}
def gK(K:W.Frag)(H:Hp)(xs:List (List bK×Addr×Value)):Prop:=∀x∈xs,jm K H x.2.1 (x.1.map kV)
end
end L2
namespace L2.U
open PySem PySem.Spec PyProof.Rows
inductive Kd where
 | ao | lst | kO (C:Str) (ns:List Str) | gU (t:Bool) (ks:List (List bK))
inductive PV where
 | b9 | bl (b:Bool) | int (i:Int) | str (x:Str) | ref (n:Nat) | fn (x:Str) | nd (k:Kd) (ps:List PV)
noncomputable abbrev PV.ao (ps:List PV):PV:=.nd .ao ps
structure Fz where
 F:Hp
 μ:List Addr
def ClsAt(K:W.Frag)(C:Str)(cls:Value):Prop:=W.nsIn K mainGlobals C=some (some cls)
def qz(K:W.Frag)(F H:Hp)(a:Addr)(x:Bool):Kd->List V->Prop
 | .ao,vs=>x=false/\jm K H a vs
 | .lst,vs=>if x=true then H a=some (.lst vs)else kP K H a vs
 | .kO C ns,vs=>∃Ca dx fs,ClsAt K C (.ref Ca)/\HM K Ca/\(∀f∈ns,jI K Ca f)/\H a=some (.kO Ca dx fs)/\fs.map (·.1)=ns/\fs.map (·.2)=vs
 | .gU false ks,vs=>∃kvs:List (bK×V),H a=some (.dK kvs)/\kvs.map (λy=>[y.1])=ks/\kvs.map (·.2)=vs
 | .gU true ks,vs=>∃xs,H a=some (.dT xs)/\gK K F xs/\xs.map (·.1)=ks/\Vals vs (xs.map (·.2.2))
mutual
def bQ(K:W.Frag)(F:Fz):PV->V->Prop
 | .b9,v=>v=.b9
 | .bl b,v=>v=.bl b
 | .int i,v=>v=.int i
 | .str x,v=>v=.str x
 | .ref n,v=>∃a,F.μ[n]?=some a/\v=.ref a
 | .fn x,v=>∃a,v=.ref a/\W.nsIn K mainGlobals x=some (some (.ref a))
 | .nd k ps,v=>∃a vs,v=.ref a/\qz K F.F F.F a false k vs/\aF K F ps vs
def aF(K:W.Frag)(F:Fz):List PV->List V->Prop
 | [],vs=>vs=[]
 | p::ps,vs=>∃v r,vs=v::r/\bQ K F p v/\aF K F ps r
end
section
variable {K:W.Frag} {F F':Fz}
def aF.nil:aF K F [] []:=by simp[aF]
def aF.cons(h:bQ K F p v)(t:aF K F ps vs):aF K F (p::ps) (v::vs):=by
 simp only[aF];exact⟨v,vs,rfl,h,t⟩
def dD:bQ K F .b9 v↔v=.b9:=by simp only[bQ]
def cf:bQ K F (.bl b) v↔v=.bl b:=by simp only[bQ]
def aI:bQ K F (.int i) v↔v=.int i:=by simp only[bQ]
def cZ:bQ K F (.str i) v↔v=.str i:=by simp only[bQ]
def jJ:bQ K F (.nd k ps) v↔∃a vs,v=.ref a/\qz K F.F F.F a false k vs/\aF K F ps vs:=by simp only[bQ]
def cS:bQ K F (.ao ps) v↔∃a vs,v=.ref a/\jm K F.F a vs/\aF K F ps vs :=
 jJ.trans ⟨(by rintro⟨a,vs,h1,h2,h3⟩;exact⟨a,vs,h1,h2.2,h3⟩),(by rintro⟨a,vs,h1,h2,h3⟩;exact⟨a,vs,h1,⟨rfl,h2⟩,h3⟩)⟩
end
structure Pg where
 defs:List (Str×Stmt)
 cons:List (Str×PV):=[]
 dE:List Str:=[]
 tabs:List (Str×List (Str×Str)):=[]
 cls:List (Str×Stmt):=[]
 flds:List Str:=[]
 oQ:List Str:=[]
 Yw:List (Str×List (Str×Nat)):=[]
def params(st:Stmt):List Str:=(iH st).args.map λa=>a.arg
def Yx:NameKind->Bool
 | .local=>true
 | .cell=>true
 | _=>false
def cg(st:Stmt):List Str:=params st++((au st).names.filter λy=>Yx y.2&&!(params st).contains y.1).map λy=>y.1
structure Kk (K:W.Frag) (x:Str) (st:Stmt):Prop where
 ex:∃f fd,W.nsIn K mainGlobals x=some (some (.ref f))/\DV K x x st f fd/\∀us:List Value,us.length=(params st).length->bindArgs fd ⟨us,[]⟩=pure ((params st).zip us)
 sc:dB (cg st) (params st) (au st)
def HN(K:W.Frag)(P:Params)(T:Str)(rows:List (Str×Str)):Prop :=
 ∃a es n,W.nsIn K mainGlobals T=some (some (.ref a))/\K.lookup a=some ⟨.type "dict",none,.dict es n,#[]⟩/\W.KeysLit P es.toList/\∀d∈rows,∃f,W.nsIn K a d.1=some (some (.ref f))/\W.nsIn K mainGlobals d.2=some (some (.ref f))
def acV{K:W.Frag}{P:Params}{T:Str}{rows:List (Str×Str)}{a:Addr}{es:Array DictEntry}{n:Nat}(h1:W.nsIn K mainGlobals T=some (some (.ref a)))(h2:K.lookup a=some ⟨.type "dict",none,.dict es n,#[]⟩)(h3:W.KeysLit P es.toList)
  (h4:∀d∈rows,∃f,W.nsIn K a d.1=some (some (.ref f))/\W.nsIn K mainGlobals d.2=some (some (.ref f))):HN K P T rows:=⟨a,es,n,h1,h2,h3,h4⟩
noncomputable def Sf:PV->Value->Bool
 | .int i,.int j _=>i==j
 | .str x,.str y _=>x==y
 | .bl a,.bool b=>a==b
 | .b9,.none=>true
 | _,_=>false
def xQ:List PV->List Value->Bool
 | [],[]=>true
 | p::r,u::q=>Sf p u&&xQ r q
 | _,_=>false
def T4{K:W.Frag}{p:PV}{u:Value}(h:Sf p u=true):∃v,RelV v u/\∀F,bQ K F p v:=by
 cases p<;>cases u<;>first | exact absurd h dc | skip
 ·exact⟨.b9,rfl,λF=>dD.mpr rfl⟩
 ·cases aY h;exact⟨.bl _,rfl,λF=>cf.mpr rfl⟩
 ·cases aY h;exact⟨.int _,⟨_,rfl⟩,λF=>aI.mpr rfl⟩
 ·cases aY h;exact⟨.str _,⟨_,rfl⟩,λF=>cZ.mpr rfl⟩
def Oj{K:W.Frag}{ps:List PV}{us:List Value}(h:xQ ps us=true):∃vs,Vals vs us/\∀F,aF K F ps vs:=by
 induction ps generalizing us with
 | nil=>cases us;exact⟨[],.nil,λ_=>.nil⟩;cases h
 | cons p r ih =>
  cases us with
  | nil=>cases h
  | cons u q =>
   have h:=ie.mp h;obtain⟨v,a,b⟩:=T4 (K:=K) h.1;obtain⟨vs,h1,h2⟩:=ih h.2;exact⟨v::vs,.cons a h1,λF=>.cons (b F) (h2 F)⟩
def Ol{K:W.Frag}{g:Addr}{x:Str}{a:Addr}{ps:List PV}{us:List Value}{n:Nat}{dd:Option Addr}{sl:Array (Option Value)}(h1:W.nsIn K g x=some (some (.ref a)))(h2:K.lookup a=some ⟨.type "tuple",dd,.seq us.toArray n,sl⟩)(h3:xQ ps us=true)(h4:us.length<=100) :
  ∃u v,W.nsIn K g x=some (some u)/\RelV v u/\∀F,bQ K F (.ao ps) v:=by
 obtain⟨vs,r,b⟩:=Oj h3;exact⟨_,.ref a,h1,rfl,λF=>cS.mpr ⟨a,vs,rfl,.inr ⟨_,us.toArray,n,h2,rfl,rfl,by rw[fw];exact br h4 (by decide),by grind⟩,b F⟩⟩
def Om{K:W.Frag}{g:Addr}{x:Str}{y:Str}{t:Tok}(a:W.nsIn K g x=some (some (.str y t))):∃u v,W.nsIn K g x=some (some u)/\RelV v u/\∀F,bQ K F (.str y) v:=⟨_,.str y,a,⟨t,rfl⟩,λF=>cZ.mpr rfl⟩
def Oo{K:W.Frag}{g:Addr}{x:Str}{i:Int}{t:Tok}(a:W.nsIn K g x=some (some (.int i t))):∃u v,W.nsIn K g x=some (some u)/\RelV v u/\∀F,bQ K F (.int i) v:=⟨_,.int i,a,⟨t,rfl⟩,λF=>aI.mpr rfl⟩
def T5(K:W.Frag)(C:Str)(st:Stmt)(flds:List Str):Prop:=∃Ca f fd,W.nsIn K mainGlobals C=some (some (.ref Ca))/\Mk K Ca f/\HM K Ca/\(∀g∈flds,jI K Ca g)/\DV K "__init__" (C++".__init__") st f fd/\(∀us:List Value,us.length=(params st).length->bindArgs fd ⟨us,[]⟩=pure ((params st).zip us))/\dB (cg st) (params st) (au st)
def T6(K:W.Frag)(x:Str):Prop:=x∈dn/\∃c T,W.tabIn K x=some (c,T)/\W.codeHdIn K c T=true
def Kl(K:W.Frag):Prop:=∃bm o,W.nsIn K mainGlobals "__builtins__"=some (some (.ref bm))/\bm≠builtinsNs/\bm≠mainGlobals/\K.lookup bm=some o/\o.cls=.type "module"/\o.dict=some builtinsNs/\o.data=.plain
structure mM (K:W.Frag) (h:Heap):Prop where
 at_:∀x∈dn,∀c T,W.tabIn K x=some (c,T)->W.codeHdIn K c T=true/\h.get? T=some {cls:=.none,data:=.fields #[]}/\K.lookup T=none
 nd:(dn.filterMap λx=>(W.tabIn K x).map (·.2)).Nodup
def mM.keeps{K:W.Frag}{h h':Heap}(t:mM K h)(k:∀b o,h.get? b=some o->h'.get? b=some o):mM K h':=⟨λx hx c T e=>let ⟨h1,h2,h3⟩:=t.at_ x hx c T e;⟨h1,k _ _ h2,h3⟩,t.nd⟩
structure Km (P:Pg) (w:World) (K:W.Frag):Prop where
 hd:∀d∈P.defs,Kk K d.1 d.2
 hc:∀d∈P.cons,∃u v,W.nsIn K mainGlobals d.1=some (some u)/\RelV v u/\∀F,bQ K F d.2 v
 hb:∀x∈P.dE,W.nsIn K mainGlobals x=some none
 ht:∀d∈P.tabs,HN K w.params d.1 d.2
 hcl:∀d∈P.cls,T5 K d.1 d.2 P.flds
 hlm:∀x∈P.oQ,T6 K x
 hbm:P.oQ≠[]->Kl K
noncomputable def Ko:Value->List Addr
 | .ref a=>[a]
 | _=>[]
def FV:Option Obj->List Addr
 | some ⟨_,_,.dict es _,_⟩=>es.toList.flatMap λe=>Ko e.val
 | some ⟨_,_,.func fd,_⟩=>Ko fd.code
 | some ⟨_,_,.cls cd,_⟩=>cd.ns::cd.mro.flatMap Ko
 | _=>[]
noncomputable def fragOf(h:Heap):List Addr->W.Frag
 | []=>[]
 | a::r=>match h.get? a with
  | some o=>(a,o)::fragOf h r
  | none=>fragOf h r
theorem oR(h:Heap):∀as:List Addr,(fragOf h as).In h
 | []=>λ_ _ e=>by cases e
 | a::r=>λb o e=>by
  unfold fragOf at e;split at e
  ·rename_i o' ho;rw[kc]at e;cases z:b==a with
   | true =>
    rw[z]at e;cases e;rw[aY z];exact ho
   | false =>
    rw[z]at e;exact oR h r b o e
  ·exact oR h r b o e
def nsO:Option Obj->List Addr
 | some ⟨_,_,.cls cd,_⟩=>[cd.ns]
 | _=>[]
def acX(h:Heap)(a:Addr):List Addr:=a::(FV (h.get? a)++(nsO (h.get? a)).flatMap λb=>(FV (h.get? b)).flatMap λc=>c::FV (h.get? c))
def fO(h:Heap):W.Frag:=fragOf h (mainGlobals::(FV (h.get? mainGlobals)).flatMap (acX h))
noncomputable def chFn(K:W.Frag)(x:Str):Option FuncData:=match W.nsIn K mainGlobals x with
 | some (some (.ref f))=>(match K.lookup f with
  | some ⟨_,_,.func fd,_⟩=>(match W.codeIn K fd.code x with
   | true=>some {fd with kwdefaults:=.none,doc:=.none,pyModule:=.none,annotations:=none,code:=.none,closureTuple:=.none}
   | false=>none)
  | _=>none)
 | _=>none
def jW(x:Str)(st:Stmt):FuncData:=W.fnOf x x (iH st) (dk st) (au st) .none .none .none .none none .none .none
def Oq{K:W.Frag}{x:Str}{st:Stmt}(h:chFn K x=some (jW x st)):∃f fd,W.nsIn K mainGlobals x=some (some (.ref f))/\DV K x x st f fd:=by
 unfold chFn at h;split at h
 ·rename_i f hf;split at h
  ·rename_i oc od fd Ad hl;split at h
   ·rename_i hc;have h:=cC h;obtain⟨a1,a2,a3,a4,a5,a6,a7,a8,a9,a10,a11,a12,a13,a14,a15⟩:=fd;unfold jW at h;simp only[FuncData.mk.injEq]at h;obtain⟨e1,e2,e3,e4,e5,e6,e7,e8,-,-,-,-,-,-,e15⟩:=h;subst e1 e2 e3 e4 e5 e6 e7 e8 e15;exact⟨f,_,hf,Kj hl hc (by unfold W.keepIn;dsimp only;rw[hl])⟩
   ·cases h
  ·cases h
 ·cases h
def Al(K:W.Frag)(g:Addr)(d:Str×PV):Bool:=match W.nsIn K g d.1 with
 | some (some (.int j _))=>(match d.2 with | .int i=>i==j | _=>false)
 | some (some (.str y _))=>(match d.2 with | .str x=>x==y | _=>false)
 | some (some (.ref a))=>(match K.lookup a with
  | some ⟨.type t,_,.seq us _,_⟩=>(match d.2 with | .nd .ao ps=>(t=="tuple")&&(xQ ps us.toList&&decide (us.toList.length<=100)) | _=>false)
  | _=>false)
 | _=>false
def Kp{K:W.Frag}{g:Addr}{x:Str}{p:PV}(h:Al K g (x,p)=true):∃u v,W.nsIn K g x=some (some u)/\RelV v u/\∀F,bQ K F p v:=by
 unfold Al at h;dsimp only at h
 split at h
 ·rename_i j t hn;split at h
  ·obtain rfl:=aY h;exact Oo hn
  ·cases h
 ·rename_i y t hn;split at h
  ·obtain rfl:=aY h;exact Om hn
  ·cases h
 ·rename_i a hn;split at h
  ·rename_i t dd us n sl hl;split at h
   ·rw[aO,aO]at h;obtain⟨h1,h2,h3⟩:=h;obtain rfl:=aY h1;obtain⟨us⟩:=us;exact Ol hn hl h2 (fy h3)
   ·cases h
  ·cases h
 ·cases h
def Am(K:W.Frag)(x:Str):Bool:=match W.nsIn K mainGlobals x with
 | some none=>true
 | _=>false
def Kq{K:W.Frag}{x:Str}(h:Am K x=true):W.nsIn K mainGlobals x=some none:=by
 unfold Am at h;split at h
 ·assumption
 ·cases h
abbrev OV:=Option (Option Value)
noncomputable def Kr(e:DictEntry):Option Str×Int:=(match e.key with
 | .str x _=>some x
 | _=>none,e.hash)
noncomputable def Ks(K:W.Frag)(a:Addr)(d:Str×Str):Bool:=match W.nsIn K a d.1,W.nsIn K mainGlobals d.2 with
 | some (some (.ref f)),some (some (.ref g))=>f==g
 | _,_=>false
def An(K:W.Frag)(T:Str)(rows:List (Str×Str)):Option (Value×Option Addr×Array (Option Value)×List (Option Str×Int)×Bool):=match W.nsIn K mainGlobals T with
 | some (some (.ref a))=>(match K.lookup a with
  | some ⟨c,dd,.dict es _,sl⟩=>some (c,dd,sl,es.toList.map Kr,rows.all (Ks K a))
  | _=>none)
 | _=>none
noncomputable def sR(P:Params)(rows:List (Str×Str)):Option (Value×Option Addr×Array (Option Value)×List (Option Str×Int)×Bool):=some (.type "dict",none,#[],rows.map (λd=>(some d.1,PyData.keyHash P d.1)),true)
theorem Ao{β:Type}{P:Params}:∀{es:List DictEntry} {rows:List (Str×β)},es.map Kr=rows.map (λd=>(some d.1,PyData.keyHash P d.1))->W.KeysLit P es
 | [],_,_=>trivial
 | _::_,[],h=>by cases h
 | e::es,d::rows,h=>by
  rw[aE,aE,DT]at h;obtain⟨h1,h2⟩:=h;refine⟨?_,Ao h2⟩;unfold Kr at h1;rw[sM]at h1;obtain⟨h3,h4⟩:=h1;split at h3
  ·grind
  ·cases h3
def Kt{K:W.Frag}{a:Addr}{d:Str×Str}(h:Ks K a d=true):∃f,W.nsIn K a d.1=some (some (.ref f))/\W.nsIn K mainGlobals d.2=some (some (.ref f)):=by
 unfold Ks at h;split at h
 ·grind
 ·cases h
def Ku{K:W.Frag}{P:Params}{T:Str}{rows:List (Str×Str)}(h:An K T rows=sR P rows):HN K P T rows:=by
 unfold An sR at h;split at h
 ·rename_i a hn;split at h
  ·rename_i c dd es n sl hl;have h:=cC h;simp only[sM]at h;obtain⟨rfl,rfl,rfl,h4,h5⟩:=h;exact acV hn hl (Ao h4) λd hd=>Kt (ij.mp h5 d hd)
  ·cases h
 ·cases h
abbrev acZ:=Option (Value×Option Addr×Array (Option Value)×List (Option Str×Int)×Bool)
noncomputable def DW(K:W.Frag)(f:Addr)(qual:Str):Option FuncData:=match K.lookup f with
 | some ⟨_,_,.func fd,_⟩=>(match W.codeIn K fd.code qual with
  | true=>some {fd with kwdefaults:=.none,doc:=.none,pyModule:=.none,annotations:=none,code:=.none,closureTuple:=.none}
  | false=>none)
 | _=>none
def Kv(x qual:Str)(st:Stmt):FuncData:=W.fnOf x qual (iH st) (dk st) (au st) .none .none .none .none none .none .none
def HP{K:W.Frag}{x qual:Str}{st:Stmt}{f:Addr}(h:DW K f qual=some (Kv x qual st)):∃fd,DV K x qual st f fd:=by
 unfold DW at h;split at h
 ·rename_i oc od fd Ad hl;split at h
  ·rename_i hc;have h:=cC h;obtain⟨a1,a2,a3,a4,a5,a6,a7,a8,a9,a10,a11,a12,a13,a14,a15⟩:=fd;unfold Kv at h;simp only[FuncData.mk.injEq]at h;obtain⟨e1,e2,e3,e4,e5,e6,e7,e8,-,-,-,-,-,-,e15⟩:=h;subst e1 e2 e3 e4 e5 e6 e7 e8 e15;exact⟨_,Kj hl hc (by unfold W.keepIn;dsimp only;rw[hl])⟩
  ·cases h
 ·cases h
abbrev T7:=Option (Bool×OV×List OV×Option FuncData)
def Ap(K:W.Frag)(flds:List Str)(C:Str):T7:=match W.nsIn K mainGlobals C with
 | some (some (.ref a))=>(match W.findIn K (.ref a) "__init__" with
  | some (some (.ref f))=>some (W.makesIn K a&&(W.isFn K (.ref f)&&(W.keepIn K (.ref a)&&(W.plainGet K a Str.empty&&(W.hasDictIn K a&&W.plainOver K a)))),W.findIn K (.ref a) "__setattr__",flds.map (λg=>W.findIn K (.ref a) g),DW K f (C++".__init__"))
  | _=>none)
 | _=>none
def sS(flds:List Str)(C:Str)(st:Stmt):T7:=some (true,some (some (.builtin "object.__setattr__")),flds.map (λ_=>some none),some (Kv "__init__" (C++".__init__") st))
def xU:List Str->Bool
 | []=>true
 | x::r=>!r.contains x&&xU r
theorem vK:∀{l:List Str},xU l=true->l.Nodup
 | [],_=>oG
 | x::r,h=>by
  simp only[xU,aO,xu,List.contains_eq_mem,Dt]at h;exact iW.mpr ⟨h.1,vK h.2⟩
def ac0:Option NameKind->Bool
 | some .local=>true
 | some .cell=>true
 | _=>false
def Yy:NameKind->Bool
 | .free=>false
 | _=>true
def Yz:ScopeKind->Bool
 | .function=>true
 | _=>false
def Ot(st:Stmt):Bool:=Yz (au st).kind&&(!(au st).isCoroutine&&(!(au st).isGenerator&&(xU (cg st)&&((params st).all (λx=>ac0 ((au st).names.lookup x))&&(au st).names.all λy=>Yy y.2))))
def Kw{st:Stmt}(h:Ot st=true):dB (cg st) (params st) (au st):=by
 unfold Ot at h;rw[aO,aO,aO,aO,aO]at h;obtain⟨h1,h2,h3,h4,h5,h6⟩:=h;refine⟨?_,by grind,by grind,vK h4,?_,λx hx=>?_,λy hy=>?_⟩
 ·cases z:(au st).kind<;>rw[z]at h1<;>first | rfl | cases h1
 ·exact List.take_left
 ·have k:=ij.mp h5 x hx;cases z:(au st).names.lookup x with
  | none=>rw[z]at k;cases k
  | some b =>
   rw[z]at k;cases b<;>first | exact .inl rfl | exact .inr rfl | cases k
 ·have k:=ij.mp h6 y hy;intro z;rw[z]at k;cases k
def FW(P:Pg):Prop:=∀(kV doc pm:Value) (an:Option Addr) (cW ct:Value) (u:Nat->Value),
 P.defs.map (λd=>bindArgs (W.fnOf d.1 d.1 (iH d.2) (dk d.2) (au d.2) .none kV doc pm an cW ct) ⟨(List.range (params d.2).length).map u,[]⟩)=P.defs.map λd=>pure ((params d.2).zip ((List.range (params d.2).length).map u))
def Aq{us:List Value}{n:Nat}(h:us.length=n):(List.range n).map (λi=>us.getD i .none)=us:=by
 subst h;apply List.ext_getElem
 ·simp
 ·intro i h1 h2;simp[h2]
def T8{K:W.Frag}{x:Str}{st:Stmt}{f:Addr}{fd:FuncData}{P:Pg}(hb:FW P)(hd:(x,st)∈P.defs)(F:DV K x x st f fd)(us:List Value)(hl:us.length=(params st).length):bindArgs fd ⟨us,[]⟩=pure ((params st).zip us):=by
 obtain⟨oc,od,kV,doc,pm,an,cW,ct,Ad,rfl,lk,FX⟩:=F.ex;have k:=lX.mp (hb kV doc pm an cW ct λi=>us.getD i .none) (x,st) hd
 dsimp only at k
 rw[Aq hl]at k;exact k
def Ou(P:Pg):Prop:=∀(kV doc pm:Value) (an:Option Addr) (cW ct:Value) (u:Nat->Value),
 P.cls.map (λd=>bindArgs (W.fnOf "__init__" (d.1++".__init__") (iH d.2) (dk d.2) (au d.2) .none kV doc pm an cW ct) ⟨(List.range (params d.2).length).map u,[]⟩)=P.cls.map λd=>pure ((params d.2).zip ((List.range (params d.2).length).map u))
def Kx{K:W.Frag}{P:Pg}{C:Str}{st:Stmt}(T9:Ot st=true)(hb:Ou P)(hd:(C,st)∈P.cls)(h:Ap K P.flds C=sS P.flds C st):T5 K C st P.flds:=by
 unfold Ap sS at h;split at h
 ·rename_i a hn;split at h
  ·rename_i f hf;have h:=cC h;simp only[sM,aO]at h;obtain⟨⟨h1,h2,h3,h4,h5,h6⟩,h7,h8,h9⟩:=h;obtain⟨fd,F⟩:=HP h9;refine⟨a,f,fd,hn,⟨h1,hf,h2,h3⟩,⟨h4,h5,h6,h7⟩,λg hg=>lX.mp h8 g hg,F,λus hl=>?_,Kw T9⟩
   obtain⟨oc,od,kV,doc,pm,an,cW,ct,Ad,rfl,lk,FX⟩:=F.ex;have k:=lX.mp (hb kV doc pm an cW ct λi=>us.getD i .none) (C,st) hd
   dsimp only at k
   rw[Aq hl]at k;exact k
  ·cases h
 ·cases h
noncomputable def DX(K:W.Frag)(h:Heap)(x:Str):Bool:=match W.tabIn K x with
 | none=>true
 | some (c,T)=>W.codeHdIn K c T&&((K.lookup T).isNone&&(match h.get? T with
  | some ⟨.none,none,.fields vs,sl⟩=>vs.isEmpty&&sl.isEmpty
  | _=>false))
noncomputable def Ua(K:W.Frag):Bool:=match W.nsIn K mainGlobals "__builtins__" with
 | some (some (.ref bm))=>!(bm==builtinsNs)&&(!(bm==mainGlobals)&&(match K.lookup bm with
  | some ⟨.type m,some d,.plain,_⟩=>(m=="module")&&(d==builtinsNs)
  | _=>false))
 | _=>false
def Ar(P:Pg)(K:W.Frag)(h:Heap):Bool:=dn.all (DX K h)&&(decide (dn.filterMap λx=>(W.tabIn K x).map (·.2)).Nodup&&((P.oQ.isEmpty || Ua K)&&P.oQ.all λx=>dn.contains x&&(W.tabIn K x).isSome))
def vL{K:W.Frag}{h:Heap}{x:Str}{c T:Addr}(e:DX K h x=true)(t:W.tabIn K x=some (c,T)):W.codeHdIn K c T=true/\h.get? T=some {cls:=.none,data:=.fields #[]}/\K.lookup T=none:=by
 unfold DX at e;rw[t]at e;simp only[aO]at e;obtain⟨h1,h2,h3⟩:=e;refine⟨h1,?_,by simpa using h2⟩
 split at h3
 ·grind
 ·cases h3
def Ov{K:W.Frag}(e:Ua K=true):Kl K:=by
 unfold Ua at e;split at e
 ·rename_i bm hb;simp only[aO]at e;obtain⟨h1,h2,h3⟩:=e;split at h3
  ·rename_i m d sl z;rw[aO]at h3;obtain rfl:=aY h3.1;obtain rfl:=aY h3.2;exact⟨bm,_,hb,by grind,by grind,z,rfl,rfl,rfl⟩
  ·cases h3
 ·cases e
def Ky{P:Pg}{K:W.Frag}{h:Heap}(e:Ar P K h=true):mM K h/\(∀x∈P.oQ,T6 K x)/\(P.oQ≠[]->Kl K):=by
 unfold Ar at e;simp only[aO]at e;obtain⟨h1,h2,h3,h4⟩:=e;have all:=ij.mp h1;refine⟨⟨λx hx c T t=>vL (all x hx) t,fy h2⟩,λx hx=>?_,λz=>?_⟩
 ·have:=ij.mp h4 x hx;rw[aO]at this;have hm:x∈dn:=by grind
  cases t:W.tabIn K x with
  | none=>rw[t]at this;cases this.2
  | some cT=>exact⟨hm,cT.1,cT.2,t,(vL (all x hm) t).1⟩
 ·rcases Bool.or_eq_true_iff.mp h3 with y | y
  ·grind
  ·exact Ov y
abbrev Ub:=List (Option FuncData)×List (Option FuncData)×Bool×List acZ×List T7
def DY(P:Pg)(K:W.Frag)(hp:Heap):Ub:=((P.defs.take 26).map (λd=>chFn K d.1),(P.defs.drop 26).map (λd=>chFn K d.1),P.cons.all (Al K mainGlobals)&&(P.dE.all (Am K)&&Ar P K hp),P.tabs.map (λd=>An K d.1 d.2),P.cls.map (λd=>Ap K P.flds d.1))
def DZ(P:Pg)(w:World):Ub:=((P.defs.take 26).map (λd=>some (jW d.1 d.2)),(P.defs.drop 26).map (λd=>some (jW d.1 d.2)),true,P.tabs.map (λd=>sR w.params d.2),P.cls.map (λd=>sS P.flds d.1 d.2))
def HQ{P:Pg}{w:World}{K:W.Frag}(T9:P.defs.all (λd=>Ot d.2)=true)(YA:FW P)(Kz:P.cls.all (λd=>Ot d.2)=true)(KA:Ou P){hp:Heap}(h:DY P K hp=DZ P w):Km P w K/\mM K hp:=by
 unfold DY DZ at h;simp only[sM]at h;obtain⟨h1,h0,h2,h5,h6⟩:=h;rw[aO,aO]at h2;obtain⟨l1,l2,l3⟩:=Ky h2.2.2;refine⟨⟨λd hd=>?_,λd hd=>Kp (ij.mp h2.1 d hd),λx hx=>Kq (ij.mp h2.2.1 x hx),λd hd=>Ku (lX.mp h5 d hd),λd hd=>Kx (ij.mp Kz d hd) KA hd (lX.mp h6 d hd),l2,l3⟩,l1⟩
 obtain⟨f,fd,a,F⟩:=Oq (by
  have As:=hd;rw[<-Dy 26 P.defs]at As;rcases bD.mp As with z | z
  ·exact lX.mp h1 d z
  ·exact lX.mp h0 d z)
 exact⟨⟨f,fd,a,F,λus hl=>T8 YA hd F us hl⟩,Kw (ij.mp T9 d hd)⟩
def jn{α β γ:Type}{o:Option α}{f:α->β}{g:α->γ}{a:β}{b:γ}(h1:o.map f=some a)(h2:o.map g=some b):o.map (λs=>(f s,g s))=some (a,b):=by
 cases o with
 | none=>cases h1
 | some s=>cases h1;cases h2;rfl
def Ow(P:Pg)(T9:P.defs.all (λd=>Ot d.2)=true)(YA:FW P)(Kz:P.cls.all (λd=>Ot d.2)=true)(KA:Ou P):W.Hook :=
 ⟨Ub,λs=>DY P (fO s.heap) s.heap,λw=>DZ P w,λw h=>∃K:W.Frag,K.In h/\Km P w K/\mM K h,λw s e=>⟨_,oR _ _,HQ T9 YA Kz KA e⟩,λ_ _ _ ⟨K,a,b,c⟩ k=>⟨K,a.keeps k,b,c.keeps k⟩⟩
noncomputable def jo(p:Program)(row:String)(b:Bool)(N:Nat)(w:World):Option Shared:=(W.fencedOpening treeTable p w N).bind λs₀=>W.topFrom treeTable p (w.withFollow row b) N s₀
def HR{p q:Program}{loose:List Str}{Xt:Shared->Bool}{α:Type}{Yf:Shared->α}{Ya:World->α}{N:Nat}{g0:Bool}(row:String)
  (h1:∀w,(jo p row false N w).map (W.openSeen q loose (importedModules p.main.body) Xt g0)=some (W.openGood q loose)) (h2:∀w,(jo p row true N w).map (W.openSeen q loose (importedModules p.main.body) Xt g0)=some (W.openGood q loose))
  (h3:∀w,(jo p row false N w).map Yf=some (Ya (w.withFollow row false))) (h4:∀w,(jo p row true N w).map Yf=some (Ya (w.withFollow row true))):W.LeftO p q loose Xt Yf Ya N g0:=by
 refine W.LeftO.of_split row λw=>?_
 obtain⟨sA,a1,a2⟩:=sd.mp (h1 w);obtain⟨sB,b1,b2⟩:=sd.mp (h2 w);obtain⟨sC,c1,c2⟩:=sd.mp (h3 w);obtain⟨sD,d1,d2⟩:=sd.mp (h4 w);rw[a1]at c1;rw[b1]at d1;cases c1;cases d1;obtain⟨s0,f0,tA⟩:=r9.mp a1;obtain⟨s1,f1,tB⟩:=r9.mp b1;rw[f0]at f1;cases f1;rw[f0,gH,tA,tB,gH,gH,a2,b2,c2,d2]
end L2.U
namespace cX
open PySem L2 L2.U
noncomputable def top(i:Nat):Stmt:=PySem.Challenge.pw_lendrule_k32_whole_why_it_is_held.main.body.getD i (.Pass ⟨0,0,0,0⟩)
def inC(i j:Nat):Stmt:=match top i with | .ClassDef _ _ _ b _ _ _ _ _ _ _=>b.getD j (.Pass ⟨0,0,0,0⟩) | s=>s
abbrev KC:Stmt:=inC 59 0
noncomputable def jK:List (Str×Str):=[("put","put_acts"),("set","set_acts"),("fill","put_acts"),("copy","copy_acts"),("move","move_acts"),("drop","drop_acts"),("lend","lend_acts"),("sole","lend_acts"),("call","call_acts"),("if","if_acts"),("go","go_acts"),("say","say_acts"),("give","give_acts")]
def txt:Pg where
 defs:=([("leaves",5),("check_part",6),("part",7),("first",8),("is_copied",9),("kind_of",12),("is_holder",13),("shape_of",14),("spread",16),("tell_new",17),("row_nexts",29),("acts",30),("nexts",31),("come_to",32),("arrivals",33),("touched",34),("touches",35),("is_lending",36),("is_of_call",37),("touch",38),("touch_whole",39),("at_acts",40),("operand_acts",41),("target_acts",42),("put_acts",43),("set_acts",44),("copy_acts",45),("move_acts",46),("drop_acts",47),("lend_acts",48),("call_acts",49),("arg_act",50),("owner_act",51),("if_acts",52),("go_acts",53),("say_acts",54),("give_acts",55),("held",58),("source_holders",60),("count_leaves_of",61),("held_at_first",62),("newly_lent",63),("is_through",64),("held_behind",65),("passed_on",66),("leaves_given",67),("_law_cell_at",69),("_law_mixed",70),("_law_names",71),("_law_shape",72),("_law_leaves",73),("_law_parts",74),("_law_lets",75),("_law_spots",76),("_law_numbers",77),("_law_operand",78),("_law_carried",79),("_law_lending",80),("_law_call",81),("_law_small_row",82),("_law_row",83),("_law_program",84),("_law_whole",85),("_law_sources",86),("_law_of_a_param",87),("_law_of_a_lending",88),("_law_comes",89),("law",90)]:List (String×Nat)).map λd=>(d.1,top d.2)
 cons:=[("HOLDER_WORDS",.ao [(.str "lent"),(.str "sole")]),("ROW",.int 0),("ACT",.int 1),("NAME",.int 2),("THROUGH",.int 3),("FIRST",.int 4),("MANY",.int 5),("TAKER",.int 6),("REST",.ao [(.str "rest"),(.str ""),(.bl false),(.int 0),(.int 0),(.str "")]),("HAND",.ao [(.str "hand"),(.str ""),(.bl false),(.int 0),(.int 0),(.str "")]),("LENDING",.ao [(.str "lend"),(.str "sole")])]
 dE:=["bool","dict","enumerate","int","isinstance","len","list","range","set","sorted","str","sum","tuple"]
 tabs:=[("MAKERS",jK)]
 cls:=[("Course",KC)]
 flds:=["function","listed","follow","sources"]
 oQ:=["arrivals","held"]
 Yw:=[("leaves",[("told",1)]),("spread",[("known",10),("told",1)]),("tell_new",[("known",10),("told",1)]),("acts",[("told",1)]),("nexts",[("firsts",1),("told",1)]),("call_acts",[("told",1)]),("held",[("firsts",1)]),("held_at_first",[("told",1),("[return]",1)]),("newly_lent",[("told",1)]),("held_behind",[("stands",1),("told",1)]),("_law_names",[("_law_named",1)]),("_law_lets",[("_law_lets_here",1)]),("_law_spots",[("_law_found",1)]),("_law_numbers",[("_law_found",1)]),("_law_call",[("_law_args",1)]),("_law_program",[("_law_params",1),("_law_heads",1)]),("law",[("_law_come",1)])]
section
end
theorem qZ{α β γ:Type}{E:Option α}{l:List β}{f:α->β->γ}{g:β->γ}(n:Nat)(h1:E.map (λs=>(l.take n).map (f s))=some ((l.take n).map g))(h2:E.map (λs=>(l.drop n).map (f s))=some ((l.drop n).map g)):E.map (λs=>l.map (f s))=some (l.map g):=by
 cases E with
 | none=>cases h1
 | some s=>exact dA some (show l.map (f s)=l.map g by rw[<-Dy n l,ck,ck,show(l.take n).map (f s)=_ from cC h1,show(l.drop n).map (f s)=_ from cC h2])
theorem T9:txt.defs.all (λd=>Ot d.2)=true:=by kernel_rfl
theorem YA:FW txt:=by
 intro kV doc pm an cW ct u;kernel_rfl
theorem Kz:txt.cls.all (λd=>Ot d.2)=true:=by kernel_rfl
theorem KA:Ou txt:=by
 intro kV doc pm an cW ct u;kernel_rfl
noncomputable def qv:Program:=W.view (W.OpenLaw.prog PySem.Challenge.rw_lendrule_k32_whole_why_it_is_held) [90]
noncomputable def lo:List Str:=(W.OpenLaw.prog PySem.Challenge.rw_lendrule_k32_whole_why_it_is_held).boundNames.filter (· != "law")
def Xt(s:Shared):Bool:=W.xlAt qv [] s&&W.recOk (W.RowW.records (W.OpenRow.toRowW (W.OpenLaw.row PySem.Challenge.rw_lendrule_k32_whole_why_it_is_held))) s
abbrev hk:W.Hook:=Ow txt T9 YA Kz KA
theorem kq1(w:World):(jo (W.OpenLaw.prog PySem.Challenge.rw_lendrule_k32_whole_why_it_is_held) "special-get-raises" false 5000 w).map (W.openSeen qv lo (importedModules (W.OpenLaw.prog PySem.Challenge.rw_lendrule_k32_whole_why_it_is_held).main.body) Xt true)=some (W.openGood qv lo):=by kernel_rfl
theorem kq2(w:World):(jo (W.OpenLaw.prog PySem.Challenge.rw_lendrule_k32_whole_why_it_is_held) "special-get-raises" true 5000 w).map (W.openSeen qv lo (importedModules (W.OpenLaw.prog PySem.Challenge.rw_lendrule_k32_whole_why_it_is_held).main.body) Xt true)=some (W.openGood qv lo):=by kernel_rfl
theorem YB(w:World):(jo (W.OpenLaw.prog PySem.Challenge.rw_lendrule_k32_whole_why_it_is_held) "special-get-raises" false 5000 w).map (λs:Shared=>(txt.defs.take 26).map (λd=>chFn (fO s.heap) d.1))=some ((txt.defs.take 26).map (λd=>some (jW d.1 d.2))):=by kernel_rfl
theorem Uc(w:World):(jo (W.OpenLaw.prog PySem.Challenge.rw_lendrule_k32_whole_why_it_is_held) "special-get-raises" false 5000 w).map (λs:Shared=>((txt.defs.drop 26).take 15).map (λd=>chFn (fO s.heap) d.1))=some (((txt.defs.drop 26).take 15).map (λd=>some (jW d.1 d.2))):=by kernel_rfl
theorem Ud(w:World):(jo (W.OpenLaw.prog PySem.Challenge.rw_lendrule_k32_whole_why_it_is_held) "special-get-raises" false 5000 w).map (λs:Shared=>(((txt.defs.drop 26).drop 15).take 15).map (λd=>chFn (fO s.heap) d.1))=some ((((txt.defs.drop 26).drop 15).take 15).map (λd=>some (jW d.1 d.2))):=by kernel_rfl
theorem Ue(w:World):(jo (W.OpenLaw.prog PySem.Challenge.rw_lendrule_k32_whole_why_it_is_held) "special-get-raises" false 5000 w).map (λs:Shared=>(((txt.defs.drop 26).drop 15).drop 15).map (λd=>chFn (fO s.heap) d.1))=some ((((txt.defs.drop 26).drop 15).drop 15).map (λd=>some (jW d.1 d.2))):=by kernel_rfl
theorem Ug(w:World):(jo (W.OpenLaw.prog PySem.Challenge.rw_lendrule_k32_whole_why_it_is_held) "special-get-raises" false 5000 w).map (λs:Shared=>txt.cons.all (Al (fO s.heap) mainGlobals)&&(txt.dE.all (Am (fO s.heap))&&Ar txt (fO s.heap) s.heap))=some true:=by kernel_rfl
theorem Uh(w:World):(jo (W.OpenLaw.prog PySem.Challenge.rw_lendrule_k32_whole_why_it_is_held) "special-get-raises" false 5000 w).map (λs:Shared=>(txt.tabs.map (λd=>An (fO s.heap) d.1 d.2),txt.cls.map (λd=>Ap (fO s.heap) txt.flds d.1)))=some (txt.tabs.map (λd=>sR (w.withFollow "special-get-raises" false).params d.2),txt.cls.map (λd=>sS txt.flds d.1 d.2)):=by kernel_rfl
theorem kq3(w:World):(jo (W.OpenLaw.prog PySem.Challenge.rw_lendrule_k32_whole_why_it_is_held) "special-get-raises" false 5000 w).map (W.Hook.obs hk)=some (W.Hook.val hk (w.withFollow "special-get-raises" false)):=jn (YB w) (jn (qZ 15 (Uc w) (qZ 15 (Ud w) (Ue w))) (jn (Ug w) (Uh w)))
theorem YC(w:World):(jo (W.OpenLaw.prog PySem.Challenge.rw_lendrule_k32_whole_why_it_is_held) "special-get-raises" true 5000 w).map (λs:Shared=>(txt.defs.take 26).map (λd=>chFn (fO s.heap) d.1))=some ((txt.defs.take 26).map (λd=>some (jW d.1 d.2))):=by kernel_rfl
theorem Ui(w:World):(jo (W.OpenLaw.prog PySem.Challenge.rw_lendrule_k32_whole_why_it_is_held) "special-get-raises" true 5000 w).map (λs:Shared=>((txt.defs.drop 26).take 15).map (λd=>chFn (fO s.heap) d.1))=some (((txt.defs.drop 26).take 15).map (λd=>some (jW d.1 d.2))):=by kernel_rfl
theorem Uj(w:World):(jo (W.OpenLaw.prog PySem.Challenge.rw_lendrule_k32_whole_why_it_is_held) "special-get-raises" true 5000 w).map (λs:Shared=>(((txt.defs.drop 26).drop 15).take 15).map (λd=>chFn (fO s.heap) d.1))=some ((((txt.defs.drop 26).drop 15).take 15).map (λd=>some (jW d.1 d.2))):=by kernel_rfl
theorem Uk(w:World):(jo (W.OpenLaw.prog PySem.Challenge.rw_lendrule_k32_whole_why_it_is_held) "special-get-raises" true 5000 w).map (λs:Shared=>(((txt.defs.drop 26).drop 15).drop 15).map (λd=>chFn (fO s.heap) d.1))=some ((((txt.defs.drop 26).drop 15).drop 15).map (λd=>some (jW d.1 d.2))):=by kernel_rfl
theorem Ul(w:World):(jo (W.OpenLaw.prog PySem.Challenge.rw_lendrule_k32_whole_why_it_is_held) "special-get-raises" true 5000 w).map (λs:Shared=>txt.cons.all (Al (fO s.heap) mainGlobals)&&(txt.dE.all (Am (fO s.heap))&&Ar txt (fO s.heap) s.heap))=some true:=by kernel_rfl
theorem Um(w:World):(jo (W.OpenLaw.prog PySem.Challenge.rw_lendrule_k32_whole_why_it_is_held) "special-get-raises" true 5000 w).map (λs:Shared=>(txt.tabs.map (λd=>An (fO s.heap) d.1 d.2),txt.cls.map (λd=>Ap (fO s.heap) txt.flds d.1)))=some (txt.tabs.map (λd=>sR (w.withFollow "special-get-raises" true).params d.2),txt.cls.map (λd=>sS txt.flds d.1 d.2)):=by kernel_rfl
theorem kq4(w:World):(jo (W.OpenLaw.prog PySem.Challenge.rw_lendrule_k32_whole_why_it_is_held) "special-get-raises" true 5000 w).map (W.Hook.obs hk)=some (W.Hook.val hk (w.withFollow "special-get-raises" true)):=jn (YC w) (jn (qZ 15 (Ui w) (qZ 15 (Uj w) (Uk w))) (jn (Ul w) (Um w)))
theorem ws:W.OpenLaw.wellSaid PySem.Challenge.rw_lendrule_k32_whole_why_it_is_held=true:=by kernel_rfl
end cX
open PySem PySem.W PyProof.Rows PySem.Calls
set_option maxRecDepth 100000 in
set_option maxHeartbeats 0 in
theorem cX.fin(hc:∀d:DefRec,d.name="law"->d.params.defaults=[]->W.WalkO cX.qv cX.lo (XL cX.qv []) (Hook.says cX.hk) (W.OpenRow.toRowW (W.OpenLaw.row PySem.Challenge.rw_lendrule_k32_whole_why_it_is_held)) d [] (λf vs=>PySem.call f vs)):PySem.Challenge.rw_lendrule_k32_whole_why_it_is_held.Holds:=by
 w_on;refine W.holds_law cX.ws λahs=>?_
 refine W.holds_open (q:=cX.qv) (loose:=cX.lo) (Xt:=cX.Xt) (XP:=XL cX.qv []) (Yf:=Hook.obs cX.hk) (Ya:=Hook.val cX.hk) (YP:=Hook.says cX.hk) (N:=5000) (L2.U.HR "special-get-raises" cX.kq1 cX.kq2 cX.kq3 cX.kq4) (Hook.of _) (Hook.keeps _) (λs e=>xl_of s (ie.mp e).1) XL.keeps (by rfl) (by rfl) (by rfl) (λs e=>recFacts_of (ie.mp e).2) (by rfl) (by first | assumption | decide +kernel) (by decide +kernel) ⟨rfl,rfl,rfl,rfl,rfl,by decide +kernel⟩ ?hw (hc _ rfl rfl)
 case hw=>w_witness2
end
namespace L2
open PySem PySem.Spec PyProof.Rows
noncomputable def vM:bK->Value->Bool
 | .inl k,v=>Value.isInt k v
 | .inr x,v=>Value.isStrOf x v
def ac1(w:World):bK->Int
 | .inl k=>hashInt k
 | .inr x=>hashStr w x
theorem da:∀{k:bK} {v:Value},vM k v=true->(∃i t,k=Sum.inl i/\v=Value.int i t)\/(∃x t,k=Sum.inr x/\v=Value.str x t)
 | .inl i,v,h=>by
  obtain⟨t,e⟩:=Value.isInt_shape h;exact .inl ⟨i,t,rfl,e⟩
 | .inr x,v,h=>by
  obtain⟨t,e⟩:=Value.isStrOf_shape h;exact .inr ⟨x,t,rfl,e⟩
def HS(i:Int)(t:Tok):vM (.inl i) (.int i t)=true:=by simp[vM,Value.isInt]
def HU(x:Str)(t:Tok):vM (.inr x) (.str x t)=true:=by simp[vM,Value.isStrOf]
def Uo(a b:Int):decide ((Sum.inl a:bK)=Sum.inl b)=(a==b):=by
 grind
def Uq(a b:Str):decide ((Sum.inr a:bK)=Sum.inr b)=decide (a=b):=by
 grind
def Ur(a:Int)(b:Str):decide ((Sum.inl a:bK)=Sum.inr b)=false:=by grind
def Ut(a:Str)(b:Int):decide ((Sum.inr a:bK)=Sum.inl b)=false:=by grind
def dZ(prog:Program)(w:World):PySem.KeyKind prog w bK where
 is:=vM
 hash:=ac1 w
 inj:=λv a b ha hb=>by
  rcases da ha with⟨i,t,rfl,rfl⟩ | ⟨x,t,rfl,rfl⟩
  ·rcases da hb with⟨j,u,rfl,e⟩ | ⟨y,u,rfl,e⟩
   ·injection e with e1 _;rw[e1]
   ·exact nomatch e
  ·rcases da hb with⟨j,u,rfl,e⟩ | ⟨y,u,rfl,e⟩
   ·exact nomatch e
   ·injection e with e1 _;rw[e1]
 byValue:=λk v h=>by
  rcases da h with⟨i,t,rfl,rfl⟩ | ⟨x,t,rfl,rfl⟩<;>rfl
 pyHash:=λhv h=>by
  rcases da hv with⟨i,t,rfl,rfl⟩ | ⟨x,t,rfl,rfl⟩
  ·exact wpAny_pyHash_int h
  ·exact wpAny_pyHash_str h
 eqBool:=λhu hv h=>by
  rcases da hu with⟨i,t,rfl,rfl⟩ | ⟨x,t,rfl,rfl⟩
  ·rcases da hv with⟨j,u,rfl,rfl⟩ | ⟨y,u,rfl,rfl⟩
   ·rw[Uo]at h;exact wpAny_eqBool_int h
   ·rw[Ur]at h;exact SeqAt.EqAt.int_str i t y u _ _ _ _ h
  ·rcases da hv with⟨j,u,rfl,rfl⟩ | ⟨y,u,rfl,rfl⟩
   ·rw[Ut]at h;exact SeqAt.EqAt.str_int x t j u _ _ _ _ h
   ·rw[Uq]at h;exact wpAny_eqBool_str h
 «strs» := λk x t v h=>by
  rcases da h with⟨i,u,rfl,e⟩ | ⟨y,u,rfl,e⟩
  ·exact nomatch e
  ·injection e with e1 _
   subst e1;cases v<;>rfl
def Au(prog:Program)(w:World)(i:Int)(t:Tok):(dZ prog w).is (.inl i) (.int i t)=true:=HS i t
def Av(prog:Program)(w:World)(x:Str)(t:Tok):(dZ prog w).is (.inr x) (.str x t)=true:=HU x t
def Vals.length(r:Vals xs us):xs.length=us.length:=oI r
theorem Vals.get:∀{xs:List V} {us:List Value} {i:Nat} {x:V},Vals xs us->xs[i]?=some x->∃u,us[i]?=some u/\RelV x u
 | _,_,_,_,.nil,e=>by simp at e
 | _,_,0,_,.cons r _,e=>by grind
 | _,_,i+1,x,.cons _ t,e=>by
  obtain⟨u,h1,h2⟩:=Vals.get t (by simpa using e)
  exact⟨u,by grind,h2⟩
theorem Vals.set(r:RelV x u):∀{xs:List V} {us:List Value} (i:Nat),Vals xs us->Vals (xs.set i x) (us.set i u)
 | _,_,_,.nil=>.nil
 | _,_,0,.cons _ t=>.cons r t
 | _,_,i+1,.cons q t=>.cons q (Vals.set r i t)
theorem Vals.append:∀{xs ys:List V} {us ws:List Value},Vals xs us->Vals ys ws->Vals (xs++ys) (us++ws)
 | _,_,_,_,.nil,s=>s
 | _,_,_,_,.cons r t,s=>.cons r (Vals.append t s)
theorem Vals.take:∀{xs:List V} {us:List Value} (n:Nat),Vals xs us->Vals (xs.take n) (us.take n)
 | _,_,0,_=>.nil
 | _,_,_+1,.nil=>.nil
 | _,_,n+1,.cons r t=>.cons r (Vals.take n t)
theorem Vals.drop:∀{xs:List V} {us:List Value} (n:Nat),Vals xs us->Vals (xs.drop n) (us.drop n)
 | _,_,0,r=>r
 | _,_,_+1,.nil=>.nil
 | _,_,n+1,.cons _ t=>Vals.drop n t
def sU:Option V->Option Value->Prop
 | some v,some u=>RelV v u
 | none,none=>True
 | _,_=>False
def KV{κ:Type}:List (κ×V)->List (κ×Value)->Prop:=Paired fun(p:κ×V) (q:κ×Value)=>p.1=q.1/\RelV p.2 q.2
noncomputable def c5(H:Hp)(a:Addr)(o:HO):Hp:=λb=>if b=a then some o else H b
def aH:c5 H a o a=some o:=by unfold c5;rw[if_pos rfl]
def aR(h:b≠a):c5 H a o b=H b:=by unfold c5;rw[if_neg h]
def cK{H:Hp}{a b:Addr}{o:HO}(h:H a=some o)(h':H b=none):a≠b:=by
 grind
section
variable (P:Program) (w:World)
def gj(H:Hp)(h:Heap)(a:Addr):HO->Prop
 | .lst xs=>xs.length<=sizeLine/\∃(aG:List Value) (n:Nat),Vals xs aG/\h.get? a=some {cls:=.type "list",data:=.seq aG.toArray n}
 | .ao xs=>xs.length<=sizeLine/\∃aG:List Value,Vals xs aG/\IsTup h a aG.toArray
 | .dK kvs=>kvs.length<=sizeLine/\(a==sysModules)=false/\∃vs,KV kvs vs/\h.DictOf (dZ P w) a vs
 | .dT xs=>xs.length<=sizeLine/\(a==sysModules)=false/\∃o es ep,h.get? a=some o/\o.ExactDict/\o.data=.dict es ep/\es.toList=xs.map (entryOfKey (tupleKind (dZ P w)))/\(xs.map (·.1)).Nodup
 | .set S n=>h.SetOf (intKind P w) a S n
 | .kO C dx fs=>H dx=some (.own a)/\fs.length<=1000/\dx≠a/\h.get? a=some (W.instObj C dx) /\
   ∃mA,h.Ns1 dx mA/\(∀f,sU (fs.lookup f) (mA f))/\PySem.Within mA (fs.map (·.1))
 | .own _=>∃o,h.get? a=some o
 | .xd fs=>∃mA,h.Ns1 a mA/\∀f,sU (fs.lookup f) (mA f)
 | .rng lo hi=>∃t u v,h.get? a=some {cls:=.type "range",data:=.fields #[.int lo t,.int hi u,.int 1 v]}
 | .pT o u=>h.get? a=some o/\gj H h a u
 | .DU q=>∃ps:Array Value,h.get? a=some {cls:=.none,data:=.fields ps}/\TriplesOk ps.toList/\∀(pos:Pos) (cv:Value),codeAmong pos ps.toList=some cv ->
   ∃(c:Addr) (oc:Obj) (u:HO) (vs:Array Value) (t:Tok),cv=.ref c/\H c=some (.pT oc u)/\oc.data=.fields vs/\vs[1]?=some (.str q t)
 | .met f x=>h.get? a=some (W.methodObj (.ref f) (.ref x))
 | .ext φ=>φ h/\(∃o,h.get? a=some o)/\∀h1 h2:Heap,φ h1->(∀o,h1.get? a=some o->h2.get? a=some o)->φ h2
def l9(H:Hp)(h:Heap):Prop:=∀a o,H a=some o->gj P w H h a o
end
section
variable {P:Program} {w:World} {H H':Hp} {h h':Heap} {a:Addr} {o:HO}
def gj.lt(x:gj P w H h a o):a<h.objs.size:=by
 cases o with
 | lst xs=>obtain⟨_,_,_,_,e⟩:=x;exact aW e
 | ao xs=>obtain⟨_,_,_,p⟩:=x;exact p.lt
 | dK kvs=>obtain⟨_,_,_,_,o,_,_,e,_⟩:=x;exact aW e
 | dT kvs=>obtain⟨_,_,o,_,_,e,_⟩:=x;exact aW e
 | set S n=>obtain⟨o,_,_,_,e,_⟩:=x;exact aW e
 | kO C dx fs=>obtain⟨_,_,_,e,_⟩:=x;exact aW e
 | own y=>obtain⟨_,e⟩:=x;exact aW e
 | xd fs=>obtain⟨_,⟨_,_,_,e,_⟩,_⟩:=x;exact aW e
 | rng lo hi=>obtain⟨_,_,_,e⟩:=x;exact aW e
 | pT ob u=>obtain⟨e,_⟩:=x;exact aW e
 | DU q=>obtain⟨_,e,_⟩:=x;exact aW e
 | met f y=>exact aW (x)
 | ext φ=>obtain⟨_,⟨_,e⟩,_⟩:=x;exact aW e
def gj.xV(x:gj P w H h a o)(k:∀b u,(b=a\/H b=some (.own a))->h.get? b=some u->h'.get? b=some u)
  (ho:∀b,H b=some (.own a)->H' b=some (.own a)) (ht:∀b xs,H b=some (.ao xs)->H' b=some (.ao xs)) (hz:∀b ob u,H b=some (.pT ob u)->H' b=some (.pT ob u)):gj P w H' h' a o:=by
 induction o with
 | lst xs=>obtain⟨z,aG,n,r,e⟩:=x;exact⟨z,aG,n,r,k _ _ (.inl rfl) e⟩
 | ao xs=>obtain⟨z,aG,r,ob,e,c⟩:=x;exact⟨z,aG,r,ob,k _ _ (.inl rfl) e,c⟩
 | dK kvs=>obtain⟨z,y,vs,r,ob,es,ep,e,c⟩:=x;exact⟨z,y,vs,r,ob,es,ep,k _ _ (.inl rfl) e,c⟩
 | dT kvs=>obtain⟨z,y,ob,es,ep,e,c⟩:=x;exact⟨z,y,ob,es,ep,k _ _ (.inl rfl) e,c⟩
 | set S n=>obtain⟨ob,es,ep,t,e,c⟩:=x;exact⟨ob,es,ep,t,k _ _ (.inl rfl) e,c⟩
 | kO C dx fs =>
  obtain⟨d,z,ne,e,mA,⟨od,es,ep,e2,c⟩,r⟩:=x;exact⟨ho _ d,z,ne,k _ _ (.inl rfl) e,mA,⟨od,es,ep,k _ _ (.inr d) e2,c⟩,r⟩
 | own y=>obtain⟨ob,e⟩:=x;exact⟨ob,k _ _ (.inl rfl) e⟩
 | xd fs=>obtain⟨mA,⟨od,es,ep,e,c⟩,r⟩:=x;exact⟨mA,⟨od,es,ep,k _ _ (.inl rfl) e,c⟩,r⟩
 | rng lo hi=>obtain⟨t,u,v,e⟩:=x;exact⟨t,u,v,k _ _ (.inl rfl) e⟩
 | pT ob u ih=>obtain⟨e,q⟩:=x;exact⟨k _ _ (.inl rfl) e,ih q⟩
 | DU q =>
  obtain⟨ps,e,t,c⟩:=x;exact⟨ps,k _ _ (.inl rfl) e,t,λpos cv z=>let ⟨c,oc,u,vs,tk,h1,h2,h3⟩:=c pos cv z;⟨c,oc,u,vs,tk,h1,hz _ _ _ h2,h3⟩⟩
 | met f y =>
  have e:=x;exact k a _ (.inl rfl) e
 | ext φ=>obtain⟨p,⟨o,e⟩,st⟩:=x;exact⟨st _ _ p λo q=>k _ _ (.inl rfl) q,⟨o,k _ _ (.inl rfl) e⟩,st⟩
def l9.lt(x:l9 P w H h)(e:H a=some o):a<h.objs.size:=(x a o e).lt
def l9.fresh(x:l9 P w H h)(e:h.objs.size<=a):H a=none:=by
 cases q:H a with
 | none=>rfl
 | some u=>exact absurd (bW (x.lt q) e) (gI _)
def l9.kept(x:l9 P w H h)(k:∀b u,h.get? b=some u->h'.get? b=some u):l9 P w H h':=λa o e =>
 (x a o e).xV (λb u _ q=>k b u q) (λ_ q=>q) (λ_ _ q=>q) λ_ _ _ q=>q
def l9.laid(x:l9 P w H h)(k:∀b u,h.get? b=some u->h'.get? b=some u)(hp:h.objs.size<=a)(new:gj P w (c5 H a o) h' a o):l9 P w (c5 H a o) h':=λb u e=>by
 have hn:=x.fresh hp;by_cases hb:b=a
 ·subst hb;rw[aH]at e;cases e;exact new
 ·rw[aR hb]at e;exact(x b u e).xV (λc v _ q=>k c v q) (λc q=>by rw[aR (cK q hn)];exact q) (λc xs q=>by rw[aR (cK q hn)];exact q) λc ob v q=>by rw[aR (cK q hn)];exact q
end
def Rd.ok(r:Rd H a u)(x:l9 P w H h):gj P w H h a u:=by
 rcases r with r | ⟨o,r⟩
 ·exact x a u r
 ·obtain⟨_,q⟩:=x a _ r;exact q
def Mut:Option HO->Prop
 | some (.lst _)=>True
 | some (.dK _)=>True
 | some (.dT _)=>True
 | some (.set _ _)=>True
 | some (.kO _ _ _)=>True
 | some (.ext _)=>True
 | _=>False
section
variable {P:Program} {w:World} {H:Hp} {h h':Heap} {x e:Addr} {o':HO}
def l9.write(ok:l9 P w H h)(mu:Mut (H x))(he:e=x\/H e=some (.own x))(k:∀b u,b≠e->h.get? b=some u->h'.get? b=some u)(X1:∃u,h'.get? e=some u)
  (new:gj P w (c5 H x o') h' x o'):l9 P w (c5 H x o') h':=λb u q=>by
 have YD:∀c y,H c=some (.own y)->c≠x:=λc y r z=>by subst z;rw[r]at mu;exact mu
 have ac2:∀c xs,H c=some (.ao xs)->c≠x:=λc xs r z=>by subst z;rw[r]at mu;exact mu
 have ac3:∀c ob v,H c=some (.pT ob v)->c≠x:=λc ob v r z=>by subst z;rw[r]at mu;exact mu
 by_cases hb:b=x
 ·subst hb;rw[aH]at q;cases q;exact new
 ·rw[aR hb]at q;by_cases Uu:b=e
  ·have q':H b=some (.own x):=by
    rcases he with z | z
    ·exact absurd (Uu.trans z) hb
    ·rw[Uu];exact z
   rw[q]at q';cases q';obtain⟨v,hv⟩:=X1;exact⟨v,by rw[Uu];exact hv⟩
  ·refine(ok b u q).xV (λc v hc r=>k c v ?_ r) (λc r=>by rw[aR (YD c b r)];exact r) (λc xs r=>by rw[aR (ac2 c xs r)];exact r) λc ob v r=>by rw[aR (ac3 c ob v r)];exact r
   rcases hc with rfl | hc
   ·exact Uu
   ·rintro rfl
    rcases he with z | z
    ·exact YD c b hc z
    ·rw[hc]at z;cases z;exact hb rfl
end
structure Un (fs ex:List Addr) (H H':Hp) (h h':Heap):Prop where
 keep:∀b o,h.get? b=some o->H b=none->b∉fs->b∉ex->h'.get? b=some o
 slot:∀b o,h.get? b=some o->H b=none->b∈fs->b∉ex->∃sl,h'.get? b=some {o with slots:=sl}
 free:∀b o,h.get? b=some o->H b=none->b∉ex->H' b=none
 there:∀b o,h.get? b=some o->b∉ex->∃o',h'.get? b=some o'
 tups:∀b xs,H b=some (.ao xs)->H' b=some (.ao xs)
 frzs:∀b o u,H b=some (.pT o u)->H' b=some (.pT o u)
 tbls:∀b q,H b=some (.DU q)->H' b=some (.DU q)
section
variable {fs Uv ex ex':List Addr} {H H1 H2:Hp} {h h1 h2 h':Heap} {a x e:Addr} {o:HO}
def Un.any(u:Un fs ex H H1 h h1)(q:h.get? b=some ob)(n:H b=none)(hx:b∉ex):∃sl,h1.get? b=some {ob with slots:=sl}:=by
 by_cases hb:b∈fs
 ·exact u.slot b ob q n hb hx
 ·exact⟨ob.slots,u.keep b ob q n hb hx⟩
def Un.trans(a:Un fs ex H H1 h h1)(b:Un fs ex H1 H2 h1 h2):Un fs ex H H2 h h2 where
 keep:=λc ob q n hc hx=>b.keep c ob (a.keep c ob q n hc hx) (a.free c ob q n hx) hc hx
 slot:=λc ob q n hc hx=>by
  obtain⟨sl,e1⟩:=a.slot c ob q n hc hx;obtain⟨YE,e2⟩:=b.slot c _ e1 (a.free c ob q n hx) hc hx;exact⟨YE,e2⟩
 free:=λc ob q n hx=>by
  obtain⟨o',e1⟩:=a.there c ob q hx;exact b.free c o' e1 (a.free c ob q n hx) hx
 there:=λc ob q hx=>by
  obtain⟨o',e1⟩:=a.there c ob q hx;exact b.there c o' e1 hx
 tups:=λc xs q=>b.tups c xs (a.tups c xs q)
 frzs:=λc ob xs q=>b.frzs c ob xs (a.frzs c ob xs q)
 tbls:=λc q e=>b.tbls c q (a.tbls c q e)
def Un.kept(k:∀b u,h.get? b=some u->h'.get? b=some u):Un fs ex H H h h' :=
 ⟨λb ob q _ _ _=>k b ob q,λb ob q _ _ _=>⟨ob.slots,k b ob q⟩,λ_ _ _ n _=>n,λb ob q _=>⟨ob,k b ob q⟩,λ_ _ q=>q,λ_ _ _ q=>q,λ_ _ q=>q⟩
def Un.refl:Un fs ex H H h h:=Un.kept λ_ _ q=>q
def Un.laid(k:∀b u,h.get? b=some u->h'.get? b=some u)(hp:h.objs.size<=a)(hn:H a=none):Un fs ex H (c5 H a o) h h' where
 keep:=λb u q _ _ _=>k b u q
 slot:=λb u q _ _ _=>⟨u.slots,k b u q⟩
 free:=λb u q n _=>by rw[aR (bG (bW (aW q) hp))];exact n
 there:=λb u q _=>⟨u,k b u q⟩
 tups:=λb xs q=>by rw[aR (cK q hn)];exact q
 frzs:=λb u xs q=>by rw[aR (cK q hn)];exact q
 tbls:=λb ps q=>by rw[aR (cK q hn)];exact q
def Un.write(mu:Mut (H x))(he:e=x\/H e=some (.own x))(k:∀b u,b≠e->h.get? b=some u->h'.get? b=some u)(X1:∃u,h'.get? e=some u):Un fs ex H (c5 H x o) h h':=by
 have hx:∀b,H b=none->b≠x:=λb n z=>by subst z;rw[n]at mu;exact mu
 have hb:∀b,H b=none->b≠e:=λb n z=>by
  subst z;rcases he with r | r
  ·exact hx b n r
  ·rw[n]at r;cases r
 have hm:∀b u,H b=some u->¬Mut (some u)->b≠x:=λb u q nm z=>by subst z;rw[q]at mu;exact nm mu
 refine⟨λb u q n _ _=>k b u (hb b n) q,λb u q n _ _=>⟨u.slots,k b u (hb b n) q⟩,λb u q n _=>by rw[aR (hx b n)];exact n,λb u q _=>?_,
  λb xs q=>by rw[aR (hm b _ q λz=>z)];exact q,λb u xs q=>by rw[aR (hm b _ q λz=>z)];exact q,λb ps q=>by rw[aR (hm b _ q λz=>z)];exact q⟩
 by_cases Uu:b=e
 ·subst Uu;exact X1
 ·exact⟨u,k b u Uu q⟩
end
noncomputable def trk(h:Heap)(H:Hp):List Addr:=(List.range h.objs.size).filter λa=>(H a).isSome
def Aw(h:Heap)(H:Hp):Heap:=W.hideAll h (trk h H)
def HV(h:Heap)(H:Hp):(Aw h H).objs.size=h.objs.size:=W.hideAll_size _ _
def hidT_get(e:h.get? b=some o)(n:H b=none):(Aw h H).get? b=some o :=
 W.hideAll_get _ e λhm=>by
  have q:=(gn.mp hm).2;rw[n]at q;simp at q
def of_hidT(e:(Aw h H).get? b=some o):h.get? b=some o/\H b=none:=by
 have e':=W.of_hideAll (trk h H) e;refine⟨e',?_⟩;cases q:H b with
 | none=>rfl
 | some x =>
  have hm:b∈trk h H:=gn.mpr ⟨cD.mpr (aW e'),by simp[q]⟩
  have z:(Aw h H).get? b=none:=W.hideAll_none (trk h H) hm;rw[z]at e;cases e
structure Mod (K:W.Frag) (mg:Str->Option Value) (base:Heap):Prop where
 kin:K.In base
 glob:base.Ns mainGlobals mg
 blt:∃mb,base.Ns builtinsNs mb/\∀x:Str,x≠"__name__"->mb x=bootBuiltins x
 nolimit:base.NoLimit
structure Cx where
 prog:Program
 w:World
 K:W.Frag
 mg:Str->Option Value
 base:Heap
 A:Around
 N:List Str
 s₀:Shared
 aa:Hp
 env:Env
 ay:List Env
 stack:List Env
 ex:List Addr
 fn:Str->Bool
 calm:Bool
 pn:List (Addr×Obj)
 xe:Value->Shared->Prop
noncomputable def oS(l:List Env):List Addr:=l.filterMap (·.frame)
abbrev Cx.fs(X:Cx):List Addr:=oS X.ay
def YF(sc:Scope)(x:Str):Prop:=sc.names.lookup x=some .local\/sc.names.lookup x=some .cell\/sc.names.lookup x=some .free
def Sg(sc:Scope)(x:Str):Prop:=sc.names.lookup x=some .local\/sc.names.lookup x=some .cell
def ac4(env:Env)(h:Heap)(m:Str->Option Value)(x:Str)(u:Value):Prop :=
 (env.kindOf x=some .local/\m x=some u)\/((env.kindOf x=some .cell\/env.kindOf x=some .free)/\∃c,env.cells.lookup x=some c/\h.IsCell c (some u))
def Ax(x:Str):Str:=x++".<locals>."++"<lambda>"
def sW(K:W.Frag)(H:Hp):Prop:=∀x∈dn,∀c T,W.tabIn K x=some (c,T)->H T=some (.DU (Ax x))
structure Cx.Ok (X:Cx):Prop where
 mod:Mod X.K X.mg X.base
 kind:X.env.scope.kind=.function
 glob:X.env.globals=mainGlobals
 blt:X.env.builtins=builtinsNs
 above:X.s₀.heap.objs.size<=X.env.locals
 inj:∀x y c,X.env.cells.lookup x=some c->X.env.cells.lookup y=some c->x=y
 has:∀x,(X.env.kindOf x=some .cell\/X.env.kindOf x=some .free)->∃c,X.env.cells.lookup x=some c
 cab:∀x c,X.fn x=true->X.env.cells.lookup x=some c->X.s₀.heap.objs.size<=c
 hd:X.calm=true->X.A.handled=none
 frames:X.A.frames=some X.stack
 stk:X.stack=X.ay\/(X.stack=X.env::X.ay/\X.env.frame=some X.env.locals)
 exf:∀b∈X.ex,b≠X.env.locals/\∀x c,X.env.cells.lookup x=some c->c≠b
 bs:∀b o,X.base.get? b=some o->X.s₀.heap.get? b=some o/\X.aa b=none
 bsz:X.base.objs.size<=X.s₀.heap.objs.size
 noex:∀b o,X.base.get? b=some o->b∉X.ex
 exfs:∀b∈X.ex,b∉X.fs
 funs:X.s₀.heap.FunFrames X.base X.ay
 frf:∀b∈X.fs,X.aa b=none
 tabs:sW X.K X.aa
structure Inv (X:Cx) (ae:List (Addr×Obj)) (σ:List (Option V)) (H:Hp) (s:Shared):Prop where
 ok:X.Ok
 os:s.os=X.s₀.os
 bare:AllBare s.gens
 base:Un X.fs X.ex X.aa H X.s₀.heap s.heap
 loc:∃m,s.heap.Ns X.env.locals m/\∀(i:Nat) (x:Str) (v:V),X.N[i]?=some x->σ[i]?=some (some v)->YF X.env.scope x->∃u,RelV v u/\ac4 X.env s.heap m x u
 cell:∀x c,X.env.cells.lookup x=some c->∃v,s.heap.IsCell c v
 free:H X.env.locals=none
 freeC:∀x c,X.env.cells.lookup x=some c->H c=none
 pin:∀p∈X.pn++ae,s.heap.get? p.1=some p.2/\H p.1=none/\p.1≠X.env.locals/\p.1∉X.fs/\∀v,p.2.data≠.cell v
 hok:l9 X.prog X.w H s.heap
 len:σ.length=X.N.length
section
variable {X:Cx} {ae:List (Addr×Obj)} {σ:List (Option V)} {H H':Hp} {s:Shared} {h':Heap}
def Cx.Ok.ac5(ok:X.Ok)(e:X.base.get? b=some o):b∉X.fs:=λhb=>by
 have:=(ok.funs.mem hb).1;rw[e]at this;cases this
def Inv.bs(I:Inv X ae σ H s):∀b o,X.base.get? b=some o->s.heap.get? b=some o/\H b=none:=λb o e =>
 ⟨I.base.keep b o (I.ok.bs b o e).1 (I.ok.bs b o e).2 (I.ok.ac5 e) (I.ok.noex b o e),I.base.free b o (I.ok.bs b o e).1 (I.ok.bs b o e).2 (I.ok.noex b o e)⟩
def Inv.bk(I:Inv X ae σ H s):∀b o,X.base.get? b=some o->s.heap.get? b=some o:=λb o e=>(I.bs b o e).1
def Inv.mod(I:Inv X ae σ H s):Mod X.K X.mg X.base:=I.ok.mod
def Inv.sX(I:Inv X ae σ H s):X.K.In s.heap:=I.ok.mod.kin.keeps I.bk
def Inv.lt(I:Inv X ae σ H s):X.env.locals<s.heap.objs.size:=let ⟨_,hn,_⟩:=I.loc;hn.lt
def Inv.sz(I:Inv X ae σ H s):X.s₀.heap.objs.size<=s.heap.objs.size:=br I.ok.above (dz I.lt)
def Inv.ac6(I:Inv X ae σ H s){a:Addr}(h:s.heap.objs.size<=a):a∉X.fs:=λhb=>by
 obtain⟨_,o,ho,_⟩:=I.ok.funs.mem hb;exact absurd (bW (aW ho) (br I.sz h)) (gI _)
def Inv.Uw(I:Inv X ae σ H s):∀x c,X.env.cells.lookup x=some c->c≠X.env.locals:=λx c e z=>by
 obtain⟨v,o,ho,hd⟩:=I.cell x c e;obtain⟨m,⟨o',es,ep,oh,As,_⟩,_⟩:=I.loc;rw[z,oh]at ho;cases ho;rw[As]at hd;cases hd
def Inv.funs(I:Inv X ae σ H s):s.heap.FunFrames X.base X.ay:=by
 have all:∀l,(∀b∈oS l,b∈X.fs)->X.s₀.heap.FunFrames X.base l->s.heap.FunFrames X.base l:=by
  intro l;induction l with
  | nil=>intro _ _;trivial
  | cons env r ih =>
   intro hs hl;obtain⟨hk,⟨L,o,hf,hn,ho,hd⟩,hr⟩:=hl;have hL:=hs L (by unfold oS;rw[sk,hf];exact bg)
   obtain⟨sl,e⟩:=I.base.slot L o ho (I.ok.frf L hL) hL λz=>I.ok.exfs L z hL
   exact⟨hk,⟨L,_,hf,hn,e,hd⟩,ih (λb hb=>hs b (by unfold oS;rw[sk,hf];exact aU _ hb)) hr⟩
 exact all X.ay (λ_ hb=>hb) I.ok.funs
def Inv.stack(I:Inv X ae σ H s):s.heap.FunFrames X.base X.stack:=by
 rcases I.ok.stk with e | ⟨e,hf⟩
 ·rw[e];exact I.funs
 ·rw[e];obtain⟨m,hn,_⟩:=I.loc;refine .cons (by rw[I.ok.kind];decide) hf hn ?_ I.funs
  exact Heap.get?_none_of_le (br I.ok.bsz I.ok.above)
def Inv.xW(I:Inv X ae σ H s):∀b∈oS X.stack,b∈X.env.locals::X.fs:=λb hb=>by
 rcases I.ok.stk with e | ⟨e,hf⟩
 ·rw[e]at hb;exact aU _ hb
 ·rw[e]at hb;unfold oS at hb;rw[sk,hf]at hb;exact hb
def Inv.xX(I:Inv X ae σ H s):∀b∈oS X.stack,H b=none:=λb hb=>by
 rcases aV.mp (I.xW b hb)with e | hb
 ·rw[e];exact I.free
 ·obtain⟨_,o,ho,_⟩:=I.ok.funs.mem hb;exact I.base.free b o ho (I.ok.frf b hb) λz=>I.ok.exfs b z hb
def Inv.tabs(I:Inv X ae σ H s):sW X.K H:=λx hx c T e=>I.base.tbls T _ (I.ok.tabs x hx c T e)
def Inv.step{g':Array GenState}{t':Nat}{d':Drawn}{ch:List Addr}(I:Inv X ae σ H s)
  (Si:∀b∈ch,(b∈X.ex\/X.s₀.heap.objs.size<=b)/\b≠X.env.locals/\(∀x c,X.env.cells.lookup x=some c->c≠b)/\∀p∈X.pn++ae,p.1≠b)
  (keep:∀b o,b≠X.env.locals->b∉X.fs->b∉ch->s.heap.get? b=some o->H b=none->h'.get? b=some o)
  (slot:∀b o,b≠X.env.locals->b∈X.fs->b∉ch->s.heap.get? b=some o->H b=none->∃sl,h'.get? b=some {o with slots:=sl}) (free:∀b o,b∉ch->s.heap.get? b=some o->H b=none->H' b=none)
  (there:∀b o,b∉ch->s.heap.get? b=some o->∃o',h'.get? b=some o')
  (tups:∀b xs,H b=some (.ao xs)->H' b=some (.ao xs)) (frzs:∀b o u,H b=some (.pT o u)->H' b=some (.pT o u)) (tbls:∀b q,H b=some (.DU q)->H' b=some (.DU q))
  (ns:∀m,s.heap.Ns X.env.locals m->h'.Ns X.env.locals m) (hok:l9 X.prog X.w H' h') (hg:AllBare g') :
  Inv X ae σ H' {s with heap:=h',gens:=g',drawn:=d',toks:=t'}:=by
 have neL:∀b o,X.s₀.heap.get? b=some o->b≠X.env.locals:=λb o e=>bG (bW (aW e) I.ok.above)
 have neC:∀b o,X.s₀.heap.get? b=some o->b∉X.ex->b∉ch:=λb o e hx hb=>by
  rcases(Si b hb).1 with z | z
  ·exact hx z
  ·exact absurd (bW (aW e) z) (gI _)
 have cellK:∀x c,X.env.cells.lookup x=some c->∀v,s.heap.IsCell c v->h'.IsCell c v:=by
  rintro x c e v ⟨o,ho,hd⟩
  have YG:c∉ch:=by grind
  by_cases hc:c∈X.fs
  ·obtain⟨sl,q⟩:=slot c o (I.Uw x c e) hc YG ho (I.freeC x c e);exact⟨_,q,hd⟩
  ·exact⟨o,keep c o (I.Uw x c e) hc YG ho (I.freeC x c e),hd⟩
 refine⟨I.ok,I.os,hg,⟨λb o e n hb hx=>?_,λb o e n hb hx=>?_,λb o e n hx=>?_,λb o e hx=>?_,λb xs e=>tups b xs (I.base.tups b xs e),λb o xs e=>frzs b o xs (I.base.frzs b o xs e),λb ps e=>?_⟩,?_,λx c e=>?_,?_,λx c e=>?_,λp hp=>?_,hok,I.len⟩
 ·exact keep b o (neL b o e) hb (neC b o e hx) (I.base.keep b o e n hb hx) (I.base.free b o e n hx)
 ·obtain⟨sl,e1⟩:=I.base.slot b o e n hb hx;obtain⟨YE,e2⟩:=slot b _ (neL b o e) hb (neC b o e hx) e1 (I.base.free b o e n hx);exact⟨YE,e2⟩
 ·obtain⟨o',e1⟩:=I.base.there b o e hx;exact free b o' (neC b o e hx) e1 (I.base.free b o e n hx)
 ·obtain⟨o',e1⟩:=I.base.there b o e hx;exact there b o' (neC b o e hx) e1
 ·exact tbls b ps (I.base.tbls b ps e)
 ·obtain⟨m,hn,hl⟩:=I.loc;refine⟨m,ns m hn,λi x v e1 e2 e3=>?_⟩
  obtain⟨u,r,l⟩:=hl i x v e1 e2 e3;refine⟨u,r,?_⟩;rcases l with l | ⟨k,c,e,z⟩
  ·exact .inl l
  ·exact .inr ⟨k,c,e,cellK x c e _ z⟩
 ·obtain⟨v,z⟩:=I.cell x c e;exact⟨v,cellK x c e v z⟩
 ·obtain⟨m,⟨o,_,_,ho,_⟩,_⟩:=I.loc;exact free _ o (λz=>(Si _ z).2.1 rfl) ho I.free
 ·obtain⟨v,o,ho,hd⟩:=I.cell x c e;exact free c o (λz=>(Si c z).2.2.1 x c e rfl) ho (I.freeC x c e)
 ·obtain⟨e,n,ne,nf,d⟩:=I.pin p hp;have YG:p.1∉ch:=by grind
  exact⟨keep p.1 p.2 ne nf YG e n,free p.1 p.2 YG e n,ne,nf,d⟩
def Inv.un{t':Nat}(I:Inv X ae σ H s)(u:Un X.fs [] H H' s.heap h')(hok:l9 X.prog X.w H' h'):Inv X ae σ H' {s with heap:=h',toks:=t'}:=by
 obtain⟨m,⟨o,es,ep,ho,r⟩,_⟩:=id I.loc;obtain⟨sl,hL⟩:=u.any ho I.free (by simp)
 exact I.step (ch:=[]) (λ_ z=>nomatch z) (λb o _ hb _ e n=>u.keep b o e n hb (by simp)) (λb o _ hb _ e n=>u.slot b o e n hb (by simp)) (λb o _ e n=>u.free b o e n (by simp)) (λb o _ e=>u.there b o e (by simp)) u.tups u.frzs u.tbls (λm' hm=>by
  obtain⟨o',YH,ep',oh,r'⟩:=hm;rw[ho]at oh;cases oh;exact⟨_,YH,ep',hL,r'⟩) hok I.bare
def Inv.call{g':Array GenState}{t':Nat}{d':Drawn}{ch:List Addr}(I:Inv X ae σ H s)(u:Un (oS X.stack) ch H H' s.heap h')(hok:l9 X.prog X.w H' h')(hg:AllBare g')
  (Si:∀b∈ch,(b∈X.ex\/X.s₀.heap.objs.size<=b)/\b≠X.env.locals/\(∀x c,X.env.cells.lookup x=some c->c≠b)/\∀p∈X.pn++ae,p.1≠b) :
  Inv X ae σ H' {s with heap:=h',gens:=g',drawn:=d',toks:=t'}:=by
 obtain⟨m,⟨o,es,ep,ho,r⟩,_⟩:=id I.loc;obtain⟨sl,hL⟩:=u.any ho I.free λz=>(Si _ z).2.1 rfl
 exact I.step Si (λb o hL hb hc e n=>u.keep b o e n (λz=>(aV.mp (I.xW b z)).elim hL hb) hc) (λb o _ _ hc e n=>u.any e n hc) (λb o hc e n=>u.free b o e n hc) (λb o hc e=>u.there b o e hc) u.tups u.frzs u.tbls (λm' hm=>by
  obtain⟨o',YH,ep',oh,r'⟩:=hm;rw[ho]at oh;cases oh;exact⟨_,YH,ep',hL,r'⟩) hok hg
def Inv.turned{t':Nat}(I:Inv X ae σ H s)(k:∀b o,b≠it->s.heap.get? b=some o->h'.get? b=some o)(hn:H it=none)(hL:it≠X.env.locals)
  (h1:it∈X.ex\/X.s₀.heap.objs.size<=it) (h2:∀x c,X.env.cells.lookup x=some c->c≠it) (h3:∀p∈X.pn++ae,p.1≠it):Inv X ae σ H {s with heap:=h',toks:=t'}:=by
 have YI:∀b u,H b=some u->b≠it:=λb u e z=>by rw[z,hn]at e;cases e
 refine I.step (ch:=[it]) (λb hb=>?_) (λb o _ _ hc e _=>k b o (λz=>hc (by simp[z])) e) (λb o _ _ hc e _=>⟨o.slots,k b o (λz=>hc (by simp[z])) e⟩) (λ_ _ _ _ n=>n)
  (λb o hc e=>⟨o,k b o (λz=>hc (by simp[z])) e⟩) (λ_ _ e=>e) (λ_ _ _ e=>e) (λ_ _ e=>e) (λm hm=>?_) (λb u e=>?_) I.bare
 ·have e:b=it:=by simpa using hb
  subst e;exact⟨h1,hL,h2,h3⟩
 ·obtain⟨o,es,ep,ho,r⟩:=hm;exact⟨o,es,ep,k _ o (dU hL) ho,r⟩
 ·refine(I.hok b u e).xV (λc v hc q=>k c v ?_ q) (λ_ q=>q) (λ_ _ q=>q) λ_ _ _ q=>q
  rcases hc with z | z
  ·rw[z];exact YI b u e
  ·exact YI c _ z
def Inv.tok(I:Inv X ae σ H s)(t:Nat):Inv X ae σ H {s with toks:=t}:=I.un Un.refl I.hok
def Inv.kept(I:Inv X ae σ H s)(k:∀b u,s.heap.get? b=some u->h'.get? b=some u):Inv X ae σ H {s with heap:=h',toks:=t'}:=I.un (Un.kept k) (I.hok.kept k)
def Inv.laid{a:Addr}{o:HO}{t':Nat}(I:Inv X ae σ H s)(k:∀b u,s.heap.get? b=some u->h'.get? b=some u)(hp:s.heap.objs.size<=a)(new:gj X.prog X.w (c5 H a o) h' a o) :
  Inv X ae σ (c5 H a o) {s with heap:=h',toks:=t'}:=I.un (Un.laid k hp (I.hok.fresh hp)) (I.hok.laid k hp new)
def Inv.write(I:Inv X ae σ H s)(mu:Mut (H x))(he:e=x\/H e=some (.own x))(k:∀b u,b≠e->s.heap.get? b=some u->h'.get? b=some u)(X1:∃u,h'.get? e=some u)
  (new:gj X.prog X.w (c5 H x o) h' x o):Inv X ae σ (c5 H x o) {s with heap:=h',toks:=t'}:=I.un (Un.write mu he k X1) (I.hok.write mu he k X1 new)
def Inv.mN(I:Inv X ae σ H s)(h:∀p∈YJ,s.heap.get? p.1=some p.2/\H p.1=none/\p.1≠X.env.locals/\p.1∉X.fs/\∀v,p.2.data≠.cell v):Inv X YJ σ H s :=
 ⟨I.ok,I.os,I.bare,I.base,I.loc,I.cell,I.free,I.freeC,λp hp=>(bD.mp hp).elim (λz=>I.pin p (gG _ z)) (h p),I.hok,I.len⟩
def Ay{N:List Str}(hN:N.Nodup){i j:Nat}(a:N[i]?=some x)(b:N[j]?=some x):i=j:=by
 obtain⟨h1,e1⟩:=cz.mp a;obtain⟨h2,e2⟩:=cz.mp b;exact(List.getElem_inj hN).mp (e1.trans e2.symm)
def store_ok2{M:Model}{A:Around}{E:Value->Shared->Prop}{i:Nat}{v:V}{u:Value}{Q:Unit->Shared->Prop}(I:Inv X ae σ H s)(hN:X.N.Nodup)(hi:X.N[i]?=some x)(hx:Sg X.env.scope x)(r:RelV v u)
  (h:∀s',Inv X ae (σ.set i (some v)) H s'->(∃a,Heap.SameBut a s.heap s'.heap/\(a=X.env.locals\/X.env.cells.lookup x=some a))->Q () s') (hf:X.fn x=true\/X.env.scope.names.lookup x=some .local:=by first | exact .inl rfl | exact .inr rfl | assumption):wpAny M A (storeName X.env x u) Q E s:=by
 obtain⟨m,hn,hl⟩:=id I.loc;have ac8:(X.env.scope.kind==.class || (X.env.scope.kind==.module&&X.env.locals != X.env.globals))=false:=by rw[I.ok.kind];rfl
 have YK:i<σ.length:=by rw[I.len];exact(cz.mp hi).1
 have Uw:=I.Uw;have FY:∀{a:Addr} {h':Heap},(∃o,s.heap.get? a=some o/\H a=none)->Heap.SameBut a s.heap h'->l9 X.prog X.w H h':=λ{a h'} ha hs b ob e=>by
  obtain⟨_,_,Az⟩:=ha;refine(I.hok b ob e).xV (λc w' hc q=>(hs.2 c ?_).trans q) (λ_ q=>q) (λ_ _ q=>q) λ_ _ _ q=>q
  rintro rfl
  rcases hc with rfl | hc
  ·grind
  ·grind
 rcases hx with hk | hk
 ·refine wpAny_storeName_local hk hn (λh' YL hs=>?_) ac8
  obtain⟨oL,_,_,Sj,_⟩:=id hn;refine h _ ⟨I.ok,I.os,I.bare,⟨λb o e n hb hx=>?_,λb o e n hb hx=>?_,I.base.free,λb o e hx=>?_,I.base.tups,I.base.frzs,I.base.tbls⟩,⟨_,YL,λj y v' e1 e2 e3=>?_⟩,λy c e=>?_,I.free,I.freeC,λp hp=>?_,FY ⟨oL,Sj,I.free⟩ hs,by simpa using I.len⟩ ⟨_,hs,.inl rfl⟩
  ·exact(hs.2 b (bG (bW (aW e) I.ok.above))).trans (I.base.keep b o e n hb hx)
  ·obtain⟨sl,e1⟩:=I.base.slot b o e n hb hx;exact⟨sl,(hs.2 b (bG (bW (aW e) I.ok.above))).trans e1⟩
  ·obtain⟨o',e1⟩:=I.base.there b o e hx;exact⟨o',(hs.2 b (bG (bW (aW e) I.ok.above))).trans e1⟩
  ·by_cases hj:j=i
   ·subst hj;rw[hi]at e1;cases e1;rw[se YK]at e2;cases e2;exact⟨u,r,.inl ⟨hk,by simp⟩⟩
   ·rw[oy (dU hj)]at e2;obtain⟨u',r',q⟩:=hl j y v' e1 e2 e3;refine⟨u',r',?_⟩;rcases q with⟨k,e⟩ | ⟨k,c,e,z⟩
    ·refine .inl ⟨k,?_⟩;have:y≠x:=λe=>hj (Ay hN e1 (e▸hi))
     simp[this,e]
    ·exact .inr ⟨k,c,e,z.sameBut hs (Uw y c e)⟩
  ·obtain⟨w',z⟩:=I.cell y c e;exact⟨w',z.sameBut hs (Uw y c e)⟩
  ·obtain⟨e,n,ne,nf,d⟩:=I.pin p hp;exact⟨(hs.2 p.1 ne).trans e,n,ne,nf,d⟩
 ·have KD:X.fn x=true:=by
   grind
  obtain⟨c,hc⟩:=I.ok.has x (.inl hk);obtain⟨w',z⟩:=I.cell x c hc;refine wpAny_storeName_cell I.ok.kind hk hc z (λh' J1 hs=>?_)
  obtain⟨oc,hoc,aht⟩:=id z;refine h {s with heap:=h'} ⟨I.ok,I.os,I.bare,⟨λb o e n hb hx=>?_,λb o e n hb hx=>?_,I.base.free,λb o e hx=>?_,I.base.tups,I.base.frzs,I.base.tbls⟩,⟨m,hn.sameBut hs (dU (Uw x c hc)),λj y v' e1 e2 e3=>?_⟩,λy c' e=>?_,I.free,I.freeC,λp hp=>?_,FY ⟨oc,hoc,I.freeC x c hc⟩ hs,by simpa using I.len⟩ ⟨c,hs,.inr hc⟩
  ·exact(hs.2 b (bG (bW (aW e) (I.ok.cab x c KD hc)))).trans (I.base.keep b o e n hb hx)
  ·obtain⟨sl,e1⟩:=I.base.slot b o e n hb hx;exact⟨sl,(hs.2 b (bG (bW (aW e) (I.ok.cab x c KD hc)))).trans e1⟩
  ·obtain⟨o',e1⟩:=I.base.there b o e hx;exact⟨o',(hs.2 b (bG (bW (aW e) (I.ok.cab x c KD hc)))).trans e1⟩
  ·by_cases hj:j=i
   ·subst hj;rw[hi]at e1;cases e1;rw[se YK]at e2;cases e2;exact⟨u,r,.inr ⟨.inl hk,c,hc,J1⟩⟩
   ·rw[oy (dU hj)]at e2;obtain⟨u',r',q⟩:=hl j y v' e1 e2 e3;refine⟨u',r',?_⟩;rcases q with q | ⟨k,c',e,z'⟩
    ·exact .inl q
    ·refine .inr ⟨k,c',e,z'.sameBut hs ?_⟩
     rintro rfl
     exact hj (Ay hN e1 (I.ok.inj _ _ _ e hc▸hi))
  ·by_cases hcc:c'=c
   ·grind
   ·obtain⟨w2,z2⟩:=I.cell y c' e;exact⟨w2,z2.sameBut hs hcc⟩
  ·obtain⟨e,n,ne,nf,d⟩:=I.pin p hp;refine⟨(hs.2 p.1 ?_).trans e,n,ne,nf,d⟩;intro q;rw[q,hoc]at e;have q':=cC e;exact d w' (by grind)
def sY(I:Inv X ae σ H s)(hN:X.N.Nodup)(hi:X.N[i]?=some x)(hx:Sg X.env.scope x)(r:RelV v u)
  (h:∀s',Inv X ae (σ.set i (some v)) H s'->Q () s') (hf:X.fn x=true\/X.env.scope.names.lookup x=some .local:=by first | exact .inl rfl | exact .inr rfl | assumption):wpAny M A (storeName X.env x u) Q E s :=
 store_ok2 I hN hi hx r (λs' I' _=>h s' I') hf
def Inv.Sk(I:Inv X ae σ H s)(ho:s'.os=s.os)(u:Un (oS X.stack) ch H H' s.heap s'.heap)(hok:l9 X.prog X.w H' s'.heap)(hg:AllBare s'.gens)
  (Si:∀b∈ch,(b∈X.ex\/X.s₀.heap.objs.size<=b)/\b≠X.env.locals/\(∀x c,X.env.cells.lookup x=some c->c≠b)/\∀p∈X.pn++ae,p.1≠b):Inv X ae σ H' s':=by
 obtain⟨h',g',d',t',o'⟩:=s';have e:=ho;subst e;exact I.call u hok hg Si
end
abbrev XK:=Value->Option Addr->Hp->Prop
abbrev St:=List (Option V)
abbrev VK:=V->Hp->Prop
abbrev TE:=St->Hp->VK->Prop
abbrev TT:=St->Hp->(Bool->Hp->Prop)->Prop
abbrev TA:=St->Hp->(List V->Hp->Prop)->Prop
structure D0 where
 nx:St->Hp->Prop
 rt:VK
 bk:St->Hp->Prop:=λ_ _=>False
 ct:St->Hp->Prop:=λ_ _=>False
abbrev TS:=D0->St->Hp->Prop
def EP(X:Cx)(ae:List (Addr×Obj))(σ:St)(Q:VK)(u:Value)(s':Shared):Prop:=∃v H',Inv X ae σ H' s'/\RelV v u/\Q v H'
def TP(X:Cx)(ae:List (Addr×Obj))(σ:St)(Q:Bool->Hp->Prop)(b:Bool)(s':Shared):Prop:=∃H',Inv X ae σ H' s'/\Q b H'
def AP(X:Cx)(ae:List (Addr×Obj))(σ:St)(Q:List V->Hp->Prop)(us:List Value)(s':Shared):Prop:=∃vs H',Inv X ae σ H' s'/\Vals vs us/\Q vs H'
def SP(X:Cx)(ae:List (Addr×Obj))(D:D0)(f:Flow)(s':Shared):Prop :=
 match f with
 | .next=>∃bM H',Inv X ae bM H' s'/\D.nx bM H'
 | .brk=>∃bM H',Inv X ae bM H' s'/\D.bk bM H'
 | .cont=>∃bM H',Inv X ae bM H' s'/\D.ct bM H'
 | .ret u=>∃v bM H',Inv X ae bM H' s'/\RelV v u/\D.rt v H'
def PE(X:Cx)(e:Expr)(t:TE):Prop :=
 ∀(ae:List (Addr×Obj)) (s:Shared) (σ:St) (H:Hp) (Q:VK),Inv X ae σ H s->t σ H Q->wpAny (model X.prog X.w) X.A (eval e X.env) (EP X ae σ Q) X.xe s
def PT(X:Cx)(e:Expr)(t:TT):Prop :=
 ∀(ae:List (Addr×Obj)) (s:Shared) (σ:St) (H:Hp) (Q:Bool->Hp->Prop),Inv X ae σ H s->t σ H Q->wpAny (model X.prog X.w) X.A (isTrue e X.env (eval e X.env)) (TP X ae σ Q) X.xe s
def PW(X:Cx)(e:Expr)(t:TT):Prop :=
 ∀(jX:Sem Value) (ae:List (Addr×Obj)) (s:Shared) (σ:St) (H:Hp) (Q:Bool->Hp->Prop),Inv X ae σ H s->t σ H Q->wpAny (model X.prog X.w) X.A (isTrue e X.env jX) (TP X ae σ Q) X.xe s
def PW.pt(h:PW X e t):PT X e t:=h _
def PA(X:Cx)(es:List Expr)(t:TA):Prop :=
 ∀(pos:Pos) (ae:List (Addr×Obj)) (s:Shared) (σ:St) (H:Hp) (Q:List V->Hp->Prop),Inv X ae σ H s->t σ H Q->wpAny (model X.prog X.w) X.A (spliced (backTo pos (starEach es X.env))) (AP X ae σ Q) X.xe s
def PS(X:Cx)(st:Stmt)(t:TS):Prop :=
 ∀(ae:List (Addr×Obj)) (s:Shared) (σ:St) (H:Hp) (D:D0),Inv X ae σ H s->t D σ H->wpAny (model X.prog X.w) X.A (exec st X.env) (SP X ae D) X.xe s
def PSs(X:Cx)(st:List Stmt)(t:TS):Prop :=
 ∀(ae:List (Addr×Obj)) (s:Shared) (σ:St) (H:Hp) (D:D0),Inv X ae σ H s->t D σ H->wpAny (model X.prog X.w) X.A (execs st X.env) (SP X ae D) X.xe s
def thn{α:Type}{t:Sem α}{Q Q':α->Shared->Prop}{M:Model}{A:Around}{E:Value->Shared->Prop}(h:wpAny M A t Q E s)(hQ:∀a s,Q a s->Q' a s):wpAny M A t Q' E s:=kl h hQ λ_ _ x=>x
section
variable {X:Cx}
def bin{a b:Expr}{ta tb:TE}(ha:PE X a ta)(hb:PE X b tb){ae:List (Addr×Obj)}{s:Shared}{σ:St}{H:Hp}{R:V->V->Hp->Prop}(I:Inv X ae σ H s)(h:ta σ H λx H1=>tb σ H1 λy H2=>R x y H2)
  {α:Type} {Q:α->Shared->Prop} {f:Value->Value->Sem α}
  (hf:∀v u s2 x y H2,Inv X ae σ H2 s2->RelV x v->RelV y u->R x y H2->wpAny (model X.prog X.w) X.A (f v u) Q X.xe s2) :
  wpAny (model X.prog X.w) X.A (eval a X.env) (λv s₁=>wpAny (model X.prog X.w) X.A (eval b X.env) (λu AA=>wpAny (model X.prog X.w) X.A (f v u) Q X.xe AA) X.xe s₁) X.xe s:=by
 refine thn (ha ae s σ H _ I h) λv s1 ⟨x,H1,I1,r1,q1⟩=>?_
 refine thn (hb ae s1 σ H1 _ I1 q1) λu s2 ⟨y,H2,I2,r2,q2⟩=>?_
 exact hf v u s2 x y H2 I2 r1 r2 q2
def Ox(i:Nat):TE:=λσ H Q=>∃v,σ[i]?=some (some v)/\Q v H
def tC(v:V):TE:=λ_ H Q=>Q v H
def pe_var{i:Nat}{x:Str}{pos:Pos}(hN:X.N[i]?=some x)(hv:YF X.env.scope x)(hd:(x==("__debug__":Str))=false:=by decide)(FX:(x==("__classdict__":Str))=false:=by decide):PE X (.Name x pos) (Ox i):=by
 intro ae s σ H Q I h;obtain⟨v,e,h⟩:=h;obtain⟨m,hn,hl⟩:=I.loc;obtain⟨u,r,l⟩:=hl i x v hN e hv;have fin:EP X ae σ Q u s:=⟨v,H,I,r,h⟩;rcases l with⟨hk,hm⟩ | ⟨hk,c,hc,kn⟩
 ·exact wpAny_Name (wpAny_loadName_local I.ok.kind hk hn hm fin) hd
 ·rcases hk with hk | hk
  ·exact wpAny_Name (wpAny_loadName_cell I.ok.kind hk hc kn fin) hd
  ·exact wpAny_Name (wpAny_loadName_free I.ok.kind hk hc kn fin FX) hd
def Ux{i j pos}:PE X (.Constant (.int i) j pos) (tC (.int i)):=λ_ _ _ H _ I h=>wpAny_Constant_int ⟨.int i,H,I.tok _,⟨_,rfl⟩,h⟩
def YM{b j pos}:PE X (.Constant (.bool b) j pos) (tC (.bl b)):=λ_ _ _ H _ I h=>Constant_bool ⟨.bl b,H,I,rfl,h⟩
def Uy{j pos}:PE X (.Constant .none j pos) (tC .b9):=λ_ _ _ H _ I h=>Constant_none ⟨.b9,H,I,rfl,h⟩
def Uz{x j pos}:PE X (.Constant (.str x) j pos) (tC (.str x)):=λ_ _ _ H _ I h=>Calls.Constant_str ⟨.str x,H,I.tok _,⟨_,rfl⟩,h⟩
def Gl(X:Cx)(x:Str):Prop:=X.env.kindOf x=some .globalImplicit
def ld_glob{E:Value->Shared->Prop}{ae:List (Addr×Obj)}{s:Shared}{σ:St}{H:Hp}{x:Str}{u:Value}{pos:Pos}{Q:Value->Shared->Prop}(I:Inv X ae σ H s)(hg:Gl X x)(hm:X.mg x=some u)(h:Q u s)
  (hd:(x==("__debug__":Str))=false:=by decide):wpAny (model X.prog X.w) X.A (eval (.Name x pos) X.env) Q E s :=
 Kh I.ok.kind hg (Calls.loadGlobal_global (by rw[I.ok.glob];exact I.mod.glob.keeps I.bk) hm h) hd
def ld_blt{E:Value->Shared->Prop}{ae:List (Addr×Obj)}{s:Shared}{σ:St}{H:Hp}{x:Str}{u:Value}{pos:Pos}{Q:Value->Shared->Prop}(I:Inv X ae σ H s)(hg:Gl X x)(hm:X.mg x=none)(hv:bootBuiltins x=some u)(h:Q u s)
  (hn:x≠"__name__":=by decide) (hd:(x==("__debug__":Str))=false:=by decide):wpAny (model X.prog X.w) X.A (eval (.Name x pos) X.env) Q E s:=by
 obtain⟨mb,h1,h2⟩:=I.mod.blt;exact Kh I.ok.kind hg (Calls.loadGlobal_builtin (by rw[I.ok.glob];exact I.mod.glob.keeps I.bk) hm (by rw[I.ok.blt];exact h1.keeps I.bk) ((h2 x hn).trans hv) h) hd
def FZ(hg:Gl X x)(hm:X.mg x=some u)(r:RelV v u)(hd:(x==("__debug__":Str))=false:=by decide):PE X (.Name x pos) (tC v) :=
 λ_ _ _ H _ I h=>ld_glob I hg hm ⟨v,H,I,r,h⟩ hd
def Oy{x:Str}{v:V}{u:Value}{pos:Pos}(hg:Gl X x)(hm:X.mg x=none)(hv:bootBuiltins x=some u)(r:RelV v u)(hn:x≠"__name__":=by decide)(hd:(x==("__debug__":Str))=false:=by decide):PE X (.Name x pos) (tC v) :=
 λ_ _ _ H _ I h=>ld_blt I hg hm hv ⟨v,H,I,r,h⟩ hn hd
variable {a b:Expr} {ta tb:TE} {pos:Pos}
variable {tA tB':TT} {rest:List Expr}
def ada(t u:TT):TT:=λσ H Q=>t σ H λc H1=>if c=true then u σ H1 Q else Q false H1
def tOr(t u:TT):TT:=λσ H Q=>t σ H λc H1=>if c=true then Q true H1 else u σ H1 Q
def adb(t:TT):TT:=λσ H Q=>t σ H λc H1=>Q (!c) H1
def Oz(ha:PT X a tA):PW X (.BoolOp .And [a] pos) tA:=by
 intro wh ae s σ H Q I h;refine isTrue_and (thn (ha ae s σ H Q I h) λc s1 e=>?_)
 cases c with
 | true=>exact isTrue_and_nil e
 | false=>exact e
def UA(ha:PT X a tA):PW X (.BoolOp .Or [a] pos) tA:=by
 intro wh ae s σ H Q I h;refine isTrue_or (thn (ha ae s σ H Q I h) λc s1 e=>?_)
 cases c with
 | false=>exact isTrue_or_nil e
 | true=>exact e
def UB(ha:PT X a tA)(hb:PW X (.BoolOp .And (b::rest) pos) tB'):PW X (.BoolOp .And (a::b::rest) pos) (ada tA tB'):=by
 intro wh ae s σ H Q I h;refine isTrue_and (thn (ha ae s σ H _ I h) λc s1 ⟨H1,I1,q1⟩=>?_)
 cases c with
 | true=>exact hb wh ae s1 σ H1 Q I1 q1
 | false=>exact⟨H1,I1,q1⟩
def YN(ha:PT X a tA)(hb:PW X (.BoolOp .Or (b::rest) pos) tB'):PW X (.BoolOp .Or (a::b::rest) pos) (tOr tA tB'):=by
 intro wh ae s σ H Q I h;refine isTrue_or (thn (ha ae s σ H _ I h) λc s1 ⟨H1,I1,q1⟩=>?_)
 cases c with
 | true=>exact⟨H1,I1,q1⟩
 | false=>exact hb wh ae s1 σ H1 Q I1 q1
def UC(ha:PT X a tA):PT X (.UnaryOp .Not a pos) (adb tA):=by
 intro ae s σ H Q I h;exact isTrue_not (ha ae s σ H (λc H1=>Q (!c) H1) I h)
def YO(ta:TE):TE:=λσ H Q=>ta σ H λx H1=>∃c,x=.bl c/\Q (.bl (!c)) H1
def KH{op}(h:PE X a t):PE X (.BoolOp op [a] pos) t:=λae s σ H Q I hw=>BoolOp_one (h ae s σ H Q I hw)
def UD(ha:PE X a ta):PE X (.UnaryOp .Not a pos) (YO ta):=by
 intro ae s σ H Q I h;refine UnaryOp_ (thn (ha ae s σ H _ I h) λv s1 ⟨x,H1,I1,r1,q1⟩=>?_)
 obtain⟨c,rfl,q1⟩:=q1;cases r1;exact not_of (lY ⟨.bl (!c),H1,I1,rfl,q1⟩)
def tIf(t:TT)(ta tb:TE):TE:=λσ H Q=>t σ H λc H1=>if c=true then ta σ H1 Q else tb σ H1 Q
def KI(hc:PT X c tA)(ha:PE X a ta)(hb:PE X b tb):PE X (.IfExp c a b pos) (tIf tA ta tb):=by
 intro ae s σ H Q I h;refine wpAny_IfExp (thn (hc ae s σ H _ I h) λd s1 ⟨H1,I1,q1⟩=>?_)
 cases d with
 | true=>exact ha ae s1 σ H1 Q I1 q1
 | false=>exact hb ae s1 σ H1 Q I1 q1
end
def xY(K:W.Frag)(H:Hp)(a:Addr)(xs:List V):Prop :=
 Rd H a (.lst xs) \/
  ∃(o:Obj) (aG:Array Value) (n:Nat),K.lookup a=some o/\o.cls=.type "list"/\o.dict=none/\o.data=.seq aG n/\aG.size<=sizeLine/\Vals xs aG.toList
def kP.sq{K:W.Frag}{H:Hp}{a:Addr}{xs:List V}(h:kP K H a xs):xY K H a xs:=by
 rcases h with h | ⟨aG,n,e,z,r⟩
 ·exact .inl h
 ·exact .inr ⟨_,aG.toArray,n,e,rfl,rfl,rfl,by grind,by grind⟩
noncomputable def ade:Value->Option V
 | .none=>some .b9
 | .bool b=>some (.bl b)
 | .int i _=>some (.int i)
 | .str x _=>some (.str x)
 | .bytes b _=>some (.XZ b)
 | .float b _=>some (.flt b)
 | .ref a=>some (.ref a)
 | .type n=>some (.ty n)
 | _=>none
def RelV.abs(r:RelV x u):ade u=some x:=by
 cases x with
 | b9=>cases r;rfl
 | bl _=>cases r;rfl
 | int _=>obtain⟨t,rfl⟩:=r;rfl
 | str _=>obtain⟨t,rfl⟩:=r;rfl
 | XZ _=>obtain⟨t,rfl⟩:=r;rfl
 | flt _=>obtain⟨t,rfl⟩:=r;rfl
 | ref _=>cases r;rfl
 | ty _=>cases r;rfl
def RelV.inj(r:RelV x u)(q:RelV y u):x=y:=cC (r.abs.symm.trans q.abs)
theorem Vals.inj:∀{xs ys:List V} {us:List Value},Vals xs us->Vals ys us->xs=ys
 | _,_,_,.nil,.nil=>rfl
 | _,_,_,.cons r t,.cons r' t'=>by rw[r.inj r',Vals.inj t t']
section
variable {X:Cx} {ae:List (Addr×Obj)} {σ:St} {H:Hp} {s:Shared} {a:Addr} {xs ys:List V}
def jm.of{K:W.Frag}(h:H a=some (.ao xs)):jm K H a xs:=.inl (.inl h)
def Inv.list(I:Inv X ae σ H s)(h:xY X.K H a xs):∃aG:List Value,Vals xs aG/\PlainL s.heap a aG.toArray/\xs.length<=sizeLine:=by
 rcases h with h | ⟨o,aG,n,hk,hc,hd,hs,hz,r⟩
 ·obtain⟨z,aG,n,r,e⟩:=h.ok I.hok;exact⟨aG,r,⟨_,n,e,rfl,rfl,rfl⟩,z⟩
 ·refine⟨aG.toList,r,⟨o,n,I.sX a o hk,hc,hd,by simp_all⟩,?_⟩
  have e:=r.length;simp only[cY]at e
  lia
def Inv.tuple(I:Inv X ae σ H s)(h:jm X.K H a xs):∃aG:List Value,Vals xs aG/\IsTup s.heap a aG.toArray/\xs.length<=sizeLine:=by
 rcases h with h | ⟨o,aG,n,hk,hc,hs,hz,r⟩
 ·obtain⟨z,aG,r,p⟩:=h.ok I.hok;exact⟨aG,r,p,z⟩
 ·refine⟨aG.toList,r,⟨o,I.sX a o hk,hc,n,by simp_all⟩,?_⟩
  have e:=r.length;simp only[cY]at e
  lia
def Inv.mO(I:Inv X ae σ H s)(h:xY X.K H a xs)(h':xY X.K H a ys):xs=ys:=by
 obtain⟨aG,r,⟨o,n,e,_,_,d⟩,_⟩:=I.list h;obtain⟨qA,r',⟨o',n',e',_,_,d'⟩,_⟩:=I.list h';rw[e]at e';cases e';rw[d]at d';injection d' with d1 _
 have:aG=qA:=by grind
 subst this;exact r.inj r'
def Inv.kQ(I:Inv X ae σ H s)(h:jm X.K H a xs)(h':jm X.K H a ys):xs=ys:=by
 obtain⟨aG,r,⟨o,e,_,n,d⟩,_⟩:=I.tuple h;obtain⟨qA,r',⟨o',e',_,n',d'⟩,_⟩:=I.tuple h';rw[e]at e';cases e';rw[d]at d';injection d' with d1 _
 have:aG=qA:=by grind
 subst this;exact r.inj r'
end
section
variable {X:Cx} {st:Stmt} {rest:List Stmt} {t u:TS} {e:Expr} {te:TE} {pos:Pos}
def Sl:TS:=λD σ H=>D.nx σ H
def adf(t u:TS):TS:=λD σ H=>t {D with nx:=u D} σ H
def OA:PSs X [] Sl:=λ_ _ σ H _ I h=>xG ⟨σ,H,I,h⟩
def KJ(h1:PS X st t)(h2:PSs X rest u):PSs X (st::rest) (adf t u):=by
 intro ae s σ H D I h;refine wpAny_execs_cons (thn (h1 ae s σ H {D with nx:=u D} I h) λf s1 q=>?_)
 cases f with
 | next =>
  obtain⟨bM,H',I',q⟩:=q;exact h2 ae s1 bM H' D I' q
 | ret v=>exact q
 | brk=>exact q
 | cont=>exact q
def OB(h1:PS X st t):PSs X [st] t:=by
 intro ae s σ H D I h;refine wpAny_execs_cons (thn (h1 ae s σ H D I h) λf s1 q=>?_)
 cases f with
 | next=>exact xG q
 | ret v=>exact q
 | brk=>exact q
 | cont=>exact q
def UE:TS:=λD σ H=>D.bk σ H
def YQ:TS:=λD σ H=>D.ct σ H
def OC:PS X (.Pass pos) Sl:=λ_ _ σ H _ I h=>wpAny_Pass ⟨σ,H,I,h⟩
def KN:PS X (.Break pos) UE:=λ_ _ σ H _ I h=>wpAny_Break ⟨σ,H,I,h⟩
def AB:PS X (.Continue pos) YQ:=λ_ _ σ H _ I h=>wpAny_Continue ⟨σ,H,I,h⟩
def Inv.quiet{ae:List (Addr×Obj)}{σ:St}{H:Hp}{s:Shared}(I:Inv X ae σ H s):interactive X.env=false:=by simp[interactive,I.ok.kind]
def YR(te:TE):TS:=λD σ H=>te σ H λ_ H1=>D.nx σ H1
def OD(he:PE X e te)(hs:swapsWith e none pos.line X.env=pure false:=by rfl):PS X (.Expr e pos) (YR te):=by
 intro ae s σ H D I h;exact wpAny_Expr_any (thn (he ae s σ H _ I h) (by rintro v s1 ⟨x,H1,I1,r1,q1⟩;exact⟨σ,H1,I1,q1⟩)) I.quiet hs
def adg(te:TE):TS:=λD σ H=>te σ H D.rt
def UG(he:PE X e te):PS X (.Return (some e) pos) (adg te):=by
 intro ae s σ H D I h;exact wpAny_Return_some (thn (he ae s σ H _ I h) (by rintro v s1 ⟨x,H1,I1,r1,q1⟩;exact⟨x,σ,H1,I1,r1,q1⟩))
def YS:TS:=λD _ H=>D.rt .b9 H
def OF:PS X (.Return none pos) YS:=λ_ _ σ H _ I h=>wpAny_Return_none ⟨.b9,σ,H,I,rfl,h⟩
def adh(c:TT)(t u:TS):TS:=λD σ H=>c σ H λb H1=>if b=true then t D σ H1 else u D σ H1
def YT(hc:PT X c tc)(ha:PSs X a t)(hb:PSs X b u):PS X (.If c a b pos) (adh tc t u):=by
 intro ae s σ H D I h;refine wpAny_If (thn (hc ae s σ H _ I h) λd s1 ⟨H1,I1,q1⟩=>?_)
 cases d with
 | true=>exact ha ae s1 σ H1 D I1 q1
 | false=>exact hb ae s1 σ H1 D I1 q1
end
abbrev TG:=V->St->Hp->(St->Hp->Prop)->Prop
abbrev UH:=List V->St->Hp->(St->Hp->Prop)->Prop
def PG(X:Cx)(target:Expr)(t:TG):Prop :=
 ∀(ae:List (Addr×Obj)) (s:Shared) (σ:St) (H:Hp) (v:V) (u:Value) (Q:St->Hp->Prop),Inv X ae σ H s->RelV v u->t v σ H Q ->
  wpAny (model X.prog X.w) X.A (assign target X.env u) (λ_ s'=>∃bM H',Inv X ae bM H' s'/\Q bM H') X.xe s
def PGs(X:Cx)(ts:List Expr)(t:UH):Prop :=
 ∀(ae:List (Addr×Obj)) (s:Shared) (σ:St) (H:Hp) (vs:List V) (us:List Value) (Q:St->Hp->Prop),Inv X ae σ H s->Vals vs us->t vs σ H Q ->
  wpAny (model X.prog X.w) X.A (assignInOrder ((assignEach ts X.env).map (·.2)) us) (λ_ s'=>∃bM H',Inv X ae bM H' s'/\Q bM H') X.xe s
abbrev KO:=V->V->V->Hp->(Hp->Prop)->Prop
def KP(X:Cx)(t:KO):Prop :=
 ∀(ae:List (Addr×Obj)) (s:Shared) (σ:St) (H:Hp) (o i v:V) (ov iv u:Value) (Q:Hp->Prop),Inv X ae σ H s->RelV o ov->RelV i iv->RelV v u->t o i v H Q ->
  wpAny (model X.prog X.w) X.A (setItem ov iv u) (λ_ s'=>∃H',Inv X ae σ H' s'/\Q H') X.xe s
abbrev TIp:=V->V->Hp->VK->Prop
def PIp(X:Cx)(op:Operator)(t:TIp):Prop :=
 ∀(ae:List (Addr×Obj)) (s:Shared) (σ:St) (H:Hp) (x y:V) (v u:Value) (Q:VK),Inv X ae σ H s->RelV x v->RelV y u->t x y H Q ->
  wpAny (model X.prog X.w) X.A (inplaceOp op v u) (EP X ae σ Q) X.xe s
section
variable {X:Cx} {pos:Pos}
def gName(i:Nat):TG:=λv σ H Q=>Q (σ.set i (some v)) H
def OG(hN:X.N.Nodup)(hi:X.N[i]?=some x)(hx:Sg X.env.scope x)(hf:X.fn x=true\/X.env.scope.names.lookup x=some .local:=by first | exact .inl rfl | exact .inr rfl | assumption):PG X (.Name x pos) (gName i):=by
 intro ae s σ H v u Q I r h;exact wpAny_assign_Name (sY I hN hi hx r (λs' I'=>⟨_,H,I',h⟩) hf)
def adi:UH:=λvs σ H Q=>vs=[]/\Q σ H
def YU(t:TG)(u:UH):UH:=λvs σ H Q=>∃v r,vs=v::r/\t v σ H λbM H'=>u r bM H' Q
def OH:PGs X [] adi:=by
 intro ae s σ H vs us Q I r h;obtain⟨e,h⟩:=h;subst e;cases r;exact assignInOrder_nil ⟨σ,H,I,h⟩
def KQ(h1:PG X e t)(h2:PGs X es u)
  (hs:(assignEach (e::es) X.env).map (·.2)=assign e X.env::(assignEach es X.env).map (·.2):=by rfl):PGs X (e::es) (YU t u):=by
 intro ae s σ H vs us Q I r h;obtain⟨v,vr,e1,h⟩:=h;subst e1;cases r with
 | cons r rr =>
  rw[hs];refine assignInOrder_cons (thn (h1 ae s σ H _ _ _ I r h) λ_ s1 ⟨jL,H1,I1,q1⟩=>?_)
  exact h2 ae s1 jL H1 _ _ Q I1 rr q1
def adj(K:W.Frag)(n:Nat)(t:UH):TG:=λv σ H Q=>∃a xs,v=.ref a/\jm K H a xs/\xs.length=n/\t xs σ H Q
def UI{es:List Expr}{k:Nat}{t:UH}{n:Nat}(hc:X.calm=true)(h:PGs X es t)
  (hn:(assignEach es X.env).length=n:=by rfl) (qB:(assignEach es X.env).findIdx? (·.1)=none:=by rfl):PG X (.Tuple es k pos) (adj X.K n t):=by
 intro ae s σ H v u Q I r hw;obtain⟨a,xs,e1,hq,hl,hw⟩:=hw;subst e1;cases r;obtain⟨aG,rv,ht,hz⟩:=I.tuple hq;refine assign_Tuple_tuple (I.ok.hd hc) ht (by simp[hn,<-hl,rv.length]) qB λh' hx=>?_
 have I1:=I.kept (t':=s.toks) λb o e=>hx b o (bG (aW e)) e
 exact h ae _ σ H xs _ Q I1 (by grind) hw
def adk(to ti:TE)(t:KO):TG:=λv σ H Q=>to σ H λo H1=>ti σ H1 λi H2=>t o i v H2 λH3=>Q σ H3
def UJ(ho:PE X o to)(hi:PE X i ti)(hs:KP X t)
  (ha:∀v,assign (.Subscript o i pos) X.env v=(do
   let ov <-holding [v] (eval o X.env)
   let iv <-holding [v,ov] (eval i X.env)
   standAt pos
   holding [v,ov,iv] (setItem ov iv v)
   release [v,ov,iv] []):=by intro _;rfl):PG X (.Subscript o i pos) (adk to ti t):=by
 intro ae s σ H v u Q I r h;rw[ha];refine af (eS (thn (ho ae s σ H _ I h) λov s1 ⟨x,H1,I1,r1,q1⟩=>?_))
 refine af (eS (thn (hi ae s1 σ H1 _ I1 q1) λiv s2 ⟨y,H2,I2,r2,q2⟩=>?_))
 refine af (wpAny_standAt (af (eS (thn (hs ae s2 σ H2 x y v ov iv u _ I2 r1 r2 r q2) λ_ s3 ⟨H3,I3,q3⟩=>?_))))
 exact wpAny_release ⟨σ,H3,I3,q3⟩
def OI(te:TE)(g:TG):TS:=λD σ H=>te σ H λx H1=>g x σ H1 D.nx
def KR(he:PE X e te)(hg:PG X tg g)(hs:swapsWithSole [tg] e pos.line X.env=pure false:=by rfl)(hw:swappedStores [tg] e X.env=pure none:=by rfl)
  (h1:(assignEach [tg] X.env).map (·.2)=[assign tg X.env]:=by rfl):PS X (.Assign [tg] e pos) (OI te g):=by
 intro ae s σ H D I h;refine wpAny_Assign_stores (thn (he ae s σ H _ I h) λv s1 ⟨x,H1,I1,r1,q1⟩=>?_) hs hw
 rw[h1];exact thn (hg ae s1 σ H1 x v _ I1 r1 q1) λ_ s2 q=>q
def UK(hN:X.N.Nodup)(hi:X.N[i]?=some x)(hx:Sg X.env.scope x)(he:PE X e te)(hs:swapsWith e (some (.Name x vi)) pos.line X.env=pure false:=by rfl)(hf:X.fn x=true\/X.env.scope.names.lookup x=some .local:=by first | exact .inl rfl | exact .inr rfl | assumption) :
  PS X (.Assign [.Name x vi] e pos) (OI te (gName i)):=by
 intro ae s σ H D I h;refine wpAny_Assign_Name (thn (he ae s σ H _ I h) λv s1 ⟨y,H1,I1,r1,q1⟩=>?_) hs
 exact sY I1 hN hi hx r1 (λs2 I2=>⟨_,H1,I2,q1⟩) hf
def adl(i:Nat)(te:TE)(ti:TIp):TS:=λD σ H=>∃x,σ[i]?=some (some x)/\te σ H λy H1=>ti x y H1 λz H2=>D.nx (σ.set i (some z)) H2
def UL(hN:X.N.Nodup)(hi:X.N[i]?=some x)(hx:Sg X.env.scope x)(he:PE X e te)(ho:PIp X op ti)(hf:X.fn x=true\/X.env.scope.names.lookup x=some .local:=by first | exact .inl rfl | exact .inr rfl | assumption) :
  PS X (.AugAssign (.Name x vi) op e pos) (adl i te ti):=by
 intro ae s σ H D I h;obtain⟨v,e1,h⟩:=h;obtain⟨m,hn,hl⟩:=I.loc;have OJ:YF X.env.scope x:=by rcases hx with k | k;exact .inl k;exact .inr (.inl k)
 obtain⟨u,r,l⟩:=hl i x v hi e1 OJ;refine wpAny_AugAssign_Name ?_;have go:wpAny (model X.prog X.w) X.A (eval e X.env) (λw AA=>wpAny (model X.prog X.w) X.A (inplaceOp op u w) (λr adm=>wpAny (model X.prog X.w) X.A (storeName X.env x r) (λ_=>SP X ae D .next) X.xe adm) X.xe AA) X.xe s:=by
  refine thn (he ae s σ H _ I h) λw s1 ⟨y,H1,I1,r1,q1⟩=>?_
  refine thn (ho ae s1 σ H1 v y u w _ I1 r r1 q1) λz s2 ⟨zv,H2,I2,r2,q2⟩=>?_
  exact sY I2 hN hi hx r2 (λs3 I3=>⟨_,H2,I3,q2⟩) hf
 rcases l with⟨hk,hm⟩ | ⟨hk,c,hc,kn⟩
 ·exact wpAny_loadName_local I.ok.kind hk hn hm go
 ·rcases hk with hk | hk
  ·exact wpAny_loadName_cell I.ok.kind hk hc kn go
  ·rcases hx with k | k
   ·have:X.env.scope.names.lookup x=some .free:=hk;rw[k]at this;cases this
   ·have:X.env.scope.names.lookup x=some .free:=hk;rw[k]at this;cases this
end
section
variable {X:Cx} {pos:Pos}
def UM(c:TT)(tb:TS):TS:=λD σ H=>∃W:Nat->St->Hp->Prop,(∃m,W m σ H)/\∀m σ H,W m σ H ->
 c σ H λb H1=>if b=true then ∃N:St->Hp->Prop,(∀bM H',N bM H'->∃m',m'<m/\W m' bM H')/\tb {D with nx:=N,ct:=N,bk:=D.nx} σ H1 else D.nx σ H1
def KU(hp:PassesOwn (model X.prog X.w) X.A X.env X.xe)(hc:PT X c tc)(hb:PSs X body tb):PS X (.While c body [] pos) (UM tc tb):=by
 intro ae s σ H D I h;obtain⟨W,⟨m0,w0⟩,mP⟩:=h;refine wpAny_While (codeAny_whileLoop (λn s'=>∃bM H',Inv X ae bM H' s'/\W n bM H') ?_ m0 ⟨σ,H,I,w0⟩)
 rintro n s1 ⟨jL,H1,I1,w1⟩
 refine lZ hp (thn (hc ae s1 jL H1 _ I1 (mP n jL H1 w1)) λb s2 ⟨H2,I2,q2⟩=>?_)
 cases b with
 | true =>
  obtain⟨N,hN,q2⟩:=q2;rw[if_pos rfl];refine lZ hp (thn (hb ae s2 jL H2 _ I2 q2) λf s3 q3=>?_)
  cases f with
  | next =>
   obtain⟨qC,H3,I3,n3⟩:=q3;obtain⟨m',hm,w3⟩:=hN qC H3 n3;exact⟨m',hm,qC,H3,I3,w3⟩
  | cont =>
   obtain⟨qC,H3,I3,n3⟩:=q3;obtain⟨m',hm,w3⟩:=hN qC H3 n3;exact⟨m',hm,qC,H3,I3,w3⟩
  | brk=>exact q3
  | ret v=>exact q3
 | false =>
  rw[if_neg dc];exact xG ⟨jL,H2,I2,q2⟩
end
structure It where
 go:Nat->Hp->Prop
 yld:Nat->Hp->V->Hp->Prop
 stop:Nat->Hp->Prop
def xZ(X:Cx)(ae:List (Addr×Obj))(H:Hp)(b:Addr):Prop :=
 H b=none/\b≠X.env.locals/\b∉X.fs/\(b∈X.ex\/X.s₀.heap.objs.size<=b)/\(∀x c,X.env.cells.lookup x=some c->c≠b)/\∀p∈X.pn++ae,p.1≠b
def Inv.KW{X:Cx}{ae:List (Addr×Obj)}{σ:St}{H H':Hp}{s:Shared}{b:Addr}(I:Inv X ae σ H s)(hb:s.heap.objs.size<=b)(hn:H' b=none):xZ X ae H' b:=by
 refine⟨hn,sN (bW I.lt hb),I.ac6 hb,.inr (br I.sz hb),λx c e z=>?_,λp hp z=>?_⟩
 ·obtain⟨v,q⟩:=I.cell x c e;exact absurd (bW q.lt (by grind)) (gI _)
 ·exact absurd (bW (aW (I.pin p hp).1) (by grind)) (gI _)
structure Turn (P:Program) (w:World) (K:W.Frag) (tg:Expr) (J:It) (fp:List Addr) (it:Addr) (tn:Nat->Heap->Prop):Prop where
 mem:it∈fp
 obj:∀i h,tn i h->∀b∈fp,∃o,h.get? b=some o/\∀v,o.data≠.cell v
 keep:∀i h h',tn i h->(∀b∈fp,∀o,h.get? b=some o->h'.get? b=some o)->tn i h'
 item:∀(X:Cx),X.prog=P->X.w=w->X.K=K->X.calm=true->∀(i:Nat) (ae:List (Addr×Obj)) (s:Shared) (σ:St) (H:Hp) (E:Value->Shared->Prop),Inv X ae σ H s->(∀b∈fp,xZ X ae H b)->tn i s.heap->J.go i H ->
  wpAny (model P w) X.A (pyNext (.ref it)) (λr s1=>∃u,r=some u /\
   wpAny (model P w) X.A (letOwnedTupleGo tg (.ref it) u) (λ_ s2=>∃x H',Inv X ae σ H' s2/\RelV x u/\J.yld i H x H'/\tn (i+1) s2.heap/\∀b∈fp,H' b=none) E s1) E s
 done:∀(X:Cx),X.prog=P->X.w=w->X.K=K->X.calm=true->∀(i:Nat) (ae:List (Addr×Obj)) (s:Shared) (σ:St) (H:Hp) (E:Value->Shared->Prop),Inv X ae σ H s->(∀b∈fp,xZ X ae H b)->tn i s.heap->J.stop i H ->
  wpAny (model P w) X.A (pyNext (.ref it)) (λr s1=>r=none/\Inv X ae σ H s1) E s
 self:∀(A:Around) (i:Nat) (s:Shared) (Q:Value->Shared->Prop) (E:Value->Shared->Prop),tn i s.heap->Q (.ref it) s->wpAny (model P w) A (pyIter (.ref it)) Q E s
abbrev TI:=St->Hp->(It->Hp->Prop)->Prop
def PIE(X:Cx)(ae:List (Addr×Obj))(σ:St)(tg:Expr)(R:It->Hp->Prop)(itv:Value)(s2:Shared):Prop :=
 ∃(it:Addr) (fp:List Addr) (tn:Nat->Heap->Prop) (J:It) (H':Hp),itv=.ref it/\Inv X ae σ H' s2/\Turn X.prog X.w X.K tg J fp it tn/\tn 0 s2.heap/\(∀b∈fp,xZ X ae H' b)/\R J H'
def PI(X:Cx)(tg iter:Expr)(wi:TI):Prop :=
 ∀(ae:List (Addr×Obj)) (s:Shared) (σ:St) (H:Hp) (R:It->Hp->Prop),Inv X ae σ H s->wi σ H R ->
  wpAny (model X.prog X.w) X.A (eval iter X.env) (λv s1=>wpAny (model X.prog X.w) X.A (pyIter v) (PIE X ae σ tg R) X.xe s1) X.xe s
def KY(ho:s.heap.get? it=some o)(hc:o.cls=.type n)(hd:o.data=.fields vs)
  (hn:["enumerate","zip","dict_itemiterator","dict_reverseitemiterator","odict_iterator","itertools.zip_longest","itertools.pairwise"].contains n=false) (hQ:Q () s):wpAny M A (letOwnedTupleGo tg (.ref it) u) Q E s:=by
 unfold letOwnedTupleGo;cases tg<;>first
  | exact aj hQ
  | (cases u<;>first
    | exact aj hQ
    | (refine af (wpAny_load ho ?_)
       rw[hc,hd];show wpAny M A (if(["enumerate","zip","dict_itemiterator","dict_reverseitemiterator","odict_iterator","itertools.zip_longest","itertools.pairwise"].contains n&&vs[0]?==some (rawInt _))=true then _ else _) Q E s
       rw[if_neg (by grind)]
       exact aj hQ))
def Itl(K:W.Frag)(a:Addr):It :=
 ⟨λi H=>∃xs x,xY K H a xs/\xs[i]?=some x,λi H x H'=>H'=H/\∀xs,xY K H a xs->xs[i]?=some x,λi H=>∃xs,xY K H a xs/\xs.length<=i⟩
def Itt(K:W.Frag)(a:Addr):It :=
 ⟨λi H=>∃xs x,jm K H a xs/\xs[i]?=some x,λi H x H'=>H'=H/\∀xs,jm K H a xs->xs[i]?=some x,λi H=>∃xs,jm K H a xs/\xs.length<=i⟩
def Itr(lo:Int)(n:Nat):It:=⟨λi _=>i<n,λi H x H'=>H'=H/\x=.int (lo+i),λi _=>n<=i⟩
def HW{P:Program}{w:World}{K:W.Frag}{tg:Expr}(a it:Addr):Turn P w K tg (Itl K a) [it] it (λi h=>h.IsListIter it a i) where
 mem:=by simp
 obj:=λi h st b hb=>by
  have e:b=it:=by grind
  subst e;obtain⟨o,e,c,d⟩:=st;exact⟨o,e,λv z=>by grind⟩
 keep:=λi h h' st k=>st.at λo e=>k it (by simp) o e
 item:=by
  intro X hP hw hK hc i ae s σ H E I hf st hg;subst hP hw hK;obtain⟨xs,x,hq,hx⟩:=hg;obtain⟨aG,rv,p,hz⟩:=I.list hq;obtain⟨u,hu,ru⟩:=rv.get hx;obtain⟨f0,f1,f2,f3,f4,f5⟩:=hf it (by simp)
  refine wpAny_pyNext_list_item st p.isList (by simpa using hu) λh' az sb=>?_
  have I1:=I.turned (t':=s.toks) (λb o hb e=>(sb.2 b hb).trans e) f0 f1 f3 f4 f5
  obtain⟨o,e,c,d⟩:=id az;exact⟨u,rfl,KY e c d (by decide) ⟨x,H,I1,ru,⟨rfl,λys hy=>by rw[I.mO hy hq];exact hx⟩,az,λb hb=>(hf b hb).1⟩⟩
 done:=by
  intro X hP hw hK hc i ae s σ H E I hf st hg;subst hP hw hK;obtain⟨xs,hq,hx⟩:=hg;obtain⟨aG,rv,p,hz⟩:=I.list hq;obtain⟨f0,f1,f2,f3,f4,f5⟩:=hf it (by simp)
  have hl:=rv.length;exact wpAny_pyNext_list_end (I.ok.hd hc) st p.isList (by simp;lia) λh' eb=>⟨rfl,I.turned (λb o hb e=>eb b o hb e) f0 f1 f3 f4 f5⟩
 self:=λ_ _ _ _ _ st h=>wpAny_pyIter_listiter st h
def D1{P:Program}{w:World}{K:W.Frag}{tg:Expr}(a it:Addr):Turn P w K tg (Itt K a) [it] it (λi h=>h.IsTupleIter it a i) where
 mem:=by simp
 obj:=λi h st b hb=>by
  have e:b=it:=by grind
  subst e;obtain⟨o,e,c,d⟩:=st;exact⟨o,e,λv z=>by grind⟩
 keep:=λi h h' st k=>st.at λo e=>k it (by simp) o e
 item:=by
  intro X hP hw hK hc i ae s σ H E I hf st hg;subst hP hw hK;obtain⟨xs,x,hq,hx⟩:=hg;obtain⟨aG,rv,p,hz⟩:=I.tuple hq;obtain⟨u,hu,ru⟩:=rv.get hx;obtain⟨f0,f1,f2,f3,f4,f5⟩:=hf it (by simp)
  refine wpAny_pyNext_tuple_item st (p) (by simpa using hu) λh' az sb=>?_
  have I1:=I.turned (t':=s.toks) (λb o hb e=>(sb.2 b hb).trans e) f0 f1 f3 f4 f5
  obtain⟨o,e,c,d⟩:=id az;exact⟨u,rfl,KY e c d (by decide) ⟨x,H,I1,ru,⟨rfl,λys hy=>by rw[I.kQ hy hq];exact hx⟩,az,λb hb=>(hf b hb).1⟩⟩
 done:=by
  intro X hP hw hK hc i ae s σ H E I hf st hg;subst hP hw hK;obtain⟨xs,hq,hx⟩:=hg;obtain⟨aG,rv,p,hz⟩:=I.tuple hq;obtain⟨f0,f1,f2,f3,f4,f5⟩:=hf it (by simp)
  have hl:=rv.length;exact wpAny_pyNext_tuple_end (I.ok.hd hc) st (p) (by simp;lia) λh' eb=>⟨rfl,I.turned (λb o hb e=>eb b o hb e) f0 f1 f3 f4 f5⟩
 self:=λ_ _ _ _ _ st h=>wpAny_pyIter_tupleiter st h
def D2{P:Program}{w:World}{K:W.Frag}{tg:Expr}(it:Addr)(lo:Int)(n:Nat):Turn P w K tg (Itr lo n) [it] it (λi h=>IsRangeIter h it (lo+(i:Nat)*1) ((n:Int)-(i:Nat)) 1) where
 mem:=by simp
 obj:=λi h st b hb=>by
  grind
 keep:=λi h h' st k=>k it (by simp) _ st
 item:=by
  intro X hP hw hK hc i ae s σ H E I hf st hg;subst hP hw hK;obtain⟨f0,f1,f2,f3,f4,f5⟩:=hf it (by simp)
  have W:=Walks.range (prog:=X.prog) (w:=X.w) (I.ok.hd hc) it lo 1 n;refine W.item i s _ _ hg st λv h' tk hv az kk=>?_
  obtain⟨t,rfl⟩:=hv;have I1:Inv X ae σ H {s with heap:=h',toks:=tk}:=I.turned (λb o hb e=>kk b o (by grind) e) f0 f1 f3 f4 f5
  refine⟨_,rfl,KY az rfl rfl (by decide) ⟨.int (lo+i),H,I1,⟨t,?_⟩,⟨rfl,rfl⟩,az,λb hb=>(hf b hb).1⟩⟩
  rw[Int.mul_one]
 done:=by
  intro X hP hw hK hc i ae s σ H E I hf st hg;subst hP hw hK;obtain⟨f0,f1,f2,f3,f4,f5⟩:=hf it (by simp)
  exact wpAny_pyNext_range_end (I.ok.hd hc) st (by have:n<=i:=hg;lia) λh' eb=>⟨rfl,I.turned (λb o hb e=>eb b o hb e) f0 f1 f3 f4 f5⟩
 self:=λ_ _ _ _ _ st h=>wpAny_pyIter_rangeiter st h
section
variable {X:Cx} {tg:Expr}
def YV(K:W.Frag)(tl:TE):TI:=λσ H R=>tl σ H λx H1=>∃a,x=.ref a/\(∃xs,xY K H1 a xs)/\R (Itl K a) H1
def adp(K:W.Frag)(tl:TE):TI:=λσ H R=>tl σ H λx H1=>∃a,x=.ref a/\(∃xs,jm K H1 a xs)/\R (Itt K a) H1
def F6{l:Expr}{tl:TE}(hl:PE X l tl):PI X tg l (YV X.K tl):=by
 intro ae s σ H R I h;refine thn (hl ae s σ H _ I h) λv s1 ⟨x,H1,I1,r1,q1⟩=>?_
 obtain⟨a,e,⟨xs,hq⟩,q⟩:=q1;subst e;cases r1;obtain⟨aG,rv,p,hz⟩:=I1.list hq;refine DG p.isList ?_;refine⟨s1.heap.objs.size,[s1.heap.objs.size],_,_,H1,rfl,I1.kept λb o e=>bj _ e,HW a _,⟨_,cJ _ rfl,rfl,rfl⟩,λb hb=>?_,q⟩
 have e:b=s1.heap.objs.size:=by grind
 subst e;exact I1.KW (aq _) (I1.hok.fresh (aq _))
def KZ{l:Expr}{tl:TE}(hl:PE X l tl):PI X tg l (adp X.K tl):=by
 intro ae s σ H R I h;refine thn (hl ae s σ H _ I h) λv s1 ⟨x,H1,I1,r1,q1⟩=>?_
 obtain⟨a,e,⟨xs,hq⟩,q⟩:=q1;subst e;cases r1;obtain⟨aG,rv,p,hz⟩:=I1.tuple hq;refine DC (p) ?_;refine⟨s1.heap.objs.size,[s1.heap.objs.size],_,_,H1,rfl,I1.kept λb o e=>bj _ e,D1 a _,⟨_,cJ _ rfl,rfl,rfl⟩,λb hb=>?_,q⟩
 have e:b=s1.heap.objs.size:=by grind
 subst e;exact I1.KW (aq _) (I1.hok.fresh (aq _))
def K1{ae:List (Addr×Obj)}{σ:St}{H:Hp}{s:Shared}{R:It->Hp->Prop}{E:Value->Shared->Prop}{lo hi:Int}{t u v:Tok}{tk:Nat}(I:Inv X ae σ H s)(h1:-(2^62)<=lo)(h2:lo<2^62)(h3:-(2^62)<=hi)(h4:hi<2^62)
  (q:R (Itr lo (hi-lo).toNat) H):wpAny (model X.prog X.w) X.A (pyIter (.ref s.heap.objs.size)) (PIE X ae σ tg R) E {s with heap:=s.heap.push {cls:=.type "range",data:=.fields #[.int lo t,.int hi u,.int 1 v]},toks:=tk}:=by
 refine wpAny_pyIter_range (IsRange.new ..) (small_one h1 h2 h3 h4) ?_;have I1:Inv X ae σ H {s with heap:=s.heap.push {cls:=.type "range",data:=.fields #[.int lo t,.int hi u,.int 1 v]},toks:=tk}:=I.kept λb o e=>bj _ e
 refine⟨(s.heap.push {cls:=.type "range",data:=.fields #[.int lo t,.int hi u,.int 1 v]}).objs.size,[(s.heap.push {cls:=.type "range",data:=.fields #[.int lo t,.int hi u,.int 1 v]}).objs.size],_,_,H,rfl,
  I1.kept λb o e=>bj _ e,D2 _ lo (hi-lo).toNat,?_,λb hb=>?_,q⟩
 ·have e1:lo+(0:Nat)*1=lo:=by simp
  have e2:(((hi-lo).toNat:Nat):Int)-(0:Nat)=Builtin.Range.rangeSize lo hi 1:=by rw[rangeSize_one];split<;>lia
  rw[e1,e2];exact cJ _ rfl
 ·have e:b=(s.heap.push {cls:=.type "range",data:=.fields #[.int lo t,.int hi u,.int 1 v]}).objs.size:=by grind
  subst e;exact I1.KW (aq _) (I1.hok.fresh (aq _))
def YW(ta:TA):TI:=λσ H R=>ta σ H λvs H1=>∃j:Int,vs=[.int j] /\ -(2^62)<=j/\j<2^62/\R (Itr 0 j.toNat) H1
def HX{a:Expr}{ta:TA}{p pos:Pos}(hg:Gl X "range")(hm:X.mg "range"=none)(ha:PA X [a] ta)(hs:starEach [a] X.env=[(false,eval a X.env)]:=by rfl):PI X tg (.Call (.Name "range" p) [a] [] pos) (YW ta):=by
 intro ae s σ H R I h;refine Call_ (ld_blt I hg hm boot_range (lV (thn (ha pos ae s σ H _ I h) λus s1 ⟨vs,H1,I1,r1,q1⟩=>?_) hs rfl))
 obtain⟨j,e,q1,q2,q⟩:=q1;subst e;cases r1 with
 | cons r rr =>
  cases rr;obtain⟨t,rfl⟩:=r;exact call_range_1 (K1 I1 (by lia) (by lia) q1 q2 (by grind))
def adq(wi:TI)(g:TG)(tb:TS):TS:=λD σ H=>wi σ H λJ H1=>∃W:Nat->Nat->St->Hp->Prop,(∃m,W 0 m σ H1)/\∀i m σ H,W i m σ H ->
 (J.stop i H/\D.nx σ H)\/(J.go i H/\∃N:St->Hp->Prop,(∀bM H',N bM H'->∃m',m'<m/\W (i+1) m' bM H')/\∀x H',J.yld i H x H'->g x σ H' λF7 H2=>tb {D with nx:=N,ct:=N,bk:=D.nx} F7 H2)
def sZ(fp:List Addr)(h:Heap):List (Addr×Obj):=fp.filterMap λb=>(h.get? b).map λo=>(b,o)
def jM(hb:b∈fp)(e:h.get? b=some o):(b,o)∈sZ fp h:=sv.mpr ⟨b,hb,by rw[e];rfl⟩
def HY(hp:p∈sZ fp h):p.1∈fp/\h.get? p.1=some p.2:=by
 obtain⟨b,hb,e⟩:=sv.mp hp;cases q:h.get? b with
 | none=>rw[q]at e;cases e
 | some o =>
  rw[q]at e;have e':=cC e;subst e';exact⟨hb,q⟩
def Inv.pinned{ae:List (Addr×Obj)}{σ:St}{H:Hp}{s:Shared}{fp:List Addr}(I:Inv X ae σ H s)(hf:∀b∈fp,xZ X ae H b)(ho:∀b∈fp,∃o,s.heap.get? b=some o/\∀v,o.data≠.cell v):Inv X (ae++sZ fp s.heap) σ H s :=
 I.mN λp hp=>(bD.mp hp).elim (λz=>I.pin p (dO _ z)) λz=>by
  obtain⟨hb,e⟩:=HY z;obtain⟨f0,f1,f2,_⟩:=hf p.1 hb;obtain⟨o,e',d⟩:=ho p.1 hb;rw[e]at e';cases e';exact⟨e,f0,f1,f2,d⟩
def Inv.s9{ae pl:List (Addr×Obj)}{σ:St}{H:Hp}{s:Shared}(I:Inv X (ae++pl) σ H s):Inv X ae σ H s:=I.mN λp hp=>I.pin p (dO _ (gG _ hp))
def UN(hp:PassesOwn (model X.prog X.w) X.A X.env X.xe)(hc:X.calm=true)(hi:PI X tg iter wi)(hg:PG X tg g)(hb:PSs X body tb)
  (hs:∀x,foldedSetIterable iter X.env x=pure x:=by intro _;rfl):PS X (.For tg iter body [] pos) (adq wi g tb):=by
 intro ae s σ H D I h;refine wpAny_For (thn (hi ae s σ H _ I h) λv s1 h1=>thn h1 λitv s2 h2=>?_) hs
 obtain⟨it,fp,tn,J,H2,e,I2,T,st2,f2,W,⟨m0,w0⟩,mP⟩:=h2;subst e;have D3:∀{H':Hp},(∀b∈fp,H' b=none)->∀b∈fp,xZ X ae H' b:=λhn b hb=>⟨hn b hb,(f2 b hb).2⟩
 refine codeAny_forLoop_any (λn s'=>∃i bM H',Inv X ae bM H' s'/\tn i s'.heap/\(∀b∈fp,H' b=none)/\W i n bM H') ?_ m0 ⟨0,σ,H2,I2,st2,λb hb=>(f2 b hb).1,w0⟩
 rintro n s3 ⟨i,qC,H3,I3,vO,fr3,w3⟩
 rcases mP i n qC H3 w3 with⟨stop,qn⟩ | ⟨go,N,hN,step⟩
 ·refine lZ hp (thn (T.done X rfl rfl rfl hc i ae s3 qC H3 X.xe I3 (D3 fr3) vO stop) λr s4 ⟨hr,I4⟩=>?_)
  subst hr;exact xG ⟨qC,H3,I4,qn⟩
 ·refine lZ hp (thn (T.item X rfl rfl rfl hc i ae s3 qC H3 X.xe I3 (D3 fr3) vO go) λr s4 ⟨u,hr,h4⟩=>?_)
  subst hr;refine lZ hp (thn h4 λ_ s5 z9=>?_)
  obtain⟨x,H5,I5,r5,y5,UO,fr5⟩:=z9;have I5':=I5.pinned (D3 fr5) (T.obj _ _ UO);refine lZ hp (thn (hg _ s5 qC H5 x u _ I5' r5 (step x H5 y5)) λ_ s6 ⟨σ6,H6,I6,q6⟩=>?_)
  refine lZ hp (thn (hb _ s6 σ6 H6 _ I6 q6) λf s7 q7=>?_)
  have again:∀{K2:St} {H7:Hp},Inv X (ae++sZ fp s5.heap) K2 H7 s7->N K2 H7->∃m,m<n/\∃i bM H',Inv X ae bM H' s7/\tn i s7.heap/\(∀b∈fp,H' b=none)/\W i m bM H':=λ{K2 H7} I7 n7=>by
   obtain⟨m',hm,w7⟩:=hN K2 H7 n7;refine⟨m',hm,i+1,K2,H7,I7.s9,T.keep _ _ _ UO λb hb o e=>(I7.pin (b,o) (dO _ (dO _ (jM hb e)))).1,λb hb=>?_,w7⟩
   obtain⟨o,e,d⟩:=T.obj _ _ UO b hb;exact(I7.pin (b,o) (dO _ (dO _ (jM hb e)))).2.1
  cases f with
  | next=>obtain⟨K2,H7,I7,n7⟩:=q7;exact again I7 n7
  | cont=>obtain⟨K2,H7,I7,n7⟩:=q7;exact again I7 n7
  | brk=>obtain⟨K2,H7,I7,q7⟩:=q7;exact⟨K2,H7,I7.s9,q7⟩
  | ret v=>obtain⟨x7,K2,H7,I7,r7,q7⟩:=q7;exact⟨x7,K2,H7,I7.s9,r7,q7⟩
end
abbrev R2:=V->V->Hp->VK->Prop
def OpR(X:Cx)(f:Value->Value->Sem Value)(r:R2):Prop :=
 ∀(ae:List (Addr×Obj)) (s:Shared) (σ:St) (H:Hp) (x y:V) (v u:Value) (Q:VK),Inv X ae σ H s->RelV x v->RelV y u->r x y H Q ->
  wpAny (model X.prog X.w) X.A (f v u) (EP X ae σ Q) X.xe s
def UnR(X:Cx)(f:Value->Sem Value)(r:V->Hp->VK->Prop):Prop :=
 ∀(ae:List (Addr×Obj)) (s:Shared) (σ:St) (H:Hp) (x:V) (v:Value) (Q:VK),Inv X ae σ H s->RelV x v->r x H Q ->
  wpAny (model X.prog X.w) X.A (f v) (EP X ae σ Q) X.xe s
def mQ(X:Cx)(f:Value)(r:List V->Hp->VK->Prop):Prop :=
 ∀(ae:List (Addr×Obj)) (s:Shared) (σ:St) (H:Hp) (xs:List V) (us:List Value) (Q:VK),Inv X ae σ H s->Vals xs us->r xs H Q ->
  wpAny (model X.prog X.w) X.A (call f us) (EP X ae σ Q) X.xe s
def adu(X:Cx)(r:V->Hp->(Bool->Hp->Prop)->Prop):Prop :=
 ∀(ae:List (Addr×Obj)) (s:Shared) (σ:St) (H:Hp) (x:V) (v:Value) (Q:Bool->Hp->Prop),Inv X ae σ H s->RelV x v->r x H Q ->
  wpAny (model X.prog X.w) X.A (truthy v) (TP X ae σ Q) X.xe s
def X2(r:R2)(ta tb:TE):TE:=λσ H Q=>ta σ H λx H1=>tb σ H1 λy H2=>r x y H2 Q
def tUn(r:V->Hp->VK->Prop)(ta:TE):TE:=λσ H Q=>ta σ H λx H1=>r x H1 Q
def rI(C:Int->Int->Prop)(g:Int->Int->V):R2:=λx y H Q=>∃i j,x=.int i/\y=.int j/\C i j/\Q (g i j) H
def OK(g:Int->Int->V):R2:=λx y H Q=>∃i j,x=.int i/\y=.int j/\Q (g i j) H
def rU(g:Int->V):V->Hp->VK->Prop:=λx H Q=>∃i,x=.int i/\Q (g i) H
section
variable {X:Cx} {a b c:Expr} {ta tb tc:TE} {pos:Pos}
def OL(ha:PE X a ta)(hb:PE X b tb){ae:List (Addr×Obj)}{s:Shared}{σ:St}{H:Hp}{R:V->V->Hp->Prop}(I:Inv X ae σ H s)
  (h:ta σ H λx H1=>tb σ H1 λy H2=>R x y H2) {Q:Value->Shared->Prop} {f:Value->Value->Sem Value}
  (hf:∀v u s2 x y H2,Inv X ae σ H2 s2->RelV x v->RelV y u->R x y H2->wpAny (model X.prog X.w) X.A (f v u) Q X.xe s2) :
  wpAny (model X.prog X.w) X.A (eval a X.env) (λv s₁=>wpAny (model X.prog X.w) X.A (eval b X.env) (λu AA=>wpAny (model X.prog X.w) X.A (f v u) Q X.xe AA) X.xe s₁) X.xe s:=by
 refine thn (ha ae s σ H _ I h) λv s1 ⟨x,H1,I1,r1,q1⟩=>?_
 refine thn (hb ae s1 σ H1 _ I1 q1) λu s2 ⟨y,H2,I2,r2,q2⟩=>?_
 exact hf v u s2 x y H2 I2 r1 r2 q2
def YX(ho:OpR X (binaryOp op) r)(ha:PE X a ta)(hb:PE X b tb):PE X (.BinOp a op b pos) (X2 r ta tb):=by
 intro ae s σ H Q I h;exact wpAny_BinOp (OL ha hb I h λv u s2 x y H2 I2 rx ry q=>ho ae s2 σ H2 x y v u Q I2 rx ry q)
def YY{r:V->Hp->VK->Prop}(ho:UnR X (unaryOp op) r)(ha:PE X a ta):PE X (.UnaryOp op a pos) (tUn r ta):=by
 intro ae s σ H Q I h;exact UnaryOp_ (thn (ha ae s σ H _ I h) (by rintro v s1 ⟨x,H1,I1,r1,q1⟩;exact ho ae s1 σ H1 x v Q I1 r1 q1))
def opI{f:Value->Value->Sem Value}{C:Int->Int->Prop}{g:Int->Int->Int}
  (rule:∀(i j:Int) (t u:Tok) (s:Shared) (Q:Value->Shared->Prop) (E:Value->Shared->Prop),C i j->Q (.int (g i j) s.toks) {s with toks:=s.toks+1}->wpAny (model X.prog X.w) X.A (f (.int i t) (.int j u)) Q E s) :
  OpR X f (rI C λi j=>.int (g i j)):=by
 intro ae s σ H x y v u Q I rx ry h;obtain⟨i,j,rfl,rfl,hc,q⟩:=h;obtain⟨t,rfl⟩:=rx;obtain⟨t',rfl⟩:=ry;exact rule i j t t' s _ _ hc ⟨.int (g i j),H,I.tok _,⟨_,rfl⟩,q⟩
def UP{f:Value->Value->Sem Value}{g:Int->Int->Int}
  (rule:∀(i j:Int) (t u:Tok) (s:Shared) (Q:Value->Shared->Prop) (E:Value->Shared->Prop),Q (.int (g i j) s.toks) {s with toks:=s.toks+1}->wpAny (model X.prog X.w) X.A (f (.int i t) (.int j u)) Q E s) :
  OpR X f (OK λi j=>.int (g i j)):=by
 intro ae s σ H x y v u Q I rx ry h;obtain⟨i,j,rfl,rfl,q⟩:=h;obtain⟨t,rfl⟩:=rx;obtain⟨t',rfl⟩:=ry;exact rule i j t t' s _ _ ⟨.int (g i j),H,I.tok _,⟨_,rfl⟩,q⟩
def UQ{f:Value->Value->Sem Value}{g:Int->Int->Bool}
  (rule:∀(i j:Int) (t u:Tok) (s:Shared) (Q:Value->Shared->Prop) (E:Value->Shared->Prop),Q (.bool (g i j)) s->wpAny (model X.prog X.w) X.A (f (.int i t) (.int j u)) Q E s) :
  OpR X f (OK λi j=>.bl (g i j)):=by
 intro ae s σ H x y v u Q I rx ry h;obtain⟨i,j,rfl,rfl,q⟩:=h;obtain⟨t,rfl⟩:=rx;obtain⟨t',rfl⟩:=ry;exact rule i j t t' s _ _ ⟨.bl (g i j),H,I,rfl,q⟩
def adv(i j:Int):Prop:=0<j/\j<1073741824
def adw(i j:Int):Prop:=0<=j/\j<=1000000/\i.natAbs<2^64
def UR(i j:Int):Prop:=(-(2^64)<i/\i<2^64)\/(-(2^64)<j/\j<2^64)
def UR.ok(h:UR i j):IntMulOk i j:=by
 rcases h with⟨h1,h2⟩ | ⟨h1,h2⟩
 ·exact .of_left (intBits_le_64 h1 h2)
 ·exact .of_right (intBits_le_64 h1 h2)
def US:OpR X (binaryOp .Add) (OK λi j=>.int (i+j)):=UP λ_ _ _ _ _ _ _ q=>add_int q
def UT:OpR X (binaryOp .Sub) (OK λi j=>.int (i-j)):=UP λ_ _ _ _ _ _ _ q=>sub_int q
def UU:OpR X (binaryOp .Mult) (rI UR λi j=>.int (i*j)):=opI λ_ _ _ _ _ _ _ hc q=>mul_int q hc.ok
def OM:OpR X (binaryOp .FloorDiv) (rI adv λi j=>.int (i/j)):=opI λi j _ _ _ _ _ hc q=>by
 have h1:=hc.1;have h2:=hc.2;exact floordiv_int (by lia) (by rw[Int.fdiv_eq_ediv_of_nonneg i (by lia)];exact q) (.inl (PyProof.noPylong_small (by lia)))
def UW:OpR X (binaryOp .Mod) (rI (λ_ j=>0<j) λi j=>.int (i%j)):=opI λi j _ _ _ _ _ hc q=>by
 have h1:=hc;exact mod_int' (by lia) (by rw[Int.fmod_eq_emod_of_nonneg i (by lia)];exact q)
def UX:OpR X (binaryOp .Pow) (rI adw λi j=>.int (i^j.toNat)):=opI λ_ _ _ _ _ _ _ hc q=>pow_int_small hc.1 hc.2.1 hc.2.2 q
def ON:OpR X (inplaceOp .Add) (OK λi j=>.int (i+j)):=UP λ_ _ _ _ _ _ _ q=>iadd_int q
def unI{f:Value->Sem Value}{g:Int->Int}
  (rule:∀(i:Int) (t:Tok) (s:Shared) (Q:Value->Shared->Prop) (E:Value->Shared->Prop),Q (.int (g i) s.toks) {s with toks:=s.toks+1}->wpAny (model X.prog X.w) X.A (f (.int i t)) Q E s) :
  UnR X f (rU λi=>.int (g i)):=by
 intro ae s σ H x v Q I rx h;obtain⟨i,rfl,q⟩:=h;obtain⟨t,rfl⟩:=rx;exact rule i t s _ _ ⟨.int (g i),H,I.tok _,⟨_,rfl⟩,q⟩
def UY:UnR X (unaryOp .USub) (rU λi=>.int (-i)):=unI λ_ _ _ _ _ q=>neg_int q
end
section
variable {X:Cx} {a b c:Expr} {ta tb tc:TE} {pos:Pos}
def UZ{ae:List (Addr×Obj)}{σ:St}{H:Hp}{s:Shared}{Q:VK}{k k':Bool}(I:Inv X ae σ H s)(q:Q (.bl k) H)(e:k=k'):EP X ae σ Q (.bool k') s:=by
 subst e;exact⟨.bl k,H,I,rfl,q⟩
def YZ:OpR X (compareOp .Lt) (OK λi j=>.bl (decide (i<j))):=UQ λ_ _ _ _ _ _ _ q=>lt_int q
def Y0:OpR X (compareOp .LtE) (OK λi j=>.bl (decide (i<=j))):=UQ λ_ _ _ _ _ _ _ q=>le_int q
def Y1:OpR X (compareOp .GtE) (OK λi j=>.bl (decide (j<=i))):=UQ λ_ _ _ _ _ _ _ q=>ge_int q
def U0:OpR X (compareOp .Is) (λx y H Q=>y=.b9/\Q (.bl (decide (x=.b9))) H):=by
 intro ae s σ H x y v u Q I rx ry h;obtain⟨rfl,q⟩:=h;cases ry;refine is_none_gen (UZ I q ?_);cases x<;>first
  | (cases rx;rfl)
  | (obtain⟨t,rfl⟩:=rx;rfl)
def OP(ho:OpR X (compareOp op) r)(ha:PE X a ta)(hb:PE X b tb)(hm:behindInMarks op b=false):PE X (.Compare a [op] [b] pos) (X2 r ta tb):=by
 intro ae s σ H Q I h;exact wpAny_Compare1 (OL ha hb I h λv u s2 x y H2 I2 rx ry q=>ho ae s2 σ H2 x y v u Q I2 rx ry q) hm
def Sn(t:TE):TT:=λσ H Q=>t σ H λx H'=>∃k,x=.bl k/\Q k H'
def OQ(ho:OpR X (compareOp op) r)(ha:PE X a ta)(hb:PE X b tb)(hm:behindInMarks op b=false):PT X (.Compare a [op] [b] pos) (Sn (X2 r ta tb)):=by
 intro ae s σ H Q I h;refine wpAny_isTrue_Compare1 (thn (ha ae s σ H _ I h) λv s1 ⟨x,H1,I1,r1,q1⟩=>thn (hb ae s1 σ H1 _ I1 q1) λu s2 ⟨y,H2,I2,r2,q2⟩ =>
  thn (ho ae s2 σ H2 x y v u _ I2 r1 r2 q2) λc s3 ⟨z,H3,I3,r3,k,e,q3⟩=>?_) hm
 subst e;cases r3;exact lY ⟨H3,I3,q3⟩
def D4(r r':R2)(ta tb tc:TE):TE:=λσ H Q=>ta σ H λx H1=>tb σ H1 λy H2=>r x y H2 λz H3=>∃k,z=.bl k /\
 (if k=true then tc σ H3 λw' H4=>r' y w' H4 Q else Q (.bl false) H3)
def K3(ho:OpR X (compareOp op) r)(oh:OpR X (compareOp Ae) r')(ha:PE X a ta)(hb:PE X b tb)(hc:PE X c tc)
  (hm:lastMarks [op,Ae] [b,c]=false:=by with_unfolding_all rfl):PE X (.Compare a [op,Ae] [b,c] pos) (D4 r r' ta tb tc):=by
 intro ae s σ H Q I h;refine Compare_chain (thn (ha ae s σ H _ I h) λv s1 ⟨x,H1,I1,r1,q1⟩=>chain_link (thn (hb ae s1 σ H1 _ I1 q1) λu s2 ⟨y,H2,I2,r2,q2⟩ =>
  thn (ho ae s2 σ H2 x y v u _ I2 r1 r2 q2) λd s3 ⟨z,H3,I3,r3,k,e,q3⟩=>?_)) hm
 subst e;cases r3;refine lY ?_;cases k with
 | false=>exact ite_ff ⟨.bl false,H3,I3,rfl,q3⟩
 | true=>exact ite_tt (chain_last (thn (hc ae s3 σ H3 _ I3 q3) (by rintro w' s4 ⟨z',H4,I4,r4,q4⟩;exact oh ae s4 σ H4 y z' u w' Q I4 r2 r4 q4)))
def K4(ho:OpR X (compareOp op) r)(oh:OpR X (compareOp Ae) r')(ha:PE X a ta)(hb:PE X b tb)(hc:PE X c tc)
  (hm:lastMarks [op,Ae] [b,c]=false:=by with_unfolding_all rfl):PT X (.Compare a [op,Ae] [b,c] pos) (Sn (D4 r r' ta tb tc)):=by
 intro ae s σ H Q I h;refine isTrue_chain (thn (ha ae s σ H _ I h) λv s1 ⟨x,H1,I1,r1,q1⟩=>test_link (thn (hb ae s1 σ H1 _ I1 q1) λu s2 ⟨y,H2,I2,r2,q2⟩ =>
  thn (ho ae s2 σ H2 x y v u _ I2 r1 r2 q2) λd s3 ⟨z,H3,I3,r3,k,e,q3⟩=>?_)) hm
 subst e;cases r3;refine lY ?_;cases k with
 | false =>
  obtain⟨k',e',q'⟩:=q3;cases e';exact ite_ff ⟨H3,I3,q'⟩
 | true =>
  refine ite_tt (test_last (thn (hc ae s3 σ H3 _ I3 q3) λw' s4 ⟨z',H4,I4,r4,q4⟩=>thn (oh ae s4 σ H4 y z' u w' _ I4 r2 r4 q4) λd' s5 z9=>?_))
  obtain⟨z2,H5,I5,r5,k2,e2,q5⟩:=z9;subst e2;cases r5;exact lY ⟨H5,I5,q5⟩
def OR(K:W.Frag)(x:V)(H:Hp)(k:Bool):Prop :=
 match x with
 | .b9=>k=false
 | .bl b=>k=b
 | .int i=>k=(i != 0)
 | .str y=>y.length<=sizeLine/\k=((y.length:Int) != 0)
 | .XZ y=>y.size<=sizeLine/\k=((y.size:Int) != 0)
 | .ref p=>(∃xs,xY K H p xs/\k = !xs.isEmpty)\/(∃xs,jm K H p xs/\k = !xs.isEmpty)\/∃kvs,H p=some (.dK kvs)/\k = !kvs.isEmpty
 | _=>False
def D5{κ:Type}{kvs:List (κ×V)}{vs:List (κ×Value)}(r:KV kvs vs):(!vs.isEmpty) = !kvs.isEmpty:=by
 cases r<;>rfl
def td(r:Vals xs aG):(!aG.toArray.isEmpty) = !xs.isEmpty:=by
 cases r<;>simp
def me:(sizeLine:Nat)<2^63:=by rw[xP];decide
def K5:adu X (λx H Q=>∃k,OR X.K x H k/\Q k H):=by
 intro ae s σ H x v Q I rx h;obtain⟨k,e,q⟩:=h;have hl:=me;have hs:=xP;cases x with
 | b9 =>
  cases rx;have e':=e;subst e';exact truthy_none ⟨H,I,q⟩
 | bl b =>
  cases rx;have e':=e;subst e';exact lY ⟨H,I,q⟩
 | int i =>
  obtain⟨t,rfl⟩:=rx;have e':=e;subst e';exact PySem.P.truthy_int ⟨H,I,q⟩
 | str y =>
  obtain⟨t,rfl⟩:=rx;obtain⟨hy,e'⟩:y.length<=sizeLine/\k=((y.length:Int) != 0):=e;subst e';exact PySem.P.truthy_str (by lia) ⟨H,I.tok _,q⟩
 | XZ y =>
  obtain⟨t,rfl⟩:=rx;obtain⟨hy,e'⟩:y.size<=sizeLine/\k=((y.size:Int) != 0):=e;subst e';exact W.truthy_bytes (by lia) ⟨H,I.tok _,q⟩
 | ref p =>
  cases rx;have e':=e;rcases e' with⟨xs,hx,e'⟩ | ⟨xs,hx,e'⟩ | ⟨kvs,hx,e'⟩
  ·subst e';obtain⟨aG,r,pl,hz⟩:=I.list hx;have eF:=r.length;exact wpAny_truthy_list pl.isList (by grind) ⟨H,I.tok _,by rw[td r];exact q⟩
  ·subst e';obtain⟨aG,r,pl,hz⟩:=I.tuple hx;have eF:=r.length;exact truthy_tuple pl (by grind) ⟨H,I.tok _,by rw[td r];exact q⟩
  ·subst e';obtain⟨hz,hS,vs,r,m⟩:kvs.length<=sizeLine/\(p==sysModules)=false/\∃vs,KV kvs vs/\s.heap.DictOf (dZ X.prog X.w) p vs:=I.hok p _ hx
   have eF:=oI r;exact wpAny_truthy_dict hS m (by lia) ⟨H,I.tok _,by rw[D5 r];exact q⟩
 | _=>exact(e).elim
def K6(ha:PE X a ta)(he:∀jX,isTrue a X.env jX=(do let v <-jX;standAt a.pos;holding [v] (truthy v))) :
  PT X a (λσ H Q=>ta σ H λx H'=>∃k,OR X.K x H' k/\Q k H'):=by
 intro ae s σ H Q I h;exact isTrue_plain (thn (ha ae s σ H _ I h) (by rintro v s1 ⟨x,H1,I1,r1,q1⟩;exact K5 ae s1 σ H1 x v Q I1 r1 q1)) (he _)
def D6:OpR X (binaryOp .Add) (λx y H Q=>∃i j,x=.str i/\y=.str j/\i.length+j.length<=sizeLine/\Q (.str (i++j)) H):=by
 intro ae s σ H x y v u Q I rx ry h;obtain⟨i,j,rfl,rfl,hz,q⟩:=h;obtain⟨t,rfl⟩:=rx;obtain⟨t',rfl⟩:=ry;exact add_str (λt' tk=>⟨.str (i++j),H,I.tok _,⟨_,rfl⟩,q⟩) hz
def jY(r:Vals [x] us):∃u,us=[u]/\RelV x u:=by
 cases r with
 | cons r1 r2=>cases r2;exact⟨_,rfl,r1⟩
def So(r:Vals [x,y] us):∃u w',us=[u,w']/\RelV x u/\RelV y w':=by
 cases r with
 | cons r1 r2 =>
  cases r2 with
  | cons r3 r4=>cases r4;exact⟨_,_,rfl,r1,r3⟩
def vP:mQ X (.type "int") (λxs H Q=>(∃i,xs=[.int i]/\Q (.int i) H)\/∃k,xs=[.bl k]/\Q (.int (if k then 1 else 0)) H):=by
 intro ae s σ H xs us Q I r h;rcases h with⟨i,rfl,q⟩ | ⟨k,rfl,q⟩
 ·obtain⟨u,rfl,t,rfl⟩:=jY r;exact call_int_int ⟨.int i,H,I,⟨_,rfl⟩,q⟩
 ·obtain⟨u,rfl,r1⟩:=jY r;cases r1;exact call_int_bool ⟨.int (if k then 1 else 0),H,I.tok _,⟨_,rfl⟩,q⟩
def ya:mQ X (.type "str") (λxs H Q=>∃i,xs=[.int i]/\i.natAbs.log2<1920/\Q (.str (toString i)) H):=by
 intro ae s σ H xs us Q I r h;obtain⟨i,rfl,hz,q⟩:=h;obtain⟨u,rfl,t,rfl⟩:=jY r;exact PySem.P.str_of_int hz ⟨.str _,H,I.tok _,⟨_,rfl⟩,q⟩
end
structure HZ (h:Heap) (x dx C:Addr) (mA:Str->Option Value):Prop where
 obj:h.get? x=some (W.instObj C dx)
 ns:h.Ns1 dx mA
 ne:dx≠x
def H0{h:Heap}{mA:Str->Option Value}(n:h.Ns1 dx mA):∃od,h.get? dx=some od/\∀name,W.lookIn name od=some (mA name):=by
 obtain⟨o,es,ep,ho,hd,hk,_,hm⟩:=n;refine⟨o,ho,λname=>?_⟩
 have e:=hm name;unfold nsFind findBy at e;rw[<-Array.find?_toList]at e;unfold W.lookIn;rw[hd];dsimp only
 split
 ·grind
 ·rename_i q;rw[q]at e;have a:es.toList.any (·.refKey)=false:=by
   rw[List.any_eq_false];intro y hy;obtain⟨z,t,U1⟩:=hk y (Array.mem_toList_iff.mp hy);simp[DictEntry.refKey,U1]
  have a':¬es.toList.any (·.refKey)=true:=by grind
  rw[if_neg a'];exact dA some e
def HZ.OS(I:HZ h x dx C mA):∃od,W.InstAt h x (W.instObj C dx) C (some od)/\∀name,W.lookIn name od=some (mA name) :=
 let ⟨od,ho,hl⟩:=H0 I.ns
 ⟨od,⟨I.obj,rfl,rfl,ho⟩,hl⟩
section
variable {prog:Program} {w:World} {A:Around} {E:Value->Shared->Prop} {s:Shared} {K:W.Frag} {x dx C f:Addr} {mA:Str->Option Value} {name:Str} {v:Value}
def OU(X:K.In s.heap)(I:HZ s.heap x dx C mA)(hg:W.plainGet K C name=true)(hh:W.hasDictIn K C=true)
  (ha:W.findIn K (.ref C) name=some none) (hv:mA name=some v) (hv':W.handedIn v=true) (h:Q v {s with toks:=s.toks+1}) :
  wpAny (model prog w) A (getAttr (.ref x) name expr) Q E s:=by
 obtain⟨od,J,hl⟩:=I.OS;exact W.get_value X J (W.plainGet_of hg).1 (W.findObj_own hh ha rfl (by rw[hl,hv])) hv' h
def OX(X:K.In s.heap)(I:HZ s.heap x dx C mA)
  (hs:W.findIn K (.ref C) "__setattr__"=some (some (.builtin "object.__setattr__"))) (hp:W.plainOver K C=true) (ht:W.takerIn K C name=some none) (hh:W.hasDictIn K C=true)
  (hw:PySem.Within mA ns) (hsz:ns.length<=sizeLine)
  (h:∀h',HZ h' x dx C (λy=>if y=name then some v else mA y)->Heap.SameBut dx s.heap h'->Q () {s with heap:=h',toks:=s.toks+2}) :
  wpAny (model prog w) A (setAttr (.ref x) name v) Q E s:=by
 obtain⟨od,J,hl⟩:=I.OS;refine W.set_plain X J hs (W.osa_open X J hp ht λb=>?_)
 obtain⟨cd,hc,As⟩:=W.any_some hh;have hx:=I.obj;refine af (aj (af (af (wpAny_loadPart hx (af (W.Looks.here (W.looks_clsIn X hc) ?_))))));rw[As];refine aj (af (aj (af ?_)));refine wpAny_nsSet1 I.ns λh' hn2 Sq=>?_
 obtain⟨oD,esD,epD,hoD,hdD,hcD⟩:=hn2.count (PySem.Within.cons name v hw);refine af (wpAny_lookBehind hoD (by rw[hdD];exact pastItsLine_dict (br hcD (by grind))) ?_)
 exact aj (h _ ⟨(Sq.2 _ (dU I.ne)).trans I.obj,hn2,I.ne⟩ Sq)
def K8(X:K.In s.heap)(hm:W.makesIn K C=true)
  (hi:W.findIn K (.ref C) "__init__"=some (some (.ref f))) (hf:W.typeIn K (.ref f)=some (.type "function"))
  (h:codeAny (model prog w) (A.under (.builtin "type.__call__" ⟨.ref C::vs,kw⟩)) (.call (.ref f) ⟨.ref (s.heap.objs.size+1)::vs,kw⟩) (W.InitBack (s.heap.objs.size+1) R)
   {s with heap:=(s.heap.push W.emptyDict).push (W.instObj C s.heap.objs.size)}) :
  codeAny (model prog w) A (.call (.ref C) ⟨vs,kw⟩) R s:=by
 obtain⟨hh,g,d,t,os⟩:=s;exact W.make_core (W.makes_of X hm) (W.looks_findIn X hi) (λself=>W.bind_fn X self hf) (.inl rfl) h
end
noncomputable def jq(f:Str)(v:V):List (Str×V)->List (Str×V)
 | []=>[(f,v)]
 | (g,x)::r=>if g=f then(g,v)::r else(g,x)::jq f v r
theorem pU(f g:Str)(v:V):∀fs:List (Str×V),(jq f v fs).lookup g=if g=f then some v else fs.lookup g
 | []=>by
  show List.lookup g [(f,v)]=_;by_cases h:g=f
  ·grind
  ·grind
 | (k,x)::r=>by
  have ih:=pU f g v r;rw[show jq f v ((k,x)::r)=(if k=f then(k,v)::r else(k,x)::jq f v r)from rfl]
  by_cases hk:k=f
  ·grind
  ·grind
theorem oT(f:Str)(v:V):∀fs:List (Str×V),f∈(jq f v fs).map (·.1)/\∀g,g∈fs.map (·.1)->g∈(jq f v fs).map (·.1)
 | []=>⟨by simp[jq],λg h=>by simp at h⟩
 | (k,x)::r=>by
  obtain⟨i1,i2⟩:=oT f v r;rw[show jq f v ((k,x)::r)=(if k=f then(k,v)::r else(k,x)::jq f v r)from rfl]
  by_cases hk:k=f
  ·grind
  ·grind
theorem pV(f:Str)(v:V):∀fs:List (Str×V),(jq f v fs).length<=fs.length+1
 | []=>by simp[jq]
 | (k,x)::r=>by
  have ih:=pV f v r;rw[show jq f v ((k,x)::r)=(if k=f then(k,v)::r else(k,x)::jq f v r)from rfl]
  by_cases hk:k=f
  ·grind
  ·grind
def sU.OY(r:sU (some v) o):∃u,o=some u/\RelV v u:=by
 cases o with
 | none=>exact(r).elim
 | some u=>exact⟨u,rfl,r⟩
def H9(r:RelV v u):W.handedIn u=true:=by
 cases v with
 | b9=>cases(r);rfl
 | bl b=>cases(r);rfl
 | int i=>obtain⟨t,e⟩:=(r);cases e;rfl
 | str x=>obtain⟨t,e⟩:=(r);cases e;rfl
 | XZ b=>obtain⟨t,e⟩:=(r);cases e;rfl
 | flt b=>obtain⟨t,e⟩:=(r);cases e;rfl
 | ref a=>cases(r);rfl
 | ty n=>cases(r);rfl
section
variable {P:Program} {w:World} {H H':Hp} {h h':Heap} {a C dx:Addr} {fs Uv:List (Str×V)}
def F8(hok:l9 P w H h)(e:H a=some (.kO C dx fs)):∃mA,HZ h a dx C mA/\(∀f,sU (fs.lookup f) (mA f))/\PySem.Within mA (fs.map (·.1))/\fs.length<=1000/\H dx=some (.own a):=by
 obtain⟨d,z,ne,ob,mA,n,r,q⟩:=(hok a _ e);exact⟨mA,⟨ob,n,ne⟩,r,q,z,d⟩
end
def HM.get{K:W.Frag}{C:Addr}(c:HM K C)(f:Str):W.plainGet K C f=true:=c.pg
def jI.Y2{K:W.Frag}{C:Addr}{f:Str}(n:jI K C f):W.takerIn K C f=some none:=by
 unfold W.takerIn;rw[show W.findIn K (.ref C) f=some none from n]
 rfl
section
variable {X:Cx} {ae:List (Addr×Obj)} {σ:St} {H:Hp} {s:Shared} {a C dx:Addr} {fs:List (Str×V)} {f:Str} {v:V} {A:Around} {E:Value->Shared->Prop}
def D7(I:Inv X ae σ H s)(e:H a=some (.kO C dx fs))(c:HM X.K C)(n:jI X.K C f)(l:fs.lookup f=some v)
  (h:∀u s',Inv X ae σ H s'->RelV v u->Q u s'):wpAny (model X.prog X.w) A (getAttr (.ref a) f b) Q E s:=by
 obtain⟨mA,O,r,_,_,_⟩:=F8 I.hok e;obtain⟨u,hu,ru⟩:=sU.OY (by rw[<-l];exact r f)
 exact OU I.sX O (c.get f) c.hd n hu (H9 ru) (h u _ (I.tok _) ru)
def D8(I:Inv X ae σ H s)(e:H a=some (.kO C dx fs))(c:HM X.K C)(n:jI X.K C f)(hl:fs.length<1000)(ry:RelV y u)
  (h:∀s',Inv X ae σ (c5 H a (.kO C dx (jq f y fs))) s'->Q () s'):wpAny (model X.prog X.w) A (setAttr (.ref a) f u) Q E s:=by
 obtain⟨mA,O,r,wi,_,ho⟩:=F8 I.hok e;have hz:(fs.map (·.1)).length<=sizeLine:=by rw[aD,xP];lia
 refine OX I.sX O c.sa c.po n.Y2 c.hd wi hz λh' O' sb=>h _ ?_
 have hd:∃o,h'.get? dx=some o:=let ⟨o,_,_,e',_⟩:=O'.ns;⟨o,e'⟩
 refine I.write (by rw[e];exact True.intro) (.inr ho) (λb q hb z=>(sb.2 b hb).trans z) hd ?_
 refine⟨by rw[aR O.ne];exact ho,?_,O.ne,O'.obj,_,O'.ns,λg=>?_,λg hg=>?_⟩
 ·have:=pV f y fs;lia
 ·rw[pU];by_cases q:g=f
  ·rw[if_pos q,if_pos q];exact ry
  ·rw[if_neg q,if_neg q];exact r g
 ·by_cases q:g=f
  ·rw[q];exact(oT f y fs).1
  ·refine(oT f y fs).2 g (wi g λz=>hg ?_)
   show(if g=f then some u else mA g)=none
   rw[if_neg q];exact z
def Inv.made(I:Inv X ae σ H s):Inv X ae σ (c5 (c5 H s.heap.objs.size (.own (s.heap.objs.size+1))) (s.heap.objs.size+1) (.kO C s.heap.objs.size []))
  {s with heap:=(s.heap.push W.emptyDict).push (W.instObj C s.heap.objs.size)}:=by
 have e1:(s.heap.push W.emptyDict).get? s.heap.objs.size=some W.emptyDict:=cJ s.heap rfl;have e2:((s.heap.push W.emptyDict).push (W.instObj C s.heap.objs.size)).get? (s.heap.objs.size+1)=some (W.instObj C s.heap.objs.size):=by
  have:=cJ (s.heap.push W.emptyDict) (o:=W.instObj C s.heap.objs.size) rfl
  rwa [oH]at this
 have e3:(s.heap.push W.emptyDict).Ns s.heap.objs.size (λ_=>none):=⟨W.emptyDict,#[],_,e1,rfl,(λe he=>absurd he (by simp)),λ_=>rfl⟩
 have I1:=I.laid (o:=.own (s.heap.objs.size+1)) (t':=s.toks) (λb u q=>bj _ q) (aq _) ⟨_,e1⟩
 refine I1.laid (t':=s.toks) (λb u q=>bj _ q) (gJ (oH _ _)) ?_
 have ne:s.heap.objs.size≠s.heap.objs.size+1:=by grind
 refine⟨by rw[aR ne,aH],dm _,ne,e2,λ_=>none,(Heap.Ns1.of_empty e3).at λo q=>bj _ q,λ_=>True.intro,λy hy=>absurd rfl hy⟩
def OZ(hb:attributeBase e f env (eval e env)=eval e env)
  (h:wpAny (model prog w) A (eval e env) (λo s₁=>wpAny (model prog w) A (getAttr o f true) Q E s₁) E s):wpAny (model prog w) A (eval (.Attribute e f pos) env) Q E s :=
 Attribute_any_ h (by rw[arm_eval_Attribute,hb])
end
def adx(K:W.Frag)(ta:TE)(f:Str):TE:=λσ H Q=>ta σ H λx H1=>∃a C dx fs v,x=.ref a/\H1 a=some (.kO C dx fs)/\HM K C/\jI K C f/\fs.lookup f=some v/\Q v H1
def ady(K:W.Frag)(ta tv:TE)(f:Str):TS:=λD σ H=>tv σ H λy H1=>ta σ H1 λx H2=>∃a C dx fs,x=.ref a/\H2 a=some (.kO C dx fs)/\HM K C/\jI K C f/\fs.length<1000 /\
 D.nx σ (c5 H2 a (.kO C dx (jq f y fs)))
section
variable {X:Cx} {o e value:Expr} {f:Str} {pos vi U2:Pos} {ta tv:TE}
def U3(he:PE X e ta)(hb:attributeBase e f X.env (eval e X.env)=eval e X.env):PE X (.Attribute e f pos) (adx X.K ta f):=by
 intro ae s σ H Q I h;refine OZ hb (thn (he ae s σ H _ I h) λu s1 z9=>?_)
 obtain⟨x,H1,I1,rx,a,C,dx,fs,v,ex,ea,c,n,l,q⟩:=z9;subst ex;obtain rfl:u=Value.ref a:=rx;exact D7 I1 ea c n l λu' s2 I2 ru=>⟨v,H1,I2,ru,q⟩
def U4(ha:PE X o ta)(hv:PE X value tv)(hs:swapsWith value (some (.Attribute o f vi)) pos.line X.env=pure false):PS X (.Assign [.Attribute o f vi] value pos) (ady X.K ta tv f):=by
 intro ae s σ H D I h;refine plainObj_wpAny_Assign_Attribute (thn (hv ae s σ H _ I h) λu s1 ⟨y,H1,I1,ry,q⟩=>thn (ha ae s1 σ H1 _ I1 q) λov s2 z9=>?_) hs
 obtain⟨x,H2,I2,rx,a,C,dx,fs,ex,ea,c,n,l,q2⟩:=z9;subst ex;obtain rfl:ov=Value.ref a:=rx;exact D8 I2 ea c n l ry λs3 I3=>⟨σ,_,I3,q2⟩
end
structure dJ (k:Nat) (A:Around):Prop where
 hd:A.handled=none
 dp:A.depth+3*k+5<recursionLimit
 un:A.units+16*k+1200<cLine
def dJ.mono(r:dJ k A)(h:j<=k):dJ j A:=⟨r.hd,by have:=r.dp;lia,by have:=r.un;lia⟩
def dJ.deeper(r:dJ (k+1) A)(env:Env):dJ k (A.deeper env) :=
 ⟨r.hd,by have:=r.dp;show A.depth+1+3*k+5<_;lia,by have:=r.un;show A.units+3+16*k+1200<_;lia⟩
def D9{A:Around}:(A.under (.builtin "type.__call__" ⟨.ref C::us,kw⟩)).depth=A.depth+1:=by
 first | rfl | simp[Around.under,Code.weight,Code.isCreation,Code.isGuard,Code.isCaller,Code.frames,Code.isFrame,guardIds]
def Ea{A:Around}:(A.under (.builtin "type.__call__" ⟨.ref C::us,kw⟩)).units=A.units+1:=by
 first | rfl | simp[Around.under,Code.cUnits,Code.frames,Code.isFrame]
def dJ.make(r:dJ (k+1) A)(C:Addr)(us:List Value)(kw:List (Str×Value)):dJ k (A.under (.builtin "type.__call__" ⟨.ref C::us,kw⟩)) :=
 ⟨r.hd,by have:=r.dp;rw[D9];lia,by have:=r.un;rw[Ea];lia⟩
def dJ.depth(r:dJ k A):A.depth<recursionLimit:=by have:=r.dp;lia
def adz:TA:=λ_ H Q=>Q [] H
def Y3(ta:TE)(tr:TA):TA:=λσ H Q=>ta σ H λx H1=>tr σ H1 λxs H2=>Q (x::xs) H2
section
variable {X:Cx} {e:Expr} {es:List Expr} {te:TE} {t:TA} {pos:Pos}
def tf:PA X [] adz:=λ_ _ _ _ H Q I h=>Calls.spliced_nil ⟨[],H,I,.nil,h⟩
def jN(ha:PE X e te)(hr:PA X es t)(hs:starEach (e::es) X.env=(false,eval e X.env)::starEach es X.env:=by rfl):PA X (e::es) (Y3 te t):=by
 intro pos ae s σ H Q I h;rw[hs];refine Calls.spliced_cons (thn (ha ae s σ H _ I h) λu s1 ⟨x,H1,I1,r1,q1⟩=>?_)
 exact thn (hr pos ae s1 σ H1 _ I1 q1) (by rintro us s2 ⟨xs,H2,I2,r2,q2⟩;exact⟨x::xs,H2,I2,.cons r1 r2,q2⟩)
def adA(t:TA):TE:=λσ H Q=>t σ H λxs H1=>xs.length<=sizeLine/\∀p,H1 p=none->Q (.ref p) (c5 H1 p (.ao xs))
def adB(t:TA):TE:=λσ H Q=>t σ H λxs H1=>xs.length<=sizeLine/\∀p,H1 p=none->Q (.ref p) (c5 H1 p (.lst xs))
def U5{x1}(h:PA X es t):PE X (.Tuple es x1 pos) (adA t):=by
 intro ae s σ H Q I hq;refine wpAny_Tuple_spliced (thn (h pos ae s σ H _ I hq) λus s1 ⟨xs,H1,I1,r,z,q⟩=>⟨by rw[<-r.length];exact z,?_⟩)
 have hf:=I1.hok.fresh (aq _);refine⟨.ref s1.heap.objs.size,c5 H1 s1.heap.objs.size (.ao xs),I1.laid (λb u e=>bj _ e) (aq _) ?_,rfl,q _ hf⟩
 exact⟨z,us,r,⟨_,cJ _ rfl,rfl,_,rfl⟩⟩
def K9(h:PA X es t):PE X (.List es pos) (adB t):=by
 intro ae s σ H Q I hq;refine wpAny_List_spliced (thn (h pos ae s σ H _ I hq) λus s1 ⟨xs,H1,I1,r,z,q⟩=>⟨by rw[<-r.length];exact z,?_⟩)
 have hf:=I1.hok.fresh (aq _);refine⟨.ref s1.heap.objs.size,c5 H1 s1.heap.objs.size (.lst xs),I1.laid (λb u e=>bj _ e) (aq _) ?_,rfl,q _ hf⟩
 exact⟨z,us,0,r,cJ _ rfl⟩
end
abbrev Sp:=List V->Hp->VK->XK->Prop
abbrev J0:=List Env->Hp->Shared->XK->Value->Shared->Prop
structure Env0 (P:Program) (w:World) (K:W.Frag) (mg:Str->Option Value) (base:Heap) (A:Around) (ay:List Env) (s:Shared) (H:Hp):Prop where
 frames:A.frames=some ay
 mod:Mod K mg base
 bs:∀b o,base.get? b=some o->s.heap.get? b=some o/\H b=none
 bsz:base.objs.size<=s.heap.objs.size
 funs:s.heap.FunFrames base ay
 frf:∀b∈oS ay,H b=none
 hok:l9 P w H s.heap
 bare:AllBare s.gens
 tabs:sW K H
def CE(ay:List Env)(P:Program)(w:World)(H:Hp)(s:Shared)(Q:VK)(u:Value)(s':Shared):Prop :=
 ∃v H',s'.os=s.os/\AllBare s'.gens/\Un (oS ay) [] H H' s.heap s'.heap/\l9 P w H' s'.heap/\RelV v u/\Q v H'
def CR(CX:J0)(ay:List Env)(P:Program)(w:World)(H:Hp)(s:Shared)(Q:VK)(E:XK)(r:Result)(s':Shared):Prop :=
 match r with
 | .ok (.ret u)=>CE ay P w H s Q u s'
 | .ok _=>False
 | .error e=>CX ay H s E e s'
structure FnOk (P:Program) (w:World) (K:W.Frag) (mg:Str->Option Value) (base:Heap) (CX:J0) (k:Nat) (f:Addr) (fd:FuncData) (ps:List Str) (sp:Sp):Prop where
 len:∀vs H Q E,sp vs H Q E->vs.length=ps.length
 run:∀(A:Around) (ay:List Env) (s:Shared) (H:Hp) (args:Args) (us:List Value) (vs:List V) (Q:VK) (E:XK),dJ k A->Env0 P w K mg base A ay s H->BindsTo s fd args (ps.zip us)->Vals vs us->sp vs H Q E ->
  codeAny (model P w) A (.call (.ref f) args) (CR CX ay P w H s Q E) s
def Env0.make{P:Program}{w:World}{K:W.Frag}{mg:Str->Option Value}{base:Heap}{A:Around}{ay:List Env}{s:Shared}{H:Hp}(e:Env0 P w K mg base A ay s H)(C:Addr)(us:List Value)(kw:List (Str×Value)) :
  Env0 P w K mg base (A.under (.builtin "type.__call__" ⟨.ref C::us,kw⟩)) ay s H:=⟨by first | exact e.frames | (simpa[Around.under,Code.envs,Code.isFrame,pushEnvs]using e.frames),e.mod,e.bs,e.bsz,e.funs,e.frf,e.hok,e.bare,e.tabs⟩
section
variable {X:Cx} {ae:List (Addr×Obj)} {σ:St} {H:Hp} {s s':Shared}
def Inv.O0(I:Inv X ae σ H s):Env0 X.prog X.w X.K X.mg X.base X.A X.stack s H :=
 ⟨I.ok.frames,I.ok.mod,I.bs,br I.ok.bsz I.sz,I.stack,I.xX,I.hok,I.bare,I.tabs⟩
def Inv.after(I:Inv X ae σ H s)(h:CE X.stack X.prog X.w H s Q u s'):EP X ae σ Q u s':=by
 obtain⟨v,H',os,bare,un,hok,r,q⟩:=h;obtain⟨hh,g,d,t,U6⟩:=s';obtain rfl:U6=s.os:=os;exact⟨v,H',I.call un hok bare (λb z=>absurd z (by simp)),r,q⟩
end
def Sr(C:Addr)(sp:Sp)(Se:List V)(E:XK)(t:TA):TE:=λσ H Q=>t σ H λvs H1=>∀x dx,H1 x=none->H1 dx=none->dx≠x ->
 sp (.ref x::(vs++Se)) (c5 (c5 H1 dx (.own x)) x (.kO C dx [])) (λv H2=>v=.b9/\Q (.ref x) H2) E
def gP(K:W.Frag)(fd:FuncData)(ps:List Str)(ds:List Value):Prop :=
 ∀(s:Shared) (us:List Value),K.In s.heap->(us++ds).length=ps.length->BindsTo s fd ⟨us,[]⟩ (ps.zip (us++ds))
def gP.all{K:W.Frag}{fd:FuncData}{ps:List Str}(h:∀us:List Value,us.length=ps.length->bindArgs fd ⟨us,[]⟩=pure (ps.zip us)):gP K fd ps []:=λs us _ hl=>by
 rw[fA]at hl ⊢;exact .of_eq (h us hl)
def Eb(CX:J0)(X:Cx)(E:XK):Prop:=∀(ae:List (Addr×Obj)) (σ:St) (H:Hp) (s:Shared) (e:Value) (s':Shared),Inv X ae σ H s->CX X.stack H s E e s'->X.xe e s'
section
variable {X:Cx} {CX:J0} {k:Nat} {f C:Addr} {fd:FuncData} {ps:List Str} {sp:Sp} {Se:List V} {ds:List Value} {E:XK} {x m:Str} {p pos sQ:Pos} {e o:Expr} {es:List Expr} {ta:TE} {t:TA}
def La{ae:List (Addr×Obj)}{σ:St}{H:Hp}{s:Shared}{Q:VK}{us:List Value}{vs:List V}(M:Mk X.K C f)(F:FnOk X.prog X.w X.K X.mg X.base CX k f fd ps sp)(hr:dJ (k+1) X.A)(hb:gP X.K fd ps ds)(hd:Vals Se ds)
  (hx:Eb CX X E) (I:Inv X ae σ H s) (r:Vals vs us)
  (h:∀x dx,H x=none->H dx=none->dx≠x->sp (.ref x::(vs++Se)) (c5 (c5 H dx (.own x)) x (.kO C dx [])) (λv H2=>v=.b9/\Q (.ref x) H2) E) :
  wpAny (model X.prog X.w) X.A (call (.ref C) us) (EP X ae σ Q) X.xe s:=by
 have hq:=h (s.heap.objs.size+1) s.heap.objs.size (I.hok.fresh (sO _)) (I.hok.fresh (aq _)) (bG (sE _));have I2:=Inv.made (C:=C) I;have r2:Vals (V.ref (s.heap.objs.size+1)::(vs++Se)) (Value.ref (s.heap.objs.size+1)::(us++ds)):=.cons rfl (r.append hd);have hl:(Value.ref (s.heap.objs.size+1)::us++ds).length=ps.length:=by
  have e:=r2.length;rw[F.len _ _ _ _ hq]at e;exact e.symm
 refine sP (K8 I.sX M.makes M.init (bu.mp M.fn) (kf (F.run _ X.stack _ _ ⟨Value.ref (s.heap.objs.size+1)::us,[]⟩ (Value.ref (s.heap.objs.size+1)::(us++ds)) _ _ E (hr.make C us [])
  (I2.O0.make C us []) (hb _ (Value.ref (s.heap.objs.size+1)::us) I2.sX hl) r2 hq) λr s' yb=>?_))
 cases r with
 | error e=>exact hx ae σ _ _ e s' I2 yb
 | ok fl =>
  cases fl with
  | ret u =>
   obtain⟨v,H',I3,rv,ev,q3⟩:=I2.after yb;subst ev;exact⟨rv,⟨V.ref (s.heap.objs.size+1),H',I3,rfl,q3⟩⟩
  | next=>exact False.elim yb
  | brk=>exact False.elim yb
  | cont=>exact False.elim yb
def O1(M:Mk X.K C f)(F:FnOk X.prog X.w X.K X.mg X.base CX k f fd ps sp)(hr:dJ (k+1) X.A)(hg:Gl X x)(hm:X.mg x=some (.ref C))(hb:gP X.K fd ps ds)(hd:Vals Se ds)(hx:Eb CX X E)
  (ha:PA X (e::es) t) (O2:(x==("__debug__":Str))=false:=by decide) (he:starEach (e::es) X.env=(false,eval e X.env)::starEach es X.env:=by rfl) (mI:(backTo pos (starEach es X.env)).any (·.1)=false:=by rfl) :
  PE X (.Call (.Name x p) (e::es) [] pos) (Sr C sp Se E t):=by
 intro ae s σ H Q I h;refine j9 (ld_glob I hg hm ?_ O2);refine W.callWith_K I.ok.mod.kin M.kp (thn (ha pos ae s σ H _ I h) λus s1 ⟨vs,H1,I1,r,q⟩=>⟨I1.sX,?_⟩) he mI
 exact La M F hr hb hd hx I1 r q
end
theorem vQ{kindOf:Str->Option NameKind}:∀{AD:List (Str×Value)} {m:Str->Option Value},(∀v,(x,v)∉AD)->bindL kindOf AD m x=m x
 | [],_,_=>rfl
 | (n,v)::r,m,h=>by
  unfold bindL;rw[vQ λw hw=>h w (aU _ hw)]
  split
  ·grind
  ·rfl
theorem vR{kindOf:Str->Option NameKind}:∀{AD:List (Str×Value)} {m:Str->Option Value},(∀v,(x,v)∉AD)->bindC kindOf AD m x=m x
 | [],_,_=>rfl
 | (n,v)::r,m,h=>by
  unfold bindC;rw[vR λw hw=>h w (aU _ hw)]
  split
  ·rfl
  ·grind
theorem vT{kindOf:Str->Option NameKind}:∀{P:List Str} {vs:List Value} {i:Nat} {m:Str->Option Value},P.Nodup->P[i]?=some x->vs[i]?=some v->kindOf x=some .local ->
  bindL kindOf (P.zip vs) m x=some v
 | [],_,_,_,_,h,_,_=>by simp at h
 | _::_,[],_,_,_,_,h,_=>by simp at h
 | p::P,w::vs,0,m,nd,h1,h2,hk=>by
  simp at h1 h2;subst h1;subst h2;show bindL kindOf ((p,w)::P.zip vs) m p=_;unfold bindL;rw[vQ λv hv=>(iW.mp nd).1 (xF hv).1,if_pos hk]
  simp
 | p::P,w::vs,i+1,m,nd,h1,h2,hk=>by
  unfold bindL;exact vT (iW.mp nd).2 (by simpa using h1) (by grind) hk
theorem vU{kindOf:Str->Option NameKind}:∀{P:List Str} {vs:List Value} {i:Nat} {m:Str->Option Value},P.Nodup->P[i]?=some x->vs[i]?=some v->kindOf x≠some .local ->
  bindC kindOf (P.zip vs) m x=some v
 | [],_,_,_,_,h,_,_=>by simp at h
 | _::_,[],_,_,_,_,h,_=>by simp at h
 | p::P,w::vs,0,m,nd,h1,h2,hk=>by
  simp at h1 h2;subst h1;subst h2;show bindC kindOf ((p,w)::P.zip vs) m p=_;unfold bindC;rw[vR λv hv=>(iW.mp nd).1 (xF hv).1,if_neg hk]
  simp
 | p::P,w::vs,i+1,m,nd,h1,h2,hk=>by
  unfold bindC;exact vU (iW.mp nd).2 (by simpa using h1) (by grind) hk
noncomputable def start(N:List Str)(vs:List V):St:=vs.map some++List.replicate (N.length-vs.length) none
noncomputable def fK(CX:J0)(P:Program)(w:World)(K:W.Frag)(mg:Str->Option Value)(base:Heap)(N:List Str)(qual:Str)(scope:Scope)(f:Addr)(cd:Value)(A:Around)(ay:List Env)(s:Shared)(H:Hp)(E:XK):Cx where
 prog:=P
 w:=w
 K:=K
 mg:=mg
 base:=base
 A:=A.deeper (envOfC qual scope s.heap.objs.size f cd)
 N:=N
 s₀:=s
 aa:=H
 env:=envOfC qual scope s.heap.objs.size f cd
 ay:=ay
 stack:=envOfC qual scope s.heap.objs.size f cd::ay
 ex:=[]
 calm:=true
 fn:=λ_=>true
 pn:=[]
 xe:=λe s'=>wpAny (model P w) (A.deeper (envOfC qual scope s.heap.objs.size f cd)) (leaving (envOfC qual scope s.heap.objs.size f cd) e) (λ_ Lb=>CX ay H s E e Lb) (λe' Lb=>CX ay H s E e' Lb) s'
def AE{sc:Scope}(h:sc.names.lookup x=some .cell):∃c,(cellsFrom n sc.names []).lookup x=some c:=by
 have q:=W.cellsFrom_some sc.names n [] (.inl h);exact Option.isSome_iff_exists.mp q
def vV{CX:J0}{P:Program}{w:World}{K:W.Frag}{mg:Str->Option Value}{base:Heap}{N ps:List Str}{qual:Str}{scope:Scope}{f:Addr}{cd:Value}{A:Around}{ay:List Env}{s s1:Shared}{H:Hp}{E:XK}{us:List Value}{vs:List V}
  (S:dB N ps scope) (hd:A.handled=none) (e0:Env0 P w K mg base A ay s H) (hl:vs.length=ps.length) (r:Vals vs us)
  (x:InCallC s s.heap.objs.size (bindL (envOfC qual scope s.heap.objs.size f cd).kindOf (ps.zip us) λ_=>none) (cellsFrom (s.heap.objs.size+1) scope.names []) (bindC (envOfC qual scope s.heap.objs.size f cd).kindOf (ps.zip us) λ_=>none) s1) :
  Inv (fK CX P w K mg base N qual scope f cd A ay s H E) [] (start N vs) H s1:=by
 have mI:ps.length<=N.length:=by have:=dA List.length S.pre;rw[jG]at this;lia
 obtain⟨h1,tk,rfl,hk⟩:=x.done;have noA:∀b:Addr,b∉(fK CX P w K mg base N qual scope f cd A ay s H E).ex:=λb z=>absurd (show b∈([]:List Addr)from z) (by simp)
 refine⟨⟨e0.mod,S.kind,rfl,rfl,aq _,λy z c h1 h2=>?_,λy hy=>?_,λy c _ h=>?_,λ_=>hd,Around.frames_deeper e0.frames,.inr ⟨rfl,rfl⟩,λb z=>absurd z (noA b),e0.bs,e0.bsz,λb _ _=>noA b,λb z=>absurd z (noA b),e0.funs,e0.frf,e0.tabs⟩,
  rfl,e0.bare,Un.kept hk,⟨_,x.toInCall.ns,λi y v h1 h2 h3=>?_⟩,λy c h=>⟨_,x.cell y c h⟩,e0.hok.fresh (aq _),λy c h=>?_,λp hp=>absurd (show p∈([]:List (Addr×Obj))from hp) (by simp),e0.hok.kept hk,?_⟩
 ·exact name_of_addr x.apart (eK h1) (eK h2)
 ·have hy:=hy;rcases hy with hy | hy
  ·exact AE hy
  ·exact absurd rfl (S.nofree _ (eK hy))
 ·exact dz (x.above y c (eK h))
 ·have hi:i<vs.length:=by
   unfold start at h2;by_cases hi:i<vs.length
   ·exact hi
   ·grind
  have ha:vs[i]?=some v:=by
   unfold start at h2;rw[jD (by grind),bZ]at h2
   cases e:vs[i]? with
   | none=>rw[e]at h2;cases h2
   | some a=>rw[e]at h2;cases h2;rfl
  obtain⟨u,hu,rv⟩:=r.get ha;have hp:ps[i]?=some y:=by
   rw[<-S.pre,List.getElem?_take_of_lt (by lia)];exact h1
  have ndP:ps.Nodup:=by rw[<-S.pre];exact S.nd.sublist (List.take_sublist _ _)
  refine⟨u,rv,?_⟩;rcases S.par y (cB hp)with k | k
  ·exact .inl ⟨k,vT ndP hp hu k⟩
  ·obtain⟨c,e⟩:=AE k;refine .inr ⟨.inl k,c,e,?_⟩;have q:=x.cell y c e;rw[vU ndP hp hu (by show scope.names.lookup y≠_;rw[k];decide)]at q
   exact q
 ·exact e0.hok.fresh (dz (x.above y c (eK h)))
 ·unfold start;show _=N.length;rw[bJ,aD,List.length_replicate]
  lia
def Ld{CX:J0}{P:Program}{w:World}{K:W.Frag}{mg:Str->Option Value}{base:Heap}{k:Nat}{f:Addr}{name qual:Str}{pq9:Arguments}{body:List Stmt}{scope:Scope}{dV kV doc pm cW ct oc:Value}{an od:Option Addr}
  {Ad:Array (Option Value)} {N ps:List Str} {sp:Sp} (lk:K.lookup f=some ⟨oc,od,.func (W.fnOf name qual pq9 body scope dV kV doc pm an cW ct),Ad⟩) (FX:W.codeIn K cW qual=true) (S:dB N ps scope)
  (len:∀vs H Q E,sp vs H Q E->vs.length=ps.length)
  (hbody:∀(A:Around) (ay:List Env) (s:Shared) (H:Hp) (vs:List V) (Q:VK) (E:XK),dJ k (A.deeper (envOfC qual scope s.heap.objs.size f cW))->sp vs H Q E ->
   ∃t,PSs (fK CX P w K mg base N qual scope f cW A ay s H E) body t/\t {nx:=λ_ H'=>Q .b9 H',rt:=Q} (start N vs) H) :
  FnOk P w K mg base CX (k+1) f (W.fnOf name qual pq9 body scope dV kV doc pm an cW ct) ps sp:=by
 refine⟨len,λA ay s H args us vs Q E hr e0 hb r O3=>?_⟩
 have hl:=len _ _ _ _ O3;have KX:=e0.mod.kin.keeps λb o e=>(e0.bs b o e).1
 have lim:=e0.mod.nolimit.keeps λb o e=>(e0.bs b o e).1
 have Y4:∀y∈ps.zip us,scope.names.lookup y.1=some .local\/(scope.names.lookup y.1=some .cell/\((cellsFrom (s.heap.objs.size+1) scope.names []).lookup y.1).isSome=true):=by
  rintro⟨n,v⟩ hy
  rcases S.par n (xF hy).1 with q | q
  ·grind
  ·exact .inr ⟨q,W.cellsFrom_some _ _ _ (.inl q)⟩
 refine codeAny_call_function hr.depth (KX _ _ lk) rfl S.co S.gen rfl (W.codeRec_of KX FX) (hb _ _ _ _ ?_);refine Kg S.kind Y4 λenv he s1 x=>?_
 subst he;refine⟨lim.keeps x.toInCall.keep,codeAny_func ?_⟩;obtain⟨t,ht,hq⟩:=hbody A ay s H vs Q E (hr.deeper _) O3;have I:Inv (fK CX P w K mg base N qual scope f cW A ay s H E) [] (start N vs) H s1:=vV S hr.hd e0 hl r x;refine kl (ht [] s1 (start N vs) H _ I hq) (λfl s' hs=>?_) λe s' hs=>hs
 have fin:∀{bM:St} {H':Hp} {v:V} {u:Value},Inv (fK CX P w K mg base N qual scope f cW A ay s H E) [] bM H' s'->RelV v u->Q v H'->CE ay P w H s Q u s' :=
  λ{bM H' v u} J rv q=>⟨v,H',J.os,J.bare,J.base,J.hok,rv,q⟩
 cases fl with
 | ret u =>
  obtain⟨v,bM,H',J,rv,q⟩:=hs;exact fin J rv q
 | next =>
  obtain⟨bM,H',J,q⟩:=hs;exact fin (v:=V.b9) J rfl q
 | brk =>
  obtain⟨_,_,_,q⟩:=hs;exact False.elim q
 | cont =>
  obtain⟨_,_,_,q⟩:=hs;exact False.elim q
section
variable {X:Cx} {x:Str} {p pos:Pos} {e:Expr} {es:List Expr} {t:TA} {id T:String} {r:List V->Hp->VK->Prop}
def tCB(r:List V->Hp->VK->Prop)(t:TA):TE:=λσ H Q=>t σ H λvs H1=>r vs H1 Q
def mR(hc:mQ X (.builtin id) r)(hg:Gl X x)(hm:X.mg x=none)(hv:bootBuiltins x=some (.builtin id))(ha:PA X (e::es) t)(hn:x≠"__name__":=by decide)(O2:(x==("__debug__":Str))=false:=by decide)
  (he:starEach (e::es) X.env=(false,eval e X.env)::starEach es X.env:=by rfl) (mI:(backTo pos (starEach es X.env)).any (·.1)=false:=by rfl):PE X (.Call (.Name x p) (e::es) [] pos) (tCB r t):=by
 intro ae s σ H Q I h;refine j9 (ld_blt I hg hm hv ?_ hn O2);exact Ka (thn (ha pos ae s σ H _ I h) (by rintro us s1 ⟨vs,H1,I1,r1,q1⟩;exact hc ae s1 σ H1 vs us Q I1 r1 q1)) he mI
def oU(hc:mQ X (.type T) r)(hg:Gl X x)(hm:X.mg x=none)(hv:bootBuiltins x=some (.type T))(ha:PA X (e::es) t)(hn:x≠"__name__":=by decide)(O2:(x==("__debug__":Str))=false:=by decide)
  (he:starEach (e::es) X.env=(false,eval e X.env)::starEach es X.env:=by rfl) (mI:(backTo pos (starEach es X.env)).any (·.1)=false:=by rfl):PE X (.Call (.Name x p) (e::es) [] pos) (tCB r t):=by
 intro ae s σ H Q I h;refine j9 (ld_blt I hg hm hv ?_ hn O2);exact lV (thn (ha pos ae s σ H _ I h) (by rintro us s1 ⟨vs,H1,I1,r1,q1⟩;exact hc ae s1 σ H1 vs us Q I1 r1 q1)) he mI
end
end L2
namespace HT
open PySem PyProof.Rows
section
variable {prog:Program} {w:World} {A:Around} {E:Value->Shared->Prop} {s:Shared}
def F9(ht:IsTup s.heap t vs.toArray)(hb:IsTup s.heap b ws.toArray)(hv:vs≠[])
  (h1:ws=[]->Q (.ref t) s) (h2:ws≠[]->Q (.ref s.heap.objs.size) {s with heap:=s.heap.push {cls:=.type "tuple",data:=.seq (vs++ws).toArray}})
  (hsz:vs.length+ws.length<=sizeLine):wpAny (model prog w) A (binaryOp .Add (.ref t) (.ref b)) Q E s:=by
 obtain⟨⟨cls,dd,data,sl⟩,ho,hc,n,hd⟩:=id ht;obtain⟨⟨adE,dd2,Y5,sl2⟩,ho2,Ss,n2,Y6⟩:=id hb;simp only at hc hd Ss Y6;subst hc hd Ss Y6;have e:vs.toArray++ws.toArray=(vs++ws).toArray:=by simp
 by_cases hw:ws=[]
 ·exact concat_meets ⟨_,ho,rfl⟩ ⟨_,ho2,rfl⟩ DN seq_tuple_add Dx Du (Ds _ _)
   (tuple_addW1 t b vs.toArray ws.toArray n n2 dd dd2 sl sl2 (by grind) (by simp[hw])) ⟨ho,ho2,h1 hw⟩
 ·refine concat_meets ⟨_,ho,rfl⟩ ⟨_,ho2,rfl⟩ DN seq_tuple_add Dx Du (Ds _ _)
   (tuple_addW2 t b vs.toArray ws.toArray n n2 dd dd2 sl sl2 (by grind) (by grind) (by grind)) ⟨ho,ho2,?_⟩
  rw[e];exact h2 hw
noncomputable def eZ(n d:Nat):Option Int->Nat
 | none=>d
 | some v=>if v<0 then(v+(n:Int)).toNat else min v.toNat n
def AG(n d:Nat):eZ n d none=d:=rfl
def yc(n d k:Nat):eZ n d (some (k:Int))=min k n:=by
 show(if(k:Int)<0 then((k:Int)+(n:Int)).toNat else min (k:Int).toNat n)=min k n
 rw[if_neg (by lia),ei]
def U7(n d:Nat)(hd:d<=n)(o:Option Int):eZ n d o<=n:=by
 cases o with
 | none=>exact hd
 | some v =>
  show(if v<0 then(v+(n:Int)).toNat else min v.toNat n)<=n
  by_cases hv:v<0
  ·grind
  ·grind
def Ga(v:Int)(n d:Nat):(if v<0 then max (v+(n:Int)) 0 else min v (n:Int))=((eZ n d (some v):Nat):Int):=by
 show(if v<0 then max (v+(n:Int)) 0 else min v (n:Int))=(((if v<0 then(v+(n:Int)).toNat else min v.toNat n):Nat):Int)
 by_cases hv:v<0
 ·grind
 ·grind
def Ec(lo hi:Option Int)(n:Nat):Builtin.Slice.sliceAdjust lo hi 1 (n:Int)=(((eZ n 0 lo:Nat):Int),((eZ n n hi:Nat):Int)):=by
 have h1:¬(1<0):=by lia
 unfold Builtin.Slice.sliceAdjust;simp only[h1,jH];refine Prod.ext ?_ ?_
 ·cases lo with
  | none=>rfl
  | some v=>exact Ga v n 0
 ·cases hi with
  | none=>rfl
  | some v=>exact Ga v n n
def Ed(i j:Nat):Builtin.Slice.slicePlaces (i:Int) (j:Int) 1=j-i:=by
 unfold Builtin.Slice.slicePlaces;have h1:1>0:=by lia
 simp only[h1,iZ,Int.ediv_one];split<;>lia
def tj(p:IsPart v o)(h:Q o s):wpAny (model prog w) A (Builtin.Slice.slicePartIndex v) Q E s:=by
 cases p with
 | none=>exact slicePart_none h
 | int i t=>exact slicePart_int h
def jr{vl vu:Value}{lo hi:Option Int}{n:Nat}{Q:Int×Int×Nat->Shared->Prop}(hs:s.heap.IsSliceOf sl vl vu .none)(pl:IsPart vl lo)(pu:IsPart vu hi)
  (h:Q (((eZ n 0 lo:Nat):Int),1,eZ n n hi-eZ n 0 lo) s):wpAny (model prog w) A (Builtin.Slice.sliceApplied (.ref sl) (pure (n:Int))) Q E s:=by
 obtain⟨os,N4,O4,Y7⟩:=id hs;unfold Builtin.Slice.sliceApplied Builtin.Slice.sliceFields;refine af (af (kj N4 Y7 rfl (af (kj N4 Y7 rfl (af (kj N4 Y7 rfl (aj ?_)))))));refine af (slicePart_none ?_);rw[if_neg (by decide)]
 refine af (tj pl (af (tj pu (af (aj ?_)))));show wpAny _ _ (match Builtin.Slice.sliceAdjust lo hi 1 (n:Int)with | (lo,hi)=>pure (lo,(1:Int),Builtin.Slice.slicePlaces lo hi 1)) _ _ s
 rw[Ec lo hi n];show wpAny _ _ (pure (((eZ n 0 lo:Nat):Int),(1:Int),Builtin.Slice.slicePlaces ((eZ n 0 lo:Nat):Int) ((eZ n n hi:Nat):Int) 1)) _ _ s;rw[Ed];exact aj h
def Le(xs:Array Value)(i k:Nat):((List.range k).filterMap fun(m:Nat)=>xs[((i:Int)+(m:Int)*1).toNat]?).toArray=((xs.toList.drop i).take k).toArray:=by
 have e:(fun(m:Nat)=>xs[(i+(m:Int)*1).toNat]?)=λm=>xs[i+m]?:=by
  grind
 rw[e];have:=pick_run xs i k;rw[List.filterMap_map]at this;have e2:((λx=>xs[x]?) ∘ λx=>i+x)=λm=>xs[i+m]?:=rfl
 rw[e2]at this;rw[this]
def mT{items:Array Value}{vl vu:Value}{lo hi:Option Int}{Q:Value->Shared->Prop}(ht:IsTup s.heap t items)(hs:s.heap.IsSliceOf sl vl vu .none)(pl:IsPart vl lo)(pu:IsPart vu hi)
  (hw:¬(eZ items.size 0 lo=0/\eZ items.size items.size hi=items.size))
  (h:Q (.ref s.heap.objs.size) {s with heap:=s.heap.push {cls:=.type "tuple",data:=.seq ((items.toList.drop (eZ items.size 0 lo)).take (eZ items.size items.size hi-eZ items.size 0 lo)).toArray}})
  (hsz:items.size<=sizeLine):wpAny (model prog w) A (getItem (.ref t) (.ref sl)) Q E s:=by
 have Gb:sizeOk (.seq ((items.toList.drop (eZ items.size 0 lo)).take (eZ items.size items.size hi-eZ items.size 0 lo)).toArray):=by
  show((items.toList.drop (eZ items.size 0 lo)).take (eZ items.size items.size hi-eZ items.size 0 lo)).toArray.size<=sizeLine;rw[fw,jG,sF,cY]
  lia
 have hj:eZ items.size items.size hi<=items.size:=U7 _ _ (aq _) hi;obtain⟨os,N4,O4,Y7⟩:=id hs;have Su:s.TypeIs (.ref sl) "slice":=⟨os,N4,O4⟩;unfold getItem
 try with_reducible refine eS ?_
 first | refine af (aj ?_) | skip
 refine af (wpAny_sequenceKey ht.typeIs (by decide) ?_)
 refine af (j8 ht.typeIs om
  (ig om ht.typeIs entry_tuple_getitem ?_ (args_tuple_getitem _ _)))
 show wpAny _ _ (Builtin.Tuple.tupleItemsOf (.ref t) >>= _) _ _ s;refine af (tupleItemsOf_ ht ?_);refine af (oJ Su ?_);rw[if_pos (by decide)]
 refine af (jr hs pl pu ?_);have hno:¬((((eZ items.size 0 lo:Nat):Int)==0&&(1:Int)==1&&(eZ items.size items.size hi-eZ items.size 0 lo)==items.size)=true):=by
  grind
 show wpAny _ _ (if(((eZ items.size 0 lo:Nat):Int)==0&&(1:Int)==1&&(eZ items.size items.size hi-eZ items.size 0 lo)==items.size)=true then _ else _) _ _ s
 rw[if_neg hno,Le]
 first
  | exact af (m:=Builtin.Tuple.tupleExact _) (iS (aj ⟨_,rfl,aj h⟩) Gb)
  | exact af (m:=Builtin.Tuple.tupleExact _) (iS (af (aj (aj ⟨_,rfl,aj h⟩))) Gb)
  | exact af (af (m:=Builtin.Tuple.tupleExact _) (iS (aj (aj ⟨_,rfl,aj h⟩)) Gb))
  | exact af (af (m:=Builtin.Tuple.tupleExact _) (iS (aj ⟨_,rfl,aj h⟩) Gb))
end
end HT
namespace L2
open PySem PySem.Spec PyProof.Rows
abbrev TO:=St->Hp->(Option Int->Hp->Prop)->Prop
def PO(X:Cx)(e:Option Expr)(t:TO):Prop :=
 ∀(ae:List (Addr×Obj)) (s:Shared) (σ:St) (H:Hp) (Q:Option Int->Hp->Prop),Inv X ae σ H s->t σ H Q ->
  wpAny (model X.prog X.w) X.A (evalPart e X.env) (λu s'=>∃o H',Inv X ae σ H' s'/\IsPart u o/\Q o H') X.xe s
def O5:TO:=λ_ H Q=>Q none H
def Y8(t:TE):TO:=λσ H Q=>t σ H λx H1=>∃i,x=.int i/\Q (some i) H1
def mf:∀{us:List Value},Vals (ns.map V.int) us->IntsAre us ns:=by
 induction ns with
 | nil=>intro us r;rw[oM]at r;cases r;exact .nil
 | cons n ns ih =>
  intro us r;rw[aE]at r;cases r with
  | cons r1 r2 =>
   obtain⟨t,e⟩:=r1;subst e;exact .cons n t (ih r2)
section
variable {X:Cx} {e:Expr} {te:TE} {lo hi:Option Expr} {tl th:TO} {pos p2:Pos}
def O6:PO X none O5:=by
 intro ae s σ H Q I h;rw[evalPart_none];exact aj ⟨none,H,I,.none,h⟩
def O7(h:PE X e te):PO X (some e) (Y8 te):=by
 intro ae s σ H Q I hw;rw[evalPart_some];refine thn (h ae s σ H _ I hw) λu s1 ⟨x,H1,I1,r1,q1⟩=>?_
 obtain⟨i,rfl,q⟩:=q1;obtain⟨t,rfl⟩:=r1;exact⟨some i,H1,I1,.int i t,q⟩
def SlR(X:Cx)(r:V->Option Int->Option Int->Hp->VK->Prop):Prop :=
 ∀(ae:List (Addr×Obj)) (s:Shared) (σ:St) (H:Hp) (x:V) (v vl vu:Value) (lo hi:Option Int) (sl:Addr) (Q:VK),Inv X ae σ H s->RelV x v->s.heap.IsSliceOf sl vl vu .none->IsPart vl lo->IsPart vu hi->r x lo hi H Q ->
  ∃T id,typeLookup (.type T) "__getitem__"=pure (some (.builtin id))/\s.TypeIs v T/\wpAny (model X.prog X.w) X.A (getItem v (.ref sl)) (EP X ae σ Q) X.xe s
def tSl(r:V->Option Int->Option Int->Hp->VK->Prop)(te:TE)(tl th:TO):TE:=λσ H Q=>te σ H λx H1=>tl σ H1 λl H2=>th σ H2 λu H3=>r x l u H3 Q
def Lf{r:V->Option Int->Option Int->Hp->VK->Prop}(hr:SlR X r)(he:PE X e te)(hl:PO X lo tl)(hu:PO X hi th):PE X (.Subscript e (.Slice lo hi none p2) pos) (tSl r te tl th):=by
 intro ae s σ H Q I h;refine Subscript_ (thn (he ae s σ H _ I h) λv s1 ⟨x,H1,I1,r1,q1⟩=>?_)
 refine wpAny_Slice (thn (hl ae s1 σ H1 _ I1 q1) λvl s2 ⟨l,H2,I2,pl,q2⟩=>thn (hu ae s2 σ H2 _ I2 q2) λvu s3 ⟨u,H3,I3,pu,q3⟩=>?_)
 rw[evalPart_none];refine aj ?_;have I4:Inv X ae σ H3 {s3 with heap:=s3.heap.push {cls:=.type "slice",data:=.fields #[vl,vu,.none]}}:=I3.kept λb ob q=>bj _ q
 obtain⟨T,id,hT,ht,hg⟩:=hr ae {s3 with heap:=s3.heap.push {cls:=.type "slice",data:=.fields #[vl,vu,.none]}} σ H3 x v vl vu l u s3.heap.objs.size Q I4 r1 (Heap.IsSliceOf.new ..) pl pu q3
 show wpAny (model X.prog X.w) X.A (subscriptTail e (.Slice lo hi none p2) v (.ref s3.heap.objs.size)) (EP X ae σ Q) X.xe {s3 with heap:=s3.heap.push {cls:=.type "slice",data:=.fields #[vl,vu,.none]}}
 exact tail_any ht hT hg (by with_unfolding_all rfl)
def AH(xs:List V)(lo hi:Option Int):List V:=(xs.drop (HT.eZ xs.length 0 lo)).take (HT.eZ xs.length xs.length hi-HT.eZ xs.length 0 lo)
def pW(xs:List V)(lo hi:Option Int):(AH xs lo hi).length<=xs.length:=by
 unfold AH;rw[jG,sF]
 lia
def adG(K:W.Frag):V->Option Int->Option Int->Hp->VK->Prop:=λx lo hi H Q=>∃a xs,x=.ref a/\jm K H a xs /\
 ¬(HT.eZ xs.length 0 lo=0/\HT.eZ xs.length xs.length hi=xs.length)/\∀p,H p=none->Q (.ref p) (c5 H p (.ao (AH xs lo hi)))
def U8:SlR X (adG X.K):=by
 intro ae s σ H x v vl vu lo hi sl Q I rx hs pl pu h;obtain⟨a,xs,rfl,hx,hw,q⟩:=h;cases rx;obtain⟨aG,r,ht,hz⟩:=I.tuple hx;have eF:aG.toArray.size=xs.length:=by rw[fw];exact r.length.symm
 refine⟨"tuple",_,om.lookup,ht.typeIs,?_⟩;refine HT.mT ht hs pl pu (by grind) ?_ (by grind)
 rw[eF];refine⟨.ref s.heap.objs.size,_,I.laid (λb ob q=>bj _ q) (aq _) ?_,rfl,q _ (I.hok.fresh (aq _))⟩
 exact⟨br (pW xs lo hi) hz,_,(r.drop (HT.eZ xs.length 0 lo)).take (HT.eZ xs.length xs.length hi-HT.eZ xs.length 0 lo),IsTup.new _ _⟩
def Y9(K:W.Frag):R2:=λx y H Q=>∃a b xs ys,x=.ref a/\y=.ref b/\jm K H a xs/\jm K H b ys/\xs≠[]/\xs.length+ys.length<=sizeLine /\
 (ys=[]->Q (.ref a) H)/\(ys≠[]->∀p,H p=none->Q (.ref p) (c5 H p (.ao (xs++ys))))
def Vals.mU(r:Vals xs us):us=[]↔xs=[]:=by
 cases r with
 | nil=>simp
 | cons _ _=>simp
def O8:OpR X (binaryOp .Add) (Y9 X.K):=by
 intro ae s σ H x y v u Q I rx ry h;obtain⟨a,b,xs,ys,rfl,rfl,ha,hb,hx,hz,q1,q2⟩:=h;cases rx;cases ry;obtain⟨aG,r1,p1,_⟩:=I.tuple ha;obtain⟨il,r2,p2,_⟩:=I.tuple hb;refine HT.F9 p1 p2 (λz=>hx (r1.mU.mp z)) (λz=>⟨.ref a,H,I,rfl,q1 (r2.mU.mp z)⟩) (λz=>?_) (by rw[<-r1.length,<-r2.length];exact hz)
 refine⟨.ref s.heap.objs.size,_,I.laid (λb ob q=>bj _ q) (aq _) ?_,rfl,q2 (λw=>z (r2.mU.mpr w)) _ (I.hok.fresh (aq _))⟩
 exact⟨by grind,_,r1.append r2,IsTup.new _ _⟩
end
noncomputable def O9(n:Nat)(i:Int):Option Nat:=if 0<=i then(if i<n then some i.toNat else none)else if -(n:Int)<=i then some (i+n).toNat else none
def mh{α:Type}(xs:List α)(i:Int):Option α:=(O9 xs.length i).bind λj=>xs[j]?
def Gd(h:O9 n i=some j):seqIndex? i n=some j/\j<n /\ -(n:Int)<=i/\i<n:=by
 unfold O9 at h;by_cases h0:0<=i
 ·rw[if_pos h0]at h;by_cases h1:i<n
  ·rw[if_pos h1]at h;have e:=cC h;exact⟨by rw[seqIndex_of h0 h1,e],by lia,by lia,h1⟩
  ·grind
 ·rw[if_neg h0]at h;by_cases h1:-n<=i
  ·rw[if_pos h1]at h;have e:=cC h;exact⟨by rw[seqIndex_neg (by lia) h1,e],by lia,h1,by lia⟩
  ·grind
def yd{α:Type}{xs:List α}{i:Int}{v:α}(h:mh xs i=some v):∃j,seqIndex? i xs.length=some j/\xs[j]?=some v/\j<xs.length /\ -(xs.length:Int)<=i/\i<xs.length:=by
 unfold mh at h;cases e:O9 xs.length i with
 | none=>rw[e]at h;cases h
 | some j =>
  rw[e]at h;obtain⟨h1,h2,h3,h4⟩:=Gd e;exact⟨j,h1,h,h2,h3,h4⟩
def atI_nat{α:Type}{xs:List α}{j:Nat}{v:α}(h:xs[j]?=some v):mh xs (j:Int)=some v:=by
 have hj:=(cz.mp h).1;have e:O9 xs.length j=some j:=by
  unfold O9;rw[if_pos (by lia),if_pos (by lia)];simp
 unfold mh;rw[e];exact h
def q8(b:Expr):Prop:=∀o i,subscripted b false o i=operate [o,i] (getItem o i)
def X3(X:Cx)(r:R2):Prop :=
 ∀(value slice:Expr) (ae:List (Addr×Obj)) (s:Shared) (σ:St) (H:Hp) (x y:V) (v u:Value) (Q:VK),Inv X ae σ H s->RelV x v->RelV y u->r x y H Q ->
  subscripted slice false v u=operate [v,u] (getItem v u)->wpAny (model X.prog X.w) X.A (subscriptTail value slice v u) (EP X ae σ Q) X.xe s
def MtR(X:Cx)(id:String)(r:V->List V->Hp->VK->Prop):Prop :=
 ∀(ae:List (Addr×Obj)) (s:Shared) (σ:St) (H:Hp) (x:V) (xs:List V) (v:Value) (us:List Value) (Q:VK),Inv X ae σ H s->RelV x v->Vals xs us->r x xs H Q ->
  wpAny (model X.prog X.w) X.A (call (.builtin id) (v::us)) (EP X ae σ Q) X.xe s
section
variable {X:Cx} {a b:Expr} {ta tb:TE} {pos:Pos}
def Sv(hr:X3 X r)(ha:PE X a ta)(hb:PE X b tb)(hs:q8 b):PE X (.Subscript a b pos) (X2 r ta tb):=by
 intro ae s σ H Q I h;exact Subscript_ (OL ha hb I h λv u s2 x y H2 I2 rx ry q=>hr a b ae s2 σ H2 x y v u Q I2 rx ry q (hs _ _))
def adH(K:W.Frag):R2:=λx y H Q=>∃p xs i v,x=.ref p/\y=.int i/\xY K H p xs/\mh xs i=some v/\Q v H
def adI(K:W.Frag):R2:=λx y H Q=>∃p xs i v,x=.ref p/\y=.int i/\jm K H p xs/\mh xs i=some v/\Q v H
def adJ:R2:=λx y H Q=>∃z i c,x=.str z/\y=.int i/\z.length<=sizeLine/\mh z.cps.toList i=some c/\Q (.str ⟨#[c]⟩) H
def Pa:X3 X (adH X.K):=by
 intro value slice ae s σ H x y v u Q I rx ry h hs;obtain⟨p,xs,i,z,rfl,rfl,hq,he,q⟩:=h;cases rx;obtain⟨t,rfl⟩:=ry;obtain⟨aG,r,pl,hz⟩:=I.list hq;obtain⟨j,h1,h2,h3,h4,h5⟩:=yd he;obtain⟨w,ew,U9⟩:=r.get h2;have hl:=r.length;have hn:=me;have fin:EP X ae σ Q w s:=⟨z,H,I,U9,q⟩;by_cases h0:0<=i
 ·have hj:i.toNat=j:=by
   rw[seqIndex_of h0 h5]at h1;exact cC h1
  exact item_listR pl.isList h0 (by lia) (by grind) fin hs
 ·have hj:(i+(aG.toArray.size:Int)).toNat=j:=by
   rw[seqIndex_neg (by lia) h4]at h1
   rw[fw,<-hl];exact cC h1
  exact subscriptTail_builtinR pl.isList.typeIs slot_list_getitem.lookup
   (wpAny_getItem_list_neg pl.isList (by lia) (by grind) (by lia) (by grind) ⟨rfl,fin⟩) hs
def Va:X3 X (adI X.K):=by
 intro value slice ae s σ H x y v u Q I rx ry h hs;obtain⟨p,xs,i,z,rfl,rfl,hq,he,q⟩:=h;cases rx;obtain⟨t,rfl⟩:=ry;obtain⟨aG,r,pl,hz⟩:=I.tuple hq;obtain⟨j,h1,h2,h3,h4,h5⟩:=yd he;obtain⟨w,ew,U9⟩:=r.get h2;have hl:=r.length;have hn:=me;have fin:EP X ae σ Q w s:=⟨z,H,I,U9,q⟩;exact subscriptTail_builtinR pl.typeIs slot_tuple_getitem.lookup
  (getItem_tuple pl (by lia) (by lia) (by rw[fw,<-hl];exact h1) (by grind) ⟨rfl,fin⟩) hs
def Vb:X3 X adJ:=by
 intro value slice ae s σ H x y v u Q I rx ry h hs;obtain⟨z,i,c,rfl,rfl,hz,he,q⟩:=h;obtain⟨t,rfl⟩:=rx;obtain⟨t',rfl⟩:=ry;obtain⟨j,h1,h2,h3,h4,h5⟩:=yd he;have hl:z.cps.toList.length=z.length:=by simp[Str.length]
 rw[hl]at h1 h4 h5;have hn:=me;exact tail_any (typeIs_str s z t) slot_str_getitem.lookup (getItem_str (by
  grind) (by grind) ⟨.str ⟨#[c]⟩,H,I.tok _,⟨_,rfl⟩,q⟩) hs
def Ee(aG:List Value)(n j:Nat)(u:Value):Obj.mapSeq (·.setIfInBounds j u) {cls:=.type "list",data:=.seq aG.toArray n}={cls:=.type "list",data:=.seq (aG.set j u).toArray n}:=by
 simp[Obj.mapSeq]
def Inv.lst{ae:List (Addr×Obj)}{σ:St}{H:Hp}{s:Shared}{p:Addr}{xs:List V}(I:Inv X ae σ H s)(h:H p=some (.lst xs)) :
  ∃(aG:List Value) (n:Nat),Vals xs aG/\s.heap.get? p=some {cls:=.type "list",data:=.seq aG.toArray n}/\xs.length<=sizeLine:=by
 obtain⟨z,aG,n,r,e⟩:=I.hok p _ h;exact⟨aG,n,r,e,z⟩
def Inv.Vc{ae:List (Addr×Obj)}{σ:St}{H:Hp}{s:Shared}{p:Addr}{xs ys:List V}{aG qA:List Value}{n n':Nat}{f:Obj->Obj}(I:Inv X ae σ H s)(h:H p=some (.lst xs))
  (ho:s.heap.get? p=some {cls:=.type "list",data:=.seq aG.toArray n}) (hf:f {cls:=.type "list",data:=.seq aG.toArray n}={cls:=.type "list",data:=.seq qA.toArray n'}) (r:Vals ys qA) (hz:ys.length<=sizeLine) (t:Nat) :
  Inv X ae σ (c5 H p (.lst ys)) {s with heap:=s.heap.update p f,toks:=t}:=by
 have e:(s.heap.update p f).get? p=some {cls:=.type "list",data:=.seq qA.toArray n'}:=by
  rw[sg f ho (by rw[hf]<;>rfl),hf]
 refine I.write (by rw[h];trivial) (.inl rfl) (λb u hb q=>(xh _ _ (dU hb)).trans q) ⟨_,e⟩ ?_
 exact⟨hz,qA,n',r,e⟩
def Za:V->V->V->Hp->(Hp->Prop)->Prop:=λo i v H Q=>∃p xs k j,o=.ref p/\i=.int k/\H p=some (.lst xs)/\O9 xs.length k=some j/\Q (c5 H p (.lst (xs.set j v)))
def Lg:KP X Za:=by
 intro ae s σ H o i v ov iv u Q I ro ri rv h;obtain⟨p,xs,k,j,rfl,rfl,hp,hj,q⟩:=h;cases ro;obtain⟨t,rfl⟩:=ri;obtain⟨aG,n,r,ho,hz⟩:=I.lst hp;obtain⟨h1,h2,h3,h4⟩:=Gd hj;have hl:=r.length;have hn:=me;have I':Inv X ae σ (c5 H p (.lst (xs.set j v))) {s with heap:=s.heap.update p (Obj.mapSeq (·.setIfInBounds j u))} :=
  I.Vc hp ho (Ee aG n j u) (r.set rv j) (by grind) s.toks
 by_cases h0:0<=k
 ·have hk:k.toNat=j:=by
   rw[seqIndex_of h0 h4]at h1;exact cC h1
  exact W.ki_setAt ho h0 (by lia) (by grind) (by grind)
 ·have hk:(k+(aG.toArray.size:Int)).toNat=j:=by
   rw[seqIndex_neg (by lia) h3]at h1
   rw[fw,<-hl];exact cC h1
  exact W.ki_setBack ho (by lia) (by grind) (by lia) (by grind)
def ye(lo hi:Option Int)(n:Nat):(sliceBounds lo hi none n).1=((HT.eZ n 0 lo:Nat):Int)/\(sliceBounds lo hi none n).2.1=((HT.eZ n n hi:Nat):Int)/\(sliceBounds lo hi none n).2.2=1:=by
 refine⟨?_,?_,rfl⟩
 ·cases lo with
  | none=>simp[sliceBounds,HT.eZ]
  | some i =>
   simp only[sliceBounds,HT.eZ,DK,show 1>0 by decide,iZ]
   by_cases h:i<0
   ·grind
   ·grind
 ·cases hi with
  | none=>simp[sliceBounds,HT.eZ]
  | some i =>
   simp only[sliceBounds,HT.eZ,DK,show 1>0 by decide,iZ]
   by_cases h:i<0
   ·grind
   ·grind
def vj(aG:List Value)(lo hi:Option Int):slicePick aG.toArray lo hi none=((aG.drop (HT.eZ aG.length 0 lo)).take (HT.eZ aG.length aG.length hi-HT.eZ aG.length 0 lo)).toArray:=by
 obtain⟨h1,h2,h3⟩:=ye lo hi aG.toArray.size;unfold slicePick;rw[h1,h2,h3];simp only[sliceRange_one,pick_run,fw]<;>rfl
def adK(K:W.Frag):V->Option Int->Option Int->Hp->VK->Prop:=λx lo hi H Q=>∃a xs,x=.ref a/\xY K H a xs/\∀p,H p=none->Q (.ref p) (c5 H p (.lst (AH xs lo hi)))
def Pb:SlR X (adK X.K):=by
 intro ae s σ H x v vl vu lo hi sl Q I rx hs pl pu h;obtain⟨a,xs,rfl,hx,q⟩:=h;cases rx;obtain⟨aG,r,ht,hz⟩:=I.list hx;have eF:=r.length;refine⟨"list",_,slot_list_getitem.lookup,ht.isList.typeIs,?_⟩;refine wpAny_getItem_list_slice ht.isList hs pl pu .none (by simp) ?_ (by grind)
 rw[vj,<-eF];refine⟨.ref s.heap.objs.size,_,I.laid (λb ob q=>bj _ q) (aq _) ?_,rfl,q _ (I.hok.fresh (aq _))⟩
 exact⟨br (pW xs lo hi) hz,_,0,(r.drop (HT.eZ xs.length 0 lo)).take (HT.eZ xs.length xs.length hi-HT.eZ xs.length 0 lo),cJ _ rfl⟩
def mV:mQ X (.builtin "len") (λxs H Q=>∃p ys,xs=[.ref p]/\(xY X.K H p ys\/jm X.K H p ys)/\Q (.int ys.length) H):=by
 intro ae s σ H xs us Q I r h;obtain⟨p,ys,rfl,hq,q⟩:=h;obtain⟨u,rfl,rx⟩:=jY r;cases rx;have hn:=me;rcases hq with hq | hq
 ·obtain⟨aG,r',pl,hz⟩:=I.list hq;have eF:=r'.length;exact Calls.call_len_list pl.isList (by grind) ⟨.int ys.length,H,I.tok _,⟨s.toks+1,by grind⟩,q⟩
 ·obtain⟨aG,r',pl,hz⟩:=I.tuple hq;have eF:=r'.length;exact len_tuple pl (by grind) ⟨.int ys.length,H,I.tok _,⟨s.toks+1,by grind⟩,q⟩
def yf:mQ X (.builtin "len") (λxs H Q=>∃z,xs=[.str z]/\z.length<=sizeLine/\Q (.int z.length) H):=by
 intro ae s σ H xs us Q I r h;obtain⟨z,rfl,hz,q⟩:=h;obtain⟨u,rfl,t,rfl⟩:=jY r;have hn:=me;exact len_str (by lia) ⟨.int z.length,H,I.tok _,⟨_,rfl⟩,q⟩
def lA:mQ X (.type "tuple") (λxs H Q=>∃p ys,xs=[.ref p]/\((xY X.K H p ys/\∀l,H l=none->Q (.ref l) (c5 H l (.ao ys)))\/(jm X.K H p ys/\Q (.ref p) H))):=by
 intro ae s σ H xs us Q I r h;obtain⟨p,ys,rfl,h⟩:=h;obtain⟨u,rfl,rx⟩:=jY r;cases rx;rcases h with⟨hq,q⟩ | ⟨hq,q⟩
 ·obtain⟨aG,r',pl,hz⟩:=I.list hq;have eF:=r'.length;refine call_tuple_list pl.isList (λh' kp=>?_) (by grind)
  have I1:=I.kept (t':=s.toks) kp;have I2:Inv X ae σ (c5 H h'.objs.size (.ao ys)) {s with heap:=h'.push {cls:=.type "tuple",data:=.seq aG.toArray}} :=
   I1.laid (λb o e=>bj _ e) (aq _) (⟨hz,aG,r',IsTup.new _ _⟩)
  exact⟨.ref h'.objs.size,_,I2,rfl,q _ (I1.hok.fresh (aq _))⟩
 ·obtain⟨aG,r',pl,hz⟩:=I.tuple hq;exact call_tuple_same pl ⟨.ref p,H,I,rfl,q⟩
def tyV(K:W.Frag)(T:String)(x:V)(H:Hp):Prop:=match x with
 | .str _=>T="str"
 | .int _=>T="int"
 | .ref p=>(T="list"/\∃xs,xY K H p xs)\/(T="tuple"/\∃o,K.lookup p=some o/\o.cls=.type "tuple"/\o.dict=none) \/
   (T="dict"/\((∃kvs,H p=some (.dK kvs))\/∃kvs,H p=some (.dT kvs)))\/(T="set"/\∃S n,H p=some (.set S n))
 | _=>False
def Lh{ae:List (Addr×Obj)}{σ:St}{H:Hp}{s:Shared}{T:String}{x:V}{v:Value}(I:Inv X ae σ H s)(r:RelV x v)(ty:tyV X.K T x H) :
  s.TypeIs v T/\∀a,v=.ref a->∃ob,s.heap.get? a=some ob/\ob.dict=none:=by
 cases x with
 | str z =>
  obtain⟨t,rfl⟩:=r;cases(ty);exact⟨typeIs_str s z t,λ_ e=>nomatch e⟩
 | int i =>
  obtain⟨t,rfl⟩:=r;cases(ty);exact⟨typeIs_int s i t,λ_ e=>nomatch e⟩
 | ref p =>
  cases r;rcases ty with⟨rfl,xs,hq⟩ | ⟨rfl,o,hk,hc,hd⟩ | ⟨rfl,hk⟩ | ⟨rfl,S,n,hk⟩
  ·obtain⟨aG,_,pl,_⟩:=I.list hq;refine⟨pl.isList.typeIs,λa e=>?_⟩
   cases e;obtain⟨o,n,e,c,hd,_⟩:=pl;exact⟨o,e,hd⟩
  ·refine⟨⟨o,I.sX p o hk,hc⟩,λa e=>?_⟩
   cases e;exact⟨o,I.sX _ o hk,hd⟩
  ·have z:∃o,s.heap.get? p=some o/\o.ExactDict:=by
    rcases hk with⟨kvs,hk⟩ | ⟨kvs,hk⟩
    ·obtain⟨_,_,_,_,o,_,_,e,ex,_⟩:=I.hok p _ hk;exact⟨o,e,ex⟩
    ·obtain⟨_,_,o,_,_,e,ex,_⟩:=(I.hok p _ hk);exact⟨o,e,ex⟩
   obtain⟨o,e,ex⟩:=z;refine⟨⟨o,e,ex.1⟩,λa e2=>?_⟩
   cases e2;exact⟨o,e,ex.2.1⟩
  ·obtain⟨o,_,_,_,e,ex,_⟩:=I.hok p _ hk;refine⟨⟨o,e,ex.1⟩,λa e2=>?_⟩
   cases e2;exact⟨o,e,ex.2.1⟩
 | _=>exact False.elim ty
def Zb(K:W.Frag)(T:String)(r:V->List V->Hp->VK->Prop)(to:TE):TE:=λσ H Q=>to σ H λx H1=>tyV K T x H1/\r x [] H1 Q
def tBM(K:W.Frag)(T:String)(r:V->List V->Hp->VK->Prop)(to:TE)(t:TA):TE:=λσ H Q=>to σ H λx H1=>tyV K T x H1/\t σ H1 λxs H2=>r x xs H2 Q
variable {o e:Expr} {es:List Expr} {to:TE} {t:TA} {name:Str} {sQ k8:Pos} {T id:String} {r:V->List V->Hp->VK->Prop}
def Li(pa:PlainAttrs T)(slot:Slot T name id)(hty:typeOf (.builtin id)=pure (.type "method_descriptor"))(hm:MtR X id r)(ho:PE X o to)
  (lB:attributeBase o name X.env (eval o X.env)=eval o X.env:=by rfl) (jZ:(sQ.endLine==k8.line)=true:=by rfl):PE X (.Call (.Attribute o name sQ) [] [] k8) (Zb X.K T r to):=by
 intro ae s σ H Q I h;refine wpAny_Call_method0_late lB jZ (thn (ho ae s σ H _ I h) λv s1 z9=>?_)
 obtain⟨x,H1,I1,r1,ty,q1⟩:=z9;obtain⟨h1,h2⟩:=Lh I1 r1 ty;exact⟨T,id,pa,slot,hty,h1,h2,Calls.callWith_builtin rfl (PySem.evalArgs_none (hm ae s1 σ H1 x [] v [] Q I1 r1 .nil q1))⟩
def Ge(pa:PlainAttrs T)(slot:Slot T name id)(hty:typeOf (.builtin id)=pure (.type "method_descriptor"))(hm:MtR X id r)(ho:PE X o to)(ha:PA X (e::es) t)
  (lB:attributeBase o name X.env (eval o X.env)=eval o X.env:=by rfl)
  (Ia:((backTo k8 (starEach (e::es) X.env)).all (λx=>!x.1)&&(backToKw k8 (keywordEach [] X.env)).all (λx=>x.1.isSome)
   && decide ((e::es).length+([]:List Keyword).length+(if([]:List Keyword).isEmpty then 0 else 1)<30))=true:=by rfl)
  (jZ:(sQ.endLine==k8.line)=true:=by rfl) (hs:starEach (e::es) X.env=(false,eval e X.env)::starEach es X.env:=by rfl) (adM:(backTo k8 (starEach es X.env)).any (·.1)=false:=by rfl) :
  PE X (.Call (.Attribute o name sQ) (e::es) [] k8) (tBM X.K T r to t):=by
 intro ae s σ H Q I h;refine wpAny_Call_method_late lB Ia jZ rfl (thn (ho ae s σ H _ I h) λv s1 z9=>?_)
 obtain⟨x,H1,I1,r1,ty,q1⟩:=z9;obtain⟨h1,h2⟩:=Lh I1 r1 ty;refine⟨T,id,pa,slot,hty,h1,h2,?_⟩;have hA:=ha k8 ae s1 σ H1 _ I1 q1;rw[hs]at hA ⊢;refine Calls.callWith_builtin (by grind) (Calls.evalArgs_plain ?_)
 exact thn hA (by rintro us s2 ⟨vs,H2,I2,r2,q2⟩;exact hm ae s2 σ H2 x vs v us Q I2 r1 r2 q2)
end
def MtM(X:Cx)(id:String)(r:V->List V->Hp->VK->Prop):Prop :=
 ∀(ae:List (Addr×Obj)) (s:Shared) (σ:St) (H:Hp) (x:V) (xs:List V) (v:Value) (us:List Value) (Q:VK),Inv X ae σ H s->RelV x v->Vals xs us->r x xs H Q ->
  wpAny (model X.prog X.w) X.A (call (.builtin id) (v::us)) (EP X ae σ Q) X.xe s
theorem Vals.one:∀{x:V} {us:List Value},Vals [x] us->∃u,us=[u]/\RelV x u
 | _,_,.cons r .nil=>⟨_,rfl,r⟩
def Vals.two{x y:V}{us:List Value}(h:Vals [x,y] us):∃u v,us=[u,v]/\RelV x u/\RelV y v:=by
 cases h with
 | cons r h=>cases h with
  | cons q h=>cases h;exact⟨_,_,rfl,r,q⟩
theorem Vals.zero:∀{us:List Value},Vals [] us->us=[]
 | _,.nil=>rfl
def Vals.reverse(h:Vals xs us):Vals xs.reverse us.reverse:=by
 induction h with
 | nil=>exact .nil
 | cons r t ih=>rw[xw,xw];exact Vals.append ih (.cons r .nil)
section
variable {X:Cx} {ae:List (Addr×Obj)} {σ:St} {H:Hp} {s:Shared} {l b:Addr} {xs ys zs:List V}
def Inv.Pc{aG qA:List Value}{n:Nat}{f:Array Value->Array Value}{t':Nat}(I:Inv X ae σ H s)(hH:H l=some (.lst xs))
  (e:s.heap.get? l=some {cls:=.type "list",data:=.seq aG.toArray n}) (hf:f aG.toArray=qA.toArray) (hv:Vals ys qA) (hz:ys.length<=sizeLine) :
  Inv X ae σ (c5 H l (.lst ys)) {s with heap:=s.heap.update l (Obj.mapSeq f),toks:=t'}:=by
 have q:=PySem.IsL.update e f;rw[hf]at q;refine I.write (by rw[hH];exact trivial) (.inl rfl) (λb' u hb hu=>(xh s.heap (Obj.mapSeq f) (dU hb)).trans hu) ⟨_,q⟩ ?_
 exact⟨hz,qA,_,hv,q⟩
def Inv.adN(I:Inv X ae σ H s)(hv:Vals ys aG)(hz:ys.length<=sizeLine) :
  Inv X ae σ (c5 H s.heap.objs.size (.lst ys)) {s with heap:=s.heap.push {cls:=.type "list",data:=.seq aG.toArray},toks:=t'} :=
 I.laid (λ_ _ q=>bj _ q) (aq _) ⟨hz,aG,0,hv,cJ _ rfl⟩
def Inv.fresh(I:Inv X ae σ H s):H s.heap.objs.size=none:=I.hok.fresh (aq _)
def Inv.i8(I:Inv X ae σ H s)(hH:H l=some (.lst xs)):xs.length<=sizeLine/\∃(aG:List Value) (n:Nat),Vals xs aG/\xs.length=aG.length/\s.heap.get? l=some {cls:=.type "list",data:=.seq aG.toArray n}:=by
 obtain⟨z,aG,n,r,e⟩:=I.hok l _ hH;exact⟨z,aG,n,r,r.length,e⟩
def Lj(h:n<=sizeLine):Builtin.List.listTooLong n=false:=by
 unfold Builtin.List.listTooLong;exact iV (by lia)
end
section
variable {X:Cx}
def Gf:V->List V->Hp->VK->Prop:=λx vs H Q=>∃l xs y,x=.ref l/\vs=[y]/\H l=some (.lst xs)/\xs.length<sizeLine/\Q .b9 (c5 H l (.lst (xs++[y])))
def Ib:MtM X "list.append" Gf:=by
 intro ae s σ H x vs v us Q I rx rv h;obtain⟨l,xs,y,rfl,rfl,hH,hz,q⟩:=h;cases rx;obtain⟨u,rfl,ru⟩:=rv.one;obtain⟨z,aG,n,r,hl,e⟩:=I.i8 hH;refine l8 F.slot_list_append ⟨_,e,rfl⟩ F.entry_list_append (F.args_list_append_2 _ _) (PySem.list_append l aG.toArray n u (by grind)) ⟨e,?_⟩
 refine⟨.b9,_,I.Pc hH e (by simp) (r.append (.cons ru .nil)) ?_,rfl,q⟩
 rw[bJ,List.length_singleton]
 lia
def AI:V->List V->Hp->VK->Prop:=λx vs H Q=>∃l xs,x=.ref l/\vs=[]/\H l=some (.lst xs)/\Q .b9 (c5 H l (.lst xs.reverse))
def Ef:MtM X "list.reverse" AI:=by
 intro ae s σ H x vs v us Q I rx rv h;obtain⟨l,xs,rfl,rfl,hH,q⟩:=h;cases rx;have hus:=rv.zero;subst hus;obtain⟨z,aG,n,r,hl,e⟩:=I.i8 hH;refine l8 F.slot_list_reverse ⟨_,e,rfl⟩ F.entry_list_reverse (F.args_list_reverse_1 _) (AutoSeq1.list_reverse_list_0 l aG.toArray n (by grind)) ⟨e,?_⟩
 refine⟨.b9,_,I.Pc hH e (by simp) r.reverse ?_,rfl,q⟩
 rw[List.length_reverse]
 lia
end
end L2
namespace Att
open PySem PySem.W PySem.Calls PyProof.Rows
def qD:∀(ns:List Int) (vs:List Value),WellAll P h vs (ns.map WData.int)->IntsAre vs ns:=by
 intro ns;induction ns with
 | nil =>
  intro vs w;rw[oM]at w;cases w;exact .nil
 | cons n ns ih =>
  intro vs w;rw[aE]at w;cases w with
  | cons a b =>
   cases a;exact .cons _ _ (ih _ b)
def Ic{l:OpenLaw}(hn:l.most=some n) 
  (Pd:l.row.toRowW.claim.pre args=true) (hwl:WellAll P h Zc args) :
  ∃a vs ns,Zc=[Value.ref a]/\args=[WData.list (ns.map WData.int)]/\h.get? a=some {cls:=.type "list",data:=.seq vs.toArray}/\IntsAre vs ns/\ns.length<=n:=by
 have hsh:=(pre_splitW Pd).1;have hc:l.pre.holds [] {args:=args}=true:=(pre_splitW Pd).2
 obtain⟨d,r,rfl,h1,h2⟩:=hasAllW_cons hsh;obtain rfl:=hasAllW_nil h2;obtain⟨xs,rfl,h3⟩:=hasW_list h1;obtain⟨ns,rfl⟩:=items_int h3;have eF:ns.length<=n:=by
  unfold OpenLaw.pre at hc;have h4:(WTm.not (.lt (.lit (.int n)) (.len (.arg 0)))).holds [] {args:=[.list (ns.map .int)]}=true:=by
   have h4:=(holds_andW hc).1;rw[hn]at h4;exact h4
  have h5:=condW_of h4 (w_not (w_lt w_lit (w_len_list (w_arg rfl))));rw[aD]at h5;refine oE λq=>?_
  have q':n<(ns.length:Nat):=by lia
  first
   | (rw[bX q']at h5;exact absurd h5 (by decide))
   | (simp at h5;lia)
 cases hwl with
 | cons w1 w2 =>
  cases w2;cases w1 with
  | list ho Ie=>exact⟨_,_,ns,rfl,rfl,ho,qD ns _ Ie,eF⟩
def Ig(l:OpenLaw)(args:List WData):l.row.toRowW.claim.post args (.bool true) args=true :=
 postW_of
  (show WShape.has [] (.bool true) .bool=true by first | rfl | decide | simp[WShape.has,WShape.arms,WShape.armsAll])
  (w_eq_bool (w_res rfl) w_lit) rfl
def AJ{l:OpenLaw}{n:Nat}{loose:List Str}{XP:(Str->Option Value)->Heap->Prop}{YP:World->Heap->Prop}{d:DefRec}
  (hn:l.most=some n) (hdf:d.params.defaults=[])
  (call:∀(w:World) (s₀ s₁:Shared) (mg mb:Str->Option Value) (fa:Addr) (o:Obj) (pm cd doc:Value) (a:Addr) (vs:List Value) (ns:List Int),
   Ground q loose [] XP w s₀ mg mb s₁.heap->YP w s₁.heap ->
   s₁.heap.get? fa=some o->o.data=.func (docDef d.name d.params d.body d.scope pm cd doc)->s₁.heap.CodeRec cd d.name->mg d.name=some (.ref fa) ->
   s₁.heap.get? a=some {cls:=.type "list",data:=.seq vs.toArray}->IntsAre vs ns->ns.length<=n->s₁.gens=#[] ->
   codeAny (model l.prog w) callerA (.call (.ref fa) ⟨[.ref a],[]⟩) (λr s'=>r=.ok (.ret (.bool true))/\OldK s₁.heap s'.heap/\s'.os=s₁.os/\AllBare s'.gens) s₁) :
  WalkO q loose XP YP l.row.toRowW d [] (λf vs=>PySem.call f vs):=by
 intro w s₀ s₁ mg mb G Y fa o pm cd doc dV kV ho hd FX hD Pe hg args Zc as Pd ahE hrd hwl hlo;obtain rfl:dV=.none:=Dflts.none hD hdf;obtain rfl:kV=.none:=Dflts.noKw hD;obtain⟨a,vs,ns,rfl,rfl,Lk,Ll,eF⟩:=Ic hn Pd hwl;refine enter_call (kf (call w s₀ s₁ mg mb fa o pm cd doc a vs ns G Y ho (fd_plain hd) FX Pe Lk Ll eF hg) λr s' hq=>?_)
 obtain⟨rfl,h2,h3,h4⟩:=hq;exact⟨.inl ⟨.bool true,.bool true,[],rfl,λ_=>rfl,.bool true,Ig l _,λ_=>⟨List.Pairwise.nil,λ_ hm=>(nomatch hm)⟩⟩,h2,h3,h4⟩
end Att
namespace L2
open PySem PySem.Spec PyProof.Rows
theorem vW:∀{vs:List Value} {ns:List Int},IntsAre vs ns->Vals (ns.map V.int) vs
 | _,_,.nil=>.nil
 | _,_,.cons n t h=>.cons ⟨t,rfl⟩ (vW h)
def Ih{P:Program}{w:World}{K:W.Frag}{mg mb:Str->Option Value}{CX:J0}{k:Nat}{fa a:Addr}{fd:FuncData}{x:Str}{sp:Sp}{s₁:Shared}{vs:List Value}{ns:List Int}{tabs:List (Addr×Str)}
  (KX:K.In s₁.heap) (Lm:s₁.heap.Ns mainGlobals mg) (hb:s₁.heap.Ns builtinsNs mb) (hbb:∀x:Str,x≠"__name__"->mb x=bootBuiltins x) (Pf:s₁.heap.NoLimit) (hg:s₁.gens=#[])
  (hT:∀b q,tabs.lookup b=some q->s₁.heap.get? b=some {cls:=.none,data:=.fields #[]}/\isCodeTable s₁.heap b/\K.lookup b=none) (hTI:∀H:Hp,(∀b q,tabs.lookup b=some q->H b=some (.DU q))->sW K H)
  (ha:s₁.heap.get? a=some {cls:=.type "list",data:=.seq vs.toArray}) (hi:IntsAre vs ns) (hl:ns.length<=sizeLine) (hr:dJ k callerA)
  (F:∀base:Heap,K.In base->base.Ns mainGlobals mg->FnOk P w K mg base CX k fa fd [x] sp) (Zd:∀(s:Shared) (u:Value),BindsTo s fd ⟨[u],[]⟩ [(x,u)])
  (O3:∀H:Hp,kP K H a (ns.map V.int)->sp [.ref a] H (λv _=>v=.bl true) λ_ _ _=>False) (hCX:∀H e s',CX [] H s₁ (λ_ _ _=>False) e s'->False) :
  codeAny (model P w) callerA (.call (.ref fa) ⟨[.ref a],[]⟩) (λr s'=>r=.ok (.ret (.bool true))/\OldK s₁.heap s'.heap/\s'.os=s₁.os/\AllBare s'.gens) s₁:=by
 have rv:=vW hi;have fB:=hi.length
 let oa:Obj:={cls:=.type "list",data:=.seq vs.toArray}
 let H:Hp:=λb=>if b=a/\K.lookup a=none then some (.pT oa (.lst (ns.map V.int)))else(tabs.lookup b).map HO.DU
 have adR:∀b,H b=if b=a/\K.lookup a=none then some (.pT oa (.lst (ns.map V.int)))else(tabs.lookup b).map HO.DU:=λ_=>rfl
 have hHt:∀b q,tabs.lookup b=some q->H b=some (.DU q):=λb q e=>by
  grind
 have hH:∀b u,H b=some u->(b=a/\K.lookup a=none/\u=.pT oa (.lst (ns.map V.int)))\/∃q,tabs.lookup b=some q/\u=.DU q:=λb u e=>by
  rw[adR]at e;by_cases h:b=a/\K.lookup a=none
  ·grind
  ·rw[if_neg h]at e;cases z:tabs.lookup b with
   | none=>rw[z]at e;cases e
   | some q=>rw[z]at e;cases e;exact .inr ⟨q,rfl,rfl⟩
 have hS:kP K H a (ns.map V.int):=by
  cases hk:K.lookup a with
  | some o =>
   have e:=KX a o hk;rw[ha]at e;cases e;exact .inr ⟨vs,_,hk,by grind,rv⟩
  | none=>exact .inl (.inr ⟨oa,by grind⟩)
 have hok:l9 P w H s₁.heap:=λb u e=>by
  rcases hH b u e with⟨rfl,_,rfl⟩ | ⟨q,hq,rfl⟩
  ·exact⟨ha,by grind,vs,_,rv,ha⟩
  ·exact⟨#[],(hT b q hq).1,trivial,λpos cv z=>by cases z⟩
 have noD:∀{b:Addr} {o:Obj} {es:Array DictEntry} {ep:Nat},s₁.heap.get? b=some o->o.data=.dict es ep->H b=none:=λ{b o es ep} e d=>by
  cases q:H b with
  | none=>rfl
  | some u =>
   rcases hH b u q with⟨rfl,_,_⟩ | ⟨t,ht,_⟩
   ·grind
   ·grind
 have nsK:∀{b:Addr} {m:Str->Option Value},s₁.heap.Ns b m->(Aw s₁.heap H).Ns b m:=λ{b m} ⟨o,es,ep,e,d,r⟩=>⟨o,es,ep,hidT_get e (noD e d),d,r⟩
 have hKb:K.In (Aw s₁.heap H):=λb o e=>hidT_get (KX b o e) (by
  cases q:H b with
  | none=>rfl
  | some u =>
   rcases hH b u q with⟨rfl,z,_⟩ | ⟨t,ht,_⟩
   ·grind
   ·rw[(hT b t ht).2.2]at e;cases e)
 have hM:Mod K mg (Aw s₁.heap H):=⟨hKb,nsK Lm,⟨mb,nsK hb,hbb⟩,let ⟨mc,h1,h2⟩:=Pf;⟨mc,nsK h1,h2⟩⟩
 have e0:Env0 P w K mg (Aw s₁.heap H) callerA [] s₁ H:=⟨rfl,hM,λb o e=>of_hidT e,gJ (HV _ _),trivial,λb hb=>absurd (show b∈([]:List Addr)from hb) (by simp),hok,.of_eq hg,hTI H hHt⟩
 refine kf ((F _ hKb (nsK Lm)).run callerA [] s₁ H ⟨[.ref a],[]⟩ [.ref a] [.ref a] _ _ hr e0 (Zd s₁ (.ref a)) (.cons rfl .nil) (O3 H hS)) λr s' h=>?_
 cases r with
 | error e=>exact(hCX H e s' h).elim
 | ok fl =>
  cases fl with
  | next=>exact False.elim h
  | brk=>exact False.elim h
  | cont=>exact False.elim h
  | ret u =>
   obtain⟨v,H',os,bare,un,Ze,r',q⟩:=h;have q':=q;subst q';obtain rfl:u=Value.bool true:=r';have noF:∀b:Addr,b∉oS []:=λb z=>absurd (show b∈([]:List Addr)from z) (by simp)
   refine⟨rfl,⟨λb o e=>?_,λb o e=>un.there b o e (by simp)⟩,os,bare⟩
   cases q:H b with
   | none=>exact .inl (un.keep b o e q (noF b) (by simp))
   | some u =>
    rcases hH b u q with⟨rfl,_,rfl⟩ | ⟨t,ht,rfl⟩
    ·obtain⟨e2,_⟩:=Ze b _ (un.frzs b _ _ q);rw[ha]at e;cases e;exact .inl e2
    ·obtain⟨h1,h2,_⟩:=hT b t ht;obtain⟨ps,e2,_⟩:=(Ze b _ (un.tbls b _ q));rw[h1]at e;cases e;exact .inr (.inl ⟨h2,rfl,#[],ps,rfl,by grind⟩)
abbrev E0:XK:=λ_ _ _=>False
def cP(H H':Hp):Prop:=∀b o,H b=some o->H' b=some o
def cP.refl(H:Hp):cP H H:=λ_ _ h=>h
def cP.trans(a:cP H H1)(b:cP H1 H2):cP H H2:=λc o h=>b c o (a c o h)
def cP.free(e:cP H H')(h:H' l=Option.none):H l=Option.none:=by
 cases q:H l with
 | none=>rfl
 | some o =>
  rw[e l o q]at h;cases h
def cP.seq{K:W.Frag}{H H':Hp}{a:Addr}{xs:List V}(e:cP H H')(h:xY K H a xs):xY K H' a xs:=by
 rcases h with(h | ⟨o,h⟩) | h
 ·exact .inl (.inl (e _ _ h))
 ·exact .inl (.inr ⟨o,e _ _ h⟩)
 ·exact .inr h
end L2
namespace N5
open PySem PyProof PyProof.Rows
section
variable {prog:Program} {w:World} {A:Around} {E:Value->Shared->Prop} {s:Shared}
def b7{arr:Array Keyed}{i:Nat}{x:Keyed}{Q:Keyed->SortSt->Prop}{st:SortSt}(hx:arr[i]?=some x)(h:Q x st):wpS (model prog w) A E s (elem' arr i) Q st:=by
 rw[elem'_eq,hx];exact aw h
def Zf(x:Keyed):Prop:=∃n t,x.1=.int n t
def AK{x y:Keyed}{Q:Option Bool->SortSt->Prop}{st:SortSt}(hk:kindOf st=oneType')(hx:Zf x)(hy:Zf y) (h:Q (some (decide (numOf x.1<numOf y.1))) st):wpS (model prog w) A E s (lt' x y) Q st:=by
 obtain⟨a,t,ha⟩:=hx;obtain⟨b,u,hb⟩:=hy;rw[lt'_eq];refine ai (eW ?_);rw[hk,keyLt'_oneType,ha,hb];rw[ha,hb]at h;exact ai (km (xM (oneLt_int ⟨rfl,aw h⟩)))
def fP{arr:Array Keyed}(h:IntKeys arr){i:Nat}{x:Keyed}(hx:arr[i]?=some x):Zf x:=h x (by
 grind)
def fG{arr:Array Keyed}{i:Nat}(hi:i<arr.size):∃x,arr[i]?=some x/\K arr i=numOf x.1:=⟨arr[i],rY hi,K_eq hi⟩
noncomputable def Zg(left:Bool)(key:Keyed)(arr:Array Keyed)(base i:Nat):StateT SortSt Sem (Option Bool):=do
 let x <-elem' arr (base+i)
 if left then lt' x key else return (<-lt' key x).map (!·)
noncomputable def Bv(left:Bool)(key:Keyed)(arr:Array Keyed)(base i:Nat):Bool:=if left=true then decide (K arr (base+i)<numOf key.1)else !decide (numOf key.1<K arr (base+i))
def tq{left:Bool}{key:Keyed}{arr:Array Keyed}{base i:Nat}{Q:Option Bool->SortSt->Prop}{st:SortSt}(hk:kindOf st=oneType')(hA:IntKeys arr)(hy:Zf key)(hi:base+i<arr.size)(h:Q (some (Bv left key arr base i)) st):wpS (model prog w) A E s (Zg left key arr base i) Q st:=by
 obtain⟨x,hx,e⟩:=fG hi;unfold Bv at h;rw[e]at h;refine ai (b7 hx ?_);cases left with
 | true=>exact AK hk (fP hA hx) hy h
 | false=>exact ai (AK hk hy (fP hA hx) (aw h))
def jO:Bool->Keyed->Array Keyed->Nat->Nat->Nat->StateT SortSt Sem (Option Nat):=sortPriv% PySem.Builtin.gallop
def g9{left:Bool}{key:Keyed}{arr:Array Keyed}{base n hint:Nat}{Q:Option Nat->SortSt->Prop}{st:SortSt}(hk:kindOf st=oneType')(hA:IntKeys arr)(hy:Zf key)(hb:base+n<=arr.size)(hh:hint<n)
  (mono:∀i j,i<=j->j<n->Bv left key arr base j=true->Bv left key arr base i=true)
  (h:∀r,r<=n->(∀i,i<r->Bv left key arr base i=true)->(∀i,r<=i->i<n->Bv left key arr base i=false)->Q (some r) st):wpS (model prog w) A E s (jO left key arr base n hint) Q st:=by
 have down:∀i j,i<=j->j<n->Bv left key arr base i=false->Bv left key arr base j=false:=λi j h1 h2 h3=>by
  grind
 have bin:∀(lo hi:Nat),lo<=hi->hi<=n->(∀i,i<lo->Bv left key arr base i=true)->(∀i,hi<=i->i<n->Bv left key arr base i=false)->∀{f:Nat->Option (Option Nat)×Nat×Nat->StateT SortSt Sem (ForInStep (Option (Option Nat)×Nat×Nat))} {g:Option (Option Nat)×Nat×Nat->StateT SortSt Sem (Option Nat)},
   (∀x lo hi,lo>=hi->f x (none,lo,hi)=pure (.done (none,lo,hi))) ->
   (∀x lo hi,¬lo>=hi->∀(P:ForInStep (Option (Option Nat)×Nat×Nat)->SortSt->Prop),(Bv left key arr base (lo+(hi-lo)/2)=true->P (.yield (none,lo+(hi-lo)/2+1,hi)) st)->(Bv left key arr base (lo+(hi-lo)/2)=false->P (.yield (none,lo,lo+(hi-lo)/2)) st)->hi<=n->wpS (model prog w) A E s (f x (none,lo,hi)) P st) ->
   (∀lo hi,g (none,lo,hi)=pure (some hi)) ->
   wpS (model prog w) A E s (forIn [0:n] (none,lo,hi) f >>= g) Q st:=λlo hi h1 h2 h3 h4 f g hf1 hf2 hg=>by
  refine ai (dR (dQ
   (I:=λx c az=>az=st/\∃lo hi,c=(none,lo,hi)/\lo<=hi/\hi<=n/\hi-lo<=n-x/\(∀i,i<lo->Bv left key arr base i=true)/\(∀i,hi<=i->i<n->Bv left key arr base i=false))
   (Q:=λc az=>az=st/\∃hi,c=(none,hi,hi)/\hi<=n/\(∀i,i<hi->Bv left key arr base i=true)/\(∀i,hi<=i->i<n->Bv left key arr base i=false)) ?step ?fin ⟨rfl,lo,hi,rfl,h1,h2,by lia,h3,h4⟩) ?post)
  case fin =>
   rintro c az ⟨rfl,lo,hi,rfl,z1,z2,z3,z4,z5⟩
   have:lo=hi:=by lia
   subst this;exact⟨rfl,lo,rfl,z2,z4,z5⟩
  case post =>
   rintro c az ⟨rfl,hi,rfl,z2,z4,z5⟩
   rw[hg];exact aw (h hi z2 z4 z5)
  case step =>
   rintro x c az _ hx ⟨rfl,lo,hi,rfl,z1,z2,z3,z4,z5⟩
   by_cases hl:lo>=hi
   ·rw[hf1 x lo hi hl];have:lo=hi:=by lia
    subst this;exact aw ⟨rfl,lo,rfl,z2,z4,z5⟩
   ·refine hf2 x lo hi hl _ (λe=>⟨rfl,_,_,rfl,by lia,by lia,by lia,λi hi'=>mono i _ (by lia) (by lia) e,z5⟩) (λe=>⟨rfl,_,_,rfl,(fM _ _),by lia,by lia,z4,λi h1 h2=>down _ i h1 h2 e⟩) z2
 refine ai (tq hk hA hy (by lia) ?_)
 dsimp only
 cases eR:Bv left key arr base hint with
 | true =>
  rw[if_pos rfl];refine ai (dR (dQ
   (I:=λx c az=>az=st/\∃la of,c=(none,la,of)/\la<of/\x<of/\hint+la<n/\Bv left key arr base (hint+la)=true)
   (Q:=λc az=>az=st/\∃la of,c=(none,la,of)/\la<of/\hint+la<n/\Bv left key arr base (hint+la)=true/\(∀i,hint+min of (n-hint)<=i->i<n->Bv left key arr base i=false)) ?step ?fin ⟨rfl,0,1,rfl,(aq _),(aq _),by lia,eR⟩) ?post)
  case fin =>
   rintro c az ⟨rfl,la,of,rfl,z1,z2,z3,z4⟩
   exact⟨rfl,la,of,rfl,z1,z3,z4,λi h1 h2=>by lia⟩
  case step =>
   rintro x c az _ hx ⟨rfl,la,of,rfl,z1,z2,z3,z4⟩
   dsimp only
   by_cases ho:of>=n-hint
   ·rw[if_pos ho];exact aw ⟨rfl,la,of,rfl,z1,z3,z4,λi h1 h2=>by lia⟩
   ·rw[if_neg ho];refine ai (m:=Zg left key arr base (hint+of)) (tq hk hA hy (by lia) ?_)
    dsimp only
    cases eM:Bv left key arr base (hint+of)with
    | true=>exact aw ⟨rfl,of,2*of+1,rfl,by lia,by lia,by lia,eM⟩
    | false=>exact aw ⟨rfl,la,of,rfl,z1,z3,z4,λi h1 h2=>down _ i (by lia) h2 eM⟩
  case post =>
   rintro c az ⟨rfl,la,of,rfl,z1,z3,z4,z5⟩
   dsimp only
   refine bin _ _ (by lia) (by lia) (λi hi=>mono i _ (by lia) z3 z4) z5 (λx lo hi hl=>?_) (λx lo hi hl P p1 p2 hn=>?_) (λlo hi=>rfl)
   ·grind
   ·dsimp only
    rw[if_neg hl];refine ai (m:=Zg left key arr base _) (tq hk hA hy (by lia) ?_)
    dsimp only
    cases eM:Bv left key arr base (lo+(hi-lo)/2)with
    | true=>exact aw (p1 eM)
    | false=>exact aw (p2 eM)
 | false =>
  rw[if_neg (by simp)]
  refine ai (dR (dQ
   (I:=λx c az=>az=st/\∃la of,c=(none,la,of)/\la<of/\x<of/\la<=hint/\Bv left key arr base (hint-la)=false)
   (Q:=λc az=>az=st/\∃la of,c=(none,la,of)/\la<of/\la<=hint/\Bv left key arr base (hint-la)=false/\(∀i,i<hint+1-min of (hint+1)->Bv left key arr base i=true)) ?step ?fin ⟨rfl,0,1,rfl,(aq _),(aq _),(dm _),eR⟩) ?post)
  case fin =>
   rintro c az ⟨rfl,la,of,rfl,z1,z2,z3,z4⟩
   exact⟨rfl,la,of,rfl,z1,z3,z4,λi h1=>by lia⟩
  case step =>
   rintro x c az _ hx ⟨rfl,la,of,rfl,z1,z2,z3,z4⟩
   dsimp only
   by_cases ho:of>=hint+1
   ·rw[if_pos ho];exact aw ⟨rfl,la,of,rfl,z1,z3,z4,λi h1=>by lia⟩
   ·rw[if_neg ho];refine ai (m:=Zg left key arr base (hint-of)) (tq hk hA hy (by lia) ?_)
    dsimp only
    cases eM:Bv left key arr base (hint-of)with
    | true=>exact aw ⟨rfl,la,of,rfl,z1,z3,z4,λi h1=>mono i _ (by lia) (by lia) eM⟩
    | false=>exact aw ⟨rfl,of,2*of+1,rfl,by lia,by lia,(oE ‹_›),eM⟩
  case post =>
   rintro c az ⟨rfl,la,of,rfl,z1,z3,z4,z5⟩
   dsimp only
   refine bin _ _ (by lia) (by lia) z5 (λi h1 h2=>down _ i h1 h2 z4) (λx lo hi hl=>?_) (λx lo hi hl P p1 p2 hn=>?_) (λlo hi=>rfl)
   ·dsimp only;rw[if_pos hl]
   ·dsimp only
    rw[if_neg hl];refine ai (m:=Zg left key arr base _) (tq hk hA hy (by lia) ?_)
    dsimp only
    cases eM:Bv left key arr base (lo+(hi-lo)/2)with
    | true=>exact aw (p1 eM)
    | false=>exact aw (p2 eM)
abbrev ky(x:Keyed):Int:=numOf x.1
abbrev le(x y:Keyed):Prop:=ky x<=ky y
abbrev ge(x y:Keyed):Prop:=ky y<=ky x
section
variable {R:Keyed->Keyed->Prop}
structure G (R:Keyed->Keyed->Prop) (a b out:List Keyed) (ia ib:Nat):Prop where
 perm:out.Perm (a.take ia++b.take ib)
 up:out.Pairwise R
 ga:∀x∈out,∀y∈a.drop ia,R x y
 gb:∀x∈out,∀y∈b.drop ib,R x y
def G.symm{a b out:List Keyed}{ia ib:Nat}(g:G R a b out ia ib):G R b a out ib ia:=⟨g.perm.trans xi,g.up,g.gb,g.ga⟩
def Gg{a:List Keyed}{i:Nat}{x:Keyed}(h:a[i]?=some x):a.drop i=x::a.drop (i+1):=by
 obtain⟨hi,rfl⟩:=cz.mp h;exact rZ hi
def Sw{a:List Keyed}(ha:a.Pairwise R){i:Nat}{x:Keyed}(h:a[i]?=some x):∀y∈a.drop (i+1),R x y:=by
 have h1:(a.drop i).Pairwise R:=DD ha;rw[Gg h]at h1;exact(xl.mp h1).1
def G.push{a b out:List Keyed}{ia ib:Nat}(g:G R a b out ia ib)(ha:a.Pairwise R){x:Keyed}(hx:a[ia]?=some x)(vX:∀y∈b.drop ib,R x y):G R a b (out++[x]) (ia+1) ib:=by
 have hd:=Gg hx;refine⟨?_,?_,?_,?_⟩
 ·rw[DF,hx];show(out++[x]).Perm (a.take ia++[x]++b.take ib);refine(g.perm.append_right [x]).trans ?_;rw[cj,cj];exact xi.append_left _
 ·refine sj.mpr ⟨g.up,List.pairwise_singleton _ _,λy hy z hz=>?_⟩
  rw[bt]at hz;subst hz;exact g.ga y hy z (by grind)
 ·intro y hy z hz;rcases bD.mp hy with hy | hy
  ·exact g.ga y hy z (by grind)
  ·rw[bt]at hy;subst hy;exact Sw ha hx z hz
 ·intro y hy z hz;rcases bD.mp hy with hy | hy
  ·exact g.gb y hy z hz
  ·grind
theorem G.more{a b out:List Keyed}{ia ib:Nat}(g:G R a b out ia ib)(ha:a.Pairwise R):∀(k:Nat),ia+k<=a.length->(∀(i:Nat) (x:Keyed),i<k->a[ia+i]?=some x->∀y∈b.drop ib,R x y)->G R a b (out++(a.drop ia).take k) (ia+k) ib
 | 0,_,_=>by simpa using g
 | k+1,hk,h=>by
  have g1:=g.more ha k (dz ‹_›) λi x hi=>h i x (eJ ‹_›)
  obtain⟨x,hx⟩:∃x,a[ia+k]?=some x:=⟨_,bU (by lia)⟩
  have g2:=g1.push ha hx (h k x (aq _) hx);have e:(a.drop ia).take (k+1)=(a.drop ia).take k++[x]:=by
   rw[DF,List.getElem?_drop,hx];rfl
  rw[e,<-cj];exact g2
def i9(R:Keyed->Keyed->Prop)(a b r:List Keyed):Prop:=r.Perm (a++b)/\r.Pairwise R
def i9.symm{a b r:List Keyed}(g:i9 R a b r):i9 R b a r:=⟨g.1.trans xi,g.2⟩
def G.fin{a b out:List Keyed}{ia ib:Nat}(g:G R a b out ia ib)(ha:a.Pairwise R)(hb:b.Pairwise R)(h:∀x∈a.drop ia,∀y∈b.drop ib,R x y):i9 R a b (out++a.drop ia++b.drop ib):=by
 refine⟨?_,?_⟩
 ·refine((g.perm.append_right _).append_right _).trans ?_;have e:a++b=(a.take ia++a.drop ia)++(b.take ib++b.drop ib):=by simp_all
  rw[e,cj,cj,cj];refine List.Perm.append_left _ ?_;rw[<-cj,<-cj];exact xi.append_right _
 ·refine sj.mpr ⟨sj.mpr ⟨g.up,DD ha,λx hx y hy=>g.ga x hx y hy⟩,DD hb,λx hx y hy=>?_⟩
  rcases bD.mp hx with hx | hx
  ·exact g.gb x hx y hy
  ·grind
end
def up(l:List Keyed):Prop:=l.Pairwise le
def Ln{a b r:List Keyed}(g:i9 ge a.reverse b.reverse r):i9 le a b r.reverse:=by
 refine⟨(DH r).trans (g.1.trans ((DH a).append (DH b))),?_⟩;rw[List.pairwise_reverse];exact g.2
def yg{a:List Keyed}(h:up a):a.reverse.Pairwise ge:=by
 rw[List.pairwise_reverse];exact h
def Sm(st az:SortSt):Prop:=kindOf az=kindOf st/\arrOf az=arrOf st/\pendingOf az=pendingOf st/\failedOf az=failedOf st
def AL:Array Keyed->Array Keyed->StateT SortSt Sem (Array Keyed):=sortPriv% PySem.Builtin.mergeLo
def kq(a:Array Keyed)(i:Nat):(a.extract i a.size).toList=a.toList.drop i:=by
 rw[ox,List.extract_eq_drop_take,<-cY];exact xg (by grind)
def AM(a:Array Keyed)(i k:Nat):(a.extract i (i+k)).toList=(a.toList.drop i).take k:=by
 simp_all
def mW{a:Array Keyed}{i:Nat}{x:Keyed}(h:a[i]?=some x):a.toList[i]?=some x:=by grind
def vk{a:Array Keyed}{i:Nat}{x:Keyed}(h:a[i]?=some x):K a i=ky x:=by unfold K;rw[h]
def js{a:Array Keyed}{i:Nat}{y:Keyed}(h:y∈a.toList.drop i):∃j,i<=j/\j<a.size/\a[j]?=some y/\K a j=ky y:=by
 obtain⟨n,hn,e⟩:=DB.mp h;rw[sF,cY]at hn;have e2:a[i+n]?=some y:=by
  grind
 exact⟨i+n,(fM _ _),by lia,e2,vk e2⟩
def qE{a:Array Keyed}(ha:up a.toList){i j:Nat}(h:i<=j)(hj:j<a.size):K a i<=K a j:=by
 obtain⟨x,hx,e1⟩:=fG (arr:=a) (i:=i) (iQ ‹_› ‹_›);obtain⟨y,hy,e2⟩:=fG hj;by_cases e:i=j
 ·subst e;exact oO _
 ·rw[e1,e2];refine Sw ha (mW hx) y ?_;rw[oq];exact⟨j-(i+1),by rw[List.getElem?_drop,show i+1+(j-(i+1))=j by lia];exact mW hy⟩
def q9{left:Bool}{key:Keyed}{a:Array Keyed}(ha:up a.toList){base n:Nat}(hb:base+n<=a.size):∀i j,i<=j->j<n->Bv left key a base j=true->Bv left key a base i=true:=λi j h1 h2 h3=>by
 have:=qE ha (i:=base+i) (j:=base+j) (by lia) (by lia)
 unfold Bv at h3 ⊢;cases left with
 | true=>simp only[iZ,iU]at h3 ⊢;lia
 | false=>simp only[sx,jH,xu,Dt]at h3 ⊢;lia
def Ii{key:Keyed}{a:Array Keyed}{base i:Nat}:(Bv true key a base i=true↔K a (base+i)<ky key)/\(Bv true key a base i=false↔ky key<=K a (base+i)):=by
 unfold Bv;simp
def Ij{key:Keyed}{a:Array Keyed}{base i:Nat}:(Bv false key a base i=true↔K a (base+i)<=ky key)/\(Bv false key a base i=false↔ky key<K a (base+i)):=by
 unfold Bv;simp
def Sm.refl(st:SortSt):Sm st st:=⟨rfl,rfl,rfl,rfl⟩
section
variable {a b:Array Keyed} {st:SortSt}
abbrev lo1(a b:Array Keyed)(st:SortSt)(x:Nat)(c:Option (Array Keyed)×Array Keyed×Nat×Nat×Nat)(az:SortSt):Prop:=Sm st az/\∃out ia ib mg,c=(none,out,ia,ib,mg)/\G le a.toList b.toList out.toList ia ib/\ia+1<a.size/\ib<b.size/\x+1<=ia+ib
abbrev lq1(a b:Array Keyed)(st:SortSt)(c:Option (Array Keyed)×Array Keyed×Nat×Nat×Nat)(az:SortSt):Prop:=Sm st az/\∃r,c.1=some r/\i9 le a.toList b.toList r.toList
abbrev lo2(a b:Array Keyed)(st:SortSt)(x:Nat)(y:Nat)(c:Option (Array Keyed)×Array Keyed×Nat×Nat×Nat×Nat)(az:SortSt):Prop:=Sm st az/\∃out ia ib ac bc,c=(none,out,ia,ib,ac,bc)/\G le a.toList b.toList out.toList ia ib/\ia+1<a.size/\ib<b.size/\x+1+min y 1<=ia+ib
abbrev lq2(a b:Array Keyed)(st:SortSt)(x:Nat)(c:Option (Array Keyed)×Array Keyed×Nat×Nat×Nat×Nat)(az:SortSt):Prop:=Sm st az/\((∃r,c.1=some r/\i9 le a.toList b.toList r.toList)\/∃out ia ib ac bc,c=(none,out,ia,ib,ac,bc)/\G le a.toList b.toList out.toList ia ib/\ia+1<a.size/\ib<b.size/\x+2<=ia+ib)
abbrev lo3(a b:Array Keyed)(st:SortSt)(x:Nat)(y:Nat)(c:Option (Array Keyed)×Array Keyed×Nat×Nat×Nat×Nat×Nat)(az:SortSt):Prop:=Sm st az/\∃out ia ib mg ac bc,c=(none,out,ia,ib,mg,ac,bc)/\G le a.toList b.toList out.toList ia ib/\ia+1<a.size/\ib<b.size/\x+2<=ia+ib
abbrev lq3(a b:Array Keyed)(st:SortSt)(x:Nat)(c:Option (Array Keyed)×Array Keyed×Nat×Nat×Nat×Nat×Nat)(az:SortSt):Prop:=Sm st az/\((∃r,c.1=some r/\i9 le a.toList b.toList r.toList)\/∃out ia ib mg ac bc,c=(none,out,ia,ib,mg,ac,bc)/\G le a.toList b.toList out.toList ia ib/\ia+1<a.size/\ib<b.size/\x+2<=ia+ib)
def bC{M:Model}{σ β:Type}{c:Prop} [Decidable c] {t e:StateT σ Sem β} {Q:β->σ->Prop} {st:σ} (h1:c->wpS M A E s t Q st) (h2:¬c->wpS M A E s e Q st):wpS M A E s (if c then t else e) Q st:=by
 split
 ·exact h1 ‹_›
 ·exact h2 ‹_›
abbrev mgS(m:Nat)(st:SortSt):SortSt:=SortSt.mk' (kindOf st) (arrOf st) (pendingOf st) m (failedOf st)
abbrev X4{β σ:Type}(Q I:β->σ->Prop)(r:ForInStep β)(az:σ):Prop:=match r with | .done c'=>Q c' az | .yield c'=>I c' az
def Eg{Q:Array Keyed->SortSt->Prop}(hk:kindOf st=oneType')(Vd:IntKeys a)(Ve:IntKeys b)(ua:up a.toList)(ub:up b.toList)(na:0<a.size)(nb:0<b.size)
  (first:K b 0<=K a 0) (gL:∀y∈b.toList,ky y<=K a (a.size-1)) (h:∀r az,Sm st az->i9 le a.toList b.toList r.toList->Q r az):wpS (model prog w) A E s (AL a b) Q st:=by
 have pm:∀{n x y:Nat},x+2<=n->x+1+min (y+1) 1<=n:=λh=>by lia
 have tu:∀{out:Array Keyed} {i j:Nat},G le a.toList b.toList out.toList i j->(i=a.size\/j=b.size)->i9 le a.toList b.toList (out++a.extract i a.size++b.extract j b.size).toList:=λ{out i j} g hz=>by
  rw[jE,jE,kq,kq];refine g.fin ua ub λx hx y hy=>?_
  rcases hz with rfl | rfl
  ·rw[<-cY,xB]at hx;cases hx
  ·rw[<-cY,xB]at hy;cases hy
 have yh:∀{out:Array Keyed} {i j:Nat},G le a.toList b.toList out.toList i j->i+1=a.size->i9 le a.toList b.toList (out++b.extract j b.size++a.extract i a.size).toList:=λ{out i j} g hz=>by
  rw[jE,jE,kq,kq];refine(g.symm.fin ub ua λx hx y hy=>?_).symm
  obtain⟨m,h1,h2,h3,h4⟩:=js hy;have:=gL x (List.mem_of_mem_drop hx);show ky x<=ky y;rw[<-h4,show m=a.size-1 by lia]
  exact this
 have pB:∀{out:Array Keyed} {i j:Nat} {bx:Keyed},G le a.toList b.toList out.toList i j->b[j]?=some bx->(∀m,i<=m->m<a.size->ky bx<=K a m)->G le a.toList b.toList (out.push bx).toList i (j+1):=λg hb hz=>by
  rw[xt];exact(g.symm.push ub (mW hb) λz Sx=>by
   obtain⟨m,q1,q2,q3,q4⟩:=js Sx;exact c8 (hz m q1 q2) (iY q4)).symm
 have pA:∀{out:Array Keyed} {i j:Nat} {ax:Keyed},G le a.toList b.toList out.toList i j->a[i]?=some ax->(∀m,j<=m->m<b.size->ky ax<=K b m)->G le a.toList b.toList (out.push ax).toList (i+1) j:=λg hb hz=>by
  rw[xt];exact g.push ua (mW hb) λz Sx=>by
   obtain⟨m,q1,q2,q3,q4⟩:=js Sx;exact c8 (hz m q1 q2) (iY q4)
 refine ai (km (gu ⟨rfl,?_⟩));obtain⟨b0,hb0,eb0⟩:=fG nb;refine ai (b7 hb0 ?_);have g0:G le a.toList b.toList (#[b0]:Array Keyed).toList 0 1:=pB (out:=#[]) (G.mk (by simp) .nil (λ_ z=>nomatch z) (λ_ z=>nomatch z)) hb0 λm _ q2=>c8 (iY eb0.symm) (c8 first (qE ua (dm m) q2))
 refine bC (λh1=>aw (h _ _ (Sm.refl st) (tu g0 (.inr (bu.mp h1))))) λh1=>?_
 refine bC (λh2=>aw (h _ _ (Sm.refl st) (yh g0 (bu.mp h2)))) λh2=>?_
 rw[bu]at h1 h2;refine ai (eW ?_);refine ai (dR (dQ
  (I:=lo1 a b st)
  (Q:=lq1 a b st) ?step ?fin ⟨Sm.refl st,_,_,_,_,rfl,g0,by lia,by lia,(aq _)⟩) ?post)
 case fin =>
  rintro c az ⟨_,out,ia,ib,mg,_,_,z1,z2,z3⟩
  lia
 case post =>
  rintro⟨_,c⟩ az ⟨sm,r,rfl,g⟩
  exact aw (h r az sm g)
 case step =>
  rintro x c az _ hx ⟨sm,out,ia,ib,mg,rfl,g,z1,z2,z3⟩
  refine ai (dR (dQ
   (I:=lo2 a b st x)
   (Q:=lq2 a b st x) ?AN ?Lo ⟨sm,_,_,_,_,_,rfl,g,z1,z2,‹_›⟩) ?AO)
  case Lo =>
   rintro c az ⟨sm,out,ia,ib,ac,bc,rfl,g,z1,z2,z3⟩
   exact⟨sm,.inr ⟨out,ia,ib,ac,bc,rfl,g,z1,z2,by lia⟩⟩
  case AN =>
   rintro y c az _ hy ⟨sm,out,ia,ib,ac,bc,rfl,g,z1,z2,z3⟩
   obtain⟨bx,yi,Vf⟩:=fG (arr:=b) (i:=ib) z2;obtain⟨ax,yj,Vg⟩:=fG (arr:=a) (i:=ia) (dz ‹_›);refine ai (m:=elem' b ib) (b7 yi ?_);refine ai (m:=elem' a ia) (b7 yj ?_);refine ai (m:=lt' bx ax) (AK (sm.1.trans hk) (fP Ve yi) (fP Vd yj) ?_);refine bC (λhw=>?_) λhw=>?_
   ·have g1:=pB g yi λm q1 q2=>c8 (ki (fy hw)) (c8 (iY Vg.symm) (qE ua q1 q2))
    refine ai (m:=elem' b ib) (b7 yi ?_);refine bC (λe1=>aw ⟨sm,.inl ⟨_,rfl,tu g1 (.inr (bu.mp e1))⟩⟩) λe1=>?_
    have e1:=sy z2 λz=>e1 (bu.mpr z)
    have e2:x+2<=ia+(ib+1):=by lia
    exact bC (λ_=>aw ⟨sm,.inr ⟨_,_,_,_,_,rfl,g1,z1,e1,e2⟩⟩) λ_=>aw ⟨sm,_,_,_,_,_,rfl,g1,z1,e1,pm e2⟩
   ·have g1:=pA g yj λm q1 q2=>c8 (c8 (Int.not_lt.mp λz=>hw (bX z)) (iY Vf.symm)) (qE ub q1 q2)
    refine ai (m:=elem' a ia) (b7 yj ?_);refine bC (λe1=>aw ⟨sm,.inl ⟨_,rfl,yh g1 (bu.mp e1)⟩⟩) λe1=>?_
    have e1:=sy z1 λz=>e1 (bu.mpr z)
    have e2:x+2<=ia+1+ib:=by lia
    exact bC (λ_=>aw ⟨sm,.inr ⟨_,_,_,_,_,rfl,g1,e1,z2,e2⟩⟩) λ_=>aw ⟨sm,_,_,_,_,_,rfl,g1,e1,z2,pm e2⟩
  case AO =>
   rintro⟨_,c⟩ az ⟨sm,⟨r,rfl,gr⟩ | ⟨out,ia,ib,ac,bc,e,g,z1,z2,z3⟩⟩
   ·exact aw ⟨sm,r,rfl,gr⟩
   cases e;refine ai (km (gu ⟨rfl,?_⟩));refine ai (dR (dQ
    (I:=lo3 a b st x)
    (Q:=lq3 a b st x) ?AQ ?Lp ⟨sm,_,_,_,_,_,_,rfl,g,z1,z2,‹_›⟩) ?AR)
   case Lp =>
    rintro c az ⟨sm,out,ia,ib,mg,ac,bc,rfl,g,z1,z2,z3⟩
    exact⟨sm,.inr ⟨out,ia,ib,mg,ac,bc,rfl,g,z1,z2,z3⟩⟩
   case AR =>
    rintro⟨_,c⟩ az ⟨sm,⟨r,rfl,gr⟩ | ⟨out,ia,ib,mg,ac,bc,e,g,z1,z2,z3⟩⟩
    ·exact aw ⟨sm,r,rfl,gr⟩
    ·cases e;refine ai (gq ?_);exact aw ⟨sm,_,_,_,_,rfl,g,z1,z2,‹_›⟩
   case AQ =>
    rintro y c az _ hy ⟨sm,out,ia,ib,mg,ac,bc,rfl,g,z1,z2,z3⟩
    obtain⟨bx,yi,Vf⟩:=fG (arr:=b) (i:=ib) z2
    extract_lets +onlyGivenNames _ _ _ _ _ _ _ _ _ _ _ _ jp
    have hj:∀m,wpS (model prog w) A E s (jp () m) (X4 (lq3 a b st x) (lo3 a b st x (y+1))) az:=λm=>by
     refine ai (gq ?_);refine ai (m:=elem' b ib) (b7 yi ?_);refine ai (m:=jO false bx a ia (a.size-ia) 0) (g9 (sm.1.trans hk) Vd (fP Ve yi) (by lia) (by lia) (q9 ua (by lia)) λk k1 k2 k3=>?_)
     dsimp -zeta only
     extract_lets +onlyGivenNames _ jp2
     have hj2:∀o ja,G le a.toList b.toList o.toList ja ib->ja+1<a.size->(∀m,ja<=m->m<a.size->ky bx<K a m)->x+2<=ja+ib->wpS (model prog w) A E s (jp2 () o ja) (X4 (lq3 a b st x) (lo3 a b st x (y+1))) (mgS m az):=λo ja gk w1 w2 w3=>by
      have gb:=pB gk yi λm q1 q2=>ki (w2 m q1 q2)
      refine ai (m:=elem' b ib) (b7 yi ?_);refine bC (λe3=>aw ⟨sm,.inl ⟨_,rfl,tu gb (.inr (bu.mp e3))⟩⟩) λe3=>?_
      have e3:=sy z2 λz=>e3 (bu.mpr z)
      obtain⟨ax,yj,Vg⟩:=fG (arr:=a) (i:=ja) (dz ‹_›);refine ai (m:=elem' a ja) (b7 yj ?_);refine ai (m:=jO true ax b (ib+1) (b.size-(ib+1)) 0) (g9 (sm.1.trans hk) Ve (fP Vd yj) (by lia) (by lia) (q9 ub (by lia)) λk' l1 l2 l3=>?_)
      have v2:∀m,ib+1+k'<=m->m<b.size->ky ax<=K b m:=λm q1 q2=>by
       have:=Ii.2.mp (l3 (m-(ib+1)) (by lia) (by lia))
       rwa [show ib+1+(m-(ib+1))=m by lia]at this
      dsimp -zeta only
      extract_lets +onlyGivenNames _ _ jp3
      have Zh:∀p jb,G le a.toList b.toList p.toList ja jb->jb<b.size->(∀m,jb<=m->m<b.size->ky ax<=K b m)->x+2<=ja+jb->wpS (model prog w) A E s (jp3 () p jb) (X4 (lq3 a b st x) (lo3 a b st x (y+1))) (mgS m az):=λp jb gl v1 v2 v3=>by
       have gf:=pA gl yj v2;refine ai (m:=elem' a ja) (b7 yj ?_);refine bC (λe5=>aw ⟨sm,.inl ⟨_,rfl,yh gf (bu.mp e5)⟩⟩) λe5=>?_
       have e5:=sy w1 λz=>e5 (bu.mpr z)
       have e6:x+2<=ja+1+jb:=by lia
       exact bC (λ_=>aw ⟨sm,.inr ⟨_,_,_,_,_,_,rfl,gf,e5,v1,e6⟩⟩) λ_=>aw ⟨sm,_,_,_,_,_,_,rfl,gf,e5,v1,e6⟩
      refine bC (λX5=>?_) λX5=>Zh _ _ gb e3 (by rwa [Nat.eq_zero_of_not_pos X5]at v2) (Nat.le_succ_of_le w3)
      have gl:G le a.toList b.toList (o.push bx++b.extract (ib+1) (ib+1+k')).toList ja (ib+1+k'):=by
       rw[jE,AM];refine(gb.symm.more ub k' (by rw[cY];lia) λi x hi hx z hz=>?_).symm
       obtain⟨m,q1,q2,q3,q4⟩:=js hz;have u1:=Ii.1.mp (l2 i hi);have u2:=qE ua q1 q2;rw[lW]at hx;rw[vk hx]at u1;rw[Vg,q4]at u2;exact c8 (ki u1) u2
      exact bC (λe4=>aw ⟨sm,.inl ⟨_,rfl,tu gl (.inr (bu.mp e4))⟩⟩) λe4=>Zh _ (ib+1+k') gl (sy (by lia) λz=>e4 (bu.mpr z)) v2 (by lia)
     have w2:∀m,ia+k<=m->m<a.size->ky bx<K a m:=λm q1 q2=>by
      have:=Ij.2.mp (k3 (m-ia) (by lia) (by lia))
      rwa [show ia+(m-ia)=m by lia]at this
     refine bC (λX6=>?_) λX6=>hj2 _ _ g z1 (by rwa [Nat.eq_zero_of_not_pos X6]at w2) z3
     have gk:G le a.toList b.toList (out++a.extract ia (ia+k)).toList (ia+k) ib:=by
      rw[jE,AM];refine g.more ua k (by rw[cY];lia) λi x hi hx z hz=>?_
      obtain⟨m,q1,q2,q3,q4⟩:=js hz;have u1:=Ij.1.mp (k2 i hi);have u2:=qE ub q1 q2;rw[lW]at hx;rw[vk hx]at u1;rw[Vf,q4]at u2;exact c8 u1 u2
     refine bC (λe1=>aw ⟨sm,.inl ⟨_,rfl,yh gk (bu.mp e1)⟩⟩) λe1=>?_
     refine bC (λe2=>aw ⟨sm,.inl ⟨_,rfl,tu gk (.inl (bu.mp e2))⟩⟩) λe2=>?_
     have e1:¬ia+k+1=a.size:=λz=>e1 (bu.mpr z)
     have e2:¬ia+k=a.size:=λz=>e2 (bu.mpr z)
     exact hj2 _ (ia+k) gk (by lia) w2 (by lia)
    exact bC (λ_=>hj _) λ_=>hj _
def Hi(a b out:Array Keyed)(na nb:Nat):Prop:=na<=a.size/\nb<=b.size/\G ge a.toList.reverse b.toList.reverse out.toList (a.size-na) (b.size-nb)
def Hi.symm{a b out:Array Keyed}{na nb:Nat}(g:Hi a b out na nb):Hi b a out nb na:=⟨g.2.1,g.1,g.2.2.symm⟩
def ip{a:Array Keyed}{na:Nat}(h:na<=a.size):a.toList.reverse.drop (a.size-na)=(a.toList.take na).reverse:=by
 rw[List.drop_reverse,cY,show a.size-(a.size-na)=na by lia]
def gE{a:Array Keyed}{n:Nat}{y:Keyed}(h:y∈a.toList.take n):∃m,m<n/\m<a.size/\a[m]?=some y/\K a m=ky y:=by
 obtain⟨m,hm,e⟩:=DB.mp h;rw[jG,cY]at hm;have e2:a[m]?=some y:=by
  grind
 exact⟨m,by lia,by lia,e2,vk e2⟩
def Vi{a:Array Keyed}{na:Nat}{x:Keyed}(h0:0<na)(hn:na<=a.size)(hx:a[na-1]?=some x):a.toList.reverse[a.size-na]?=some x:=by
 grind
def Hi.push{a b out:Array Keyed}{na nb:Nat}(g:Hi a b out na nb)(ua:up a.toList)(h0:0<na){x:Keyed}(hx:a[na-1]?=some x)(vX:∀y∈b.toList.take nb,ky y<=ky x):Hi a b (out.push x) (na-1) nb:=by
 obtain⟨h1,h2,g⟩:=g;refine⟨by lia,h2,?_⟩
 rw[xt,show a.size-(na-1)=a.size-na+1 by lia]
 refine g.push (yg ua) (Vi h0 h1 hx) λy hy=>?_
 rw[ip h2,xD]at hy;exact vX y hy
def Hi.more{a b out:Array Keyed}{na nb at_:Nat}(g:Hi a b out na nb)(ua:up a.toList)(h0:at_<=na)(vX:∀(i:Nat) (x:Keyed),at_<=i->i<na->a[i]?=some x->∀y∈b.toList.take nb,ky y<=ky x):Hi a b (out++(a.extract at_ na).reverse) at_ nb:=by
 obtain⟨h1,h2,g⟩:=g;refine⟨br ‹_› ‹_›,h2,?_⟩;have g1:=g.more (yg ua) (na-at_) (by grind) λi x hi hx y hy=>by
  rw[ip h2,xD]at hy;rw[List.getElem?_reverse (by grind),cY,lW]at hx
  exact vX (a.size-1-(a.size-na+i)) x (by lia) (by lia) hx y hy
 have e:(a.toList.reverse.drop (a.size-na)).take (na-at_)=((a.extract at_ na).reverse).toList:=by
  rw[ip h1,List.take_reverse,jG,cY,show min na a.size-(na-at_)=at_ by lia,List.drop_take,Array.toList_reverse,ox,List.extract_eq_drop_take]
 rw[jE,<-e,show a.size-at_=a.size-na+(na-at_) by lia]
 exact g1
def Vj(a:Array Keyed)(n:Nat):(a.extract 0 n).toList=a.toList.take n:=by
 simp_all
def Hi.fin{a b out:Array Keyed}{na nb:Nat}(g:Hi a b out na nb)(ua:up a.toList)(ub:up b.toList)(h:∀y∈b.toList.take nb,∀x∈a.toList.take na,ky y<=ky x):i9 le a.toList b.toList (b.extract 0 nb++a.extract 0 na++out.reverse).toList:=by
 obtain⟨h1,h2,g⟩:=g;have:=Ln (g.fin (yg ua) (yg ub) λx hx y hy=>by
  rw[ip h1,xD]at hx;rw[ip h2,xD]at hy;exact h y hy x hx)
 rw[ip h1,ip h2,List.reverse_append,List.reverse_append,List.reverse_reverse,List.reverse_reverse]at this;rw[jE,jE,Vj,Vj,Array.toList_reverse,cj];exact this
def AS:Array Keyed->Array Keyed->StateT SortSt Sem (Array Keyed):=sortPriv% PySem.Builtin.mergeHi
abbrev hi1(a b:Array Keyed)(st:SortSt)(x:Nat)(c:Option (Array Keyed)×Nat×Nat×Array Keyed×Nat)(az:SortSt):Prop:=Sm st az/\∃ma mb out mg,c=(none,ma,mb,out,mg)/\Hi a b out ma mb/\0<ma/\1<mb/\ma+mb+x+1<=a.size+b.size
abbrev hq1(a b:Array Keyed)(st:SortSt)(c:Option (Array Keyed)×Nat×Nat×Array Keyed×Nat)(az:SortSt):Prop:=Sm st az/\∃r,c.1=some r/\i9 le a.toList b.toList r.toList
abbrev hi2(a b:Array Keyed)(st:SortSt)(x:Nat)(y:Nat)(c:Option (Array Keyed)×Nat×Nat×Array Keyed×Nat×Nat)(az:SortSt):Prop:=Sm st az/\∃ma mb out ac bc,c=(none,ma,mb,out,ac,bc)/\Hi a b out ma mb/\0<ma/\1<mb/\ma+mb+x+1+min y 1<=a.size+b.size
abbrev AU(a b:Array Keyed)(st:SortSt)(x:Nat)(c:Option (Array Keyed)×Nat×Nat×Array Keyed×Nat×Nat)(az:SortSt):Prop:=Sm st az/\((∃r,c.1=some r/\i9 le a.toList b.toList r.toList)\/∃ma mb out ac bc,c=(none,ma,mb,out,ac,bc)/\Hi a b out ma mb/\0<ma/\1<mb/\ma+mb+x+2<=a.size+b.size)
abbrev N6(a b:Array Keyed)(st:SortSt)(x:Nat)(y:Nat)(c:Option (Array Keyed)×Nat×Nat×Array Keyed×Nat×Nat×Nat)(az:SortSt):Prop:=Sm st az/\∃ma mb out mg ac bc,c=(none,ma,mb,out,mg,ac,bc)/\Hi a b out ma mb/\0<ma/\1<mb/\ma+mb+x+2<=a.size+b.size
abbrev hq3(a b:Array Keyed)(st:SortSt)(x:Nat)(c:Option (Array Keyed)×Nat×Nat×Array Keyed×Nat×Nat×Nat)(az:SortSt):Prop:=Sm st az/\((∃r,c.1=some r/\i9 le a.toList b.toList r.toList)\/∃ma mb out mg ac bc,c=(none,ma,mb,out,mg,ac,bc)/\Hi a b out ma mb/\0<ma/\1<mb/\ma+mb+x+2<=a.size+b.size)
def Eh{Q:Array Keyed->SortSt->Prop}(hk:kindOf st=oneType')(Vd:IntKeys a)(Ve:IntKeys b)(ua:up a.toList)(ub:up b.toList)(na:0<a.size)(nb:0<b.size)
  (first:K b 0<=K a 0) (gL:∀y∈b.toList,ky y<=K a (a.size-1)) (h:∀r az,Sm st az->i9 le a.toList b.toList r.toList->Q r az):wpS (model prog w) A E s (AS a b) Q st:=by
 have pm:∀{n m x y:Nat},m+x+2<=n->m+x+1+min (y+1) 1<=n:=λh=>by lia
 have tu:∀{out:Array Keyed} {i j:Nat},Hi a b out i j->(i=0\/j=0)->i9 le a.toList b.toList (a.extract 0 i++b.extract 0 j++out.reverse).toList:=λ{out i j} g hz=>by
  refine(g.symm.fin ub ua λx hx y hy=>?_).symm
  rcases hz with rfl | rfl
  ·cases hx
  ·cases hy
 have yh:∀{out:Array Keyed} {i j:Nat},Hi a b out i j->j=1->i9 le a.toList b.toList (b.extract 0 j++a.extract 0 i++out.reverse).toList:=λ{out i j} g hz=>by
  refine g.fin ua ub λy hy x hx=>?_
  obtain⟨m,h1,h2,h3,h4⟩:=gE hy;obtain⟨n,n1,n2,n3,n4⟩:=gE hx;rw[<-h4,<-n4,show m=0 by lia]
  exact c8 first (qE ua (dm n) n2)
 have pA:∀{out:Array Keyed} {i j:Nat} {ax:Keyed},Hi a b out i j->0<i->a[i-1]?=some ax->(∀m,m<j->m<b.size->K b m<=ky ax)->Hi a b (out.push ax) (i-1) j:=λg h0 ha hz=>g.push ua h0 ha λz Sx=>by
  obtain⟨m,q1,q2,q3,q4⟩:=gE Sx;exact c8 (iY q4.symm) (hz m q1 q2)
 have pB:∀{out:Array Keyed} {i j:Nat} {bx:Keyed},Hi a b out i j->0<j->b[j-1]?=some bx->(∀m,m<i->m<a.size->K a m<=ky bx)->Hi a b (out.push bx) i (j-1):=λg h0 hb hz=>(g.symm.push ub h0 hb λz Sx=>by
  obtain⟨m,q1,q2,q3,q4⟩:=gE Sx;exact c8 (iY q4.symm) (hz m q1 q2)).symm
 refine ai (km (gu ⟨rfl,?_⟩));obtain⟨a0,ha0,ea0⟩:=fG (arr:=a) (i:=a.size-1) (by lia)
 refine ai (b7 ha0 ?_);have g0:Hi a b (#[a0]:Array Keyed) (a.size-1) b.size:=pA (out:=#[]) ⟨aq _,aq _,by simp,.nil,(λ_ z=>nomatch z),(λ_ z=>nomatch z)⟩ na ha0 λm _ q=>c8 (vk (rY q)▸gL _ (Array.getElem_mem_toList q)) (iY ea0)
 refine bC (λh1=>aw (h _ _ (Sm.refl st) (tu g0 (.inl (bu.mp h1))))) λh1=>?_
 refine bC (λh2=>aw (h _ _ (Sm.refl st) (yh g0 (bu.mp h2)))) λh2=>?_
 rw[bu]at h1 h2;refine ai (eW ?_);refine ai (dR (dQ
  (I:=hi1 a b st)
  (Q:=hq1 a b st) ?step ?fin ⟨Sm.refl st,_,_,_,_,rfl,g0,(xo ‹_›),by lia,by lia⟩) ?post)
 case fin =>
  rintro c az ⟨_,ma,mb,out,mg,_,_,z1,z2,z3⟩
  lia
 case post =>
  rintro⟨_,c⟩ az ⟨sm,r,rfl,g⟩
  exact aw (h r az sm g)
 case step =>
  rintro x c az _ hx ⟨sm,ma,mb,out,mg,rfl,g,z1,z2,z3⟩
  refine ai (dR (dQ
   (I:=hi2 a b st x)
   (Q:=AU a b st x) ?AN ?Lo ⟨sm,_,_,_,_,_,rfl,g,z1,z2,‹_›⟩) ?AO)
  case Lo =>
   rintro c az ⟨sm,ma,mb,out,ac,bc,rfl,g,z1,z2,z3⟩
   exact⟨sm,.inr ⟨ma,mb,out,ac,bc,rfl,g,z1,z2,by lia⟩⟩
  case AN =>
   rintro y c az _ hy ⟨sm,ma,mb,out,ac,bc,rfl,g,z1,z2,z3⟩
   have y1:=g.1;have y2:=g.2.1;obtain⟨bx,yi,Vf⟩:=fG (arr:=b) (i:=mb-1) (by lia)
   obtain⟨ax,yj,Vg⟩:=fG (arr:=a) (i:=ma-1) (by lia)
   refine ai (m:=elem' b (mb-1)) (b7 yi ?_);refine ai (m:=elem' a (ma-1)) (b7 yj ?_);refine ai (m:=lt' bx ax) (AK (sm.1.trans hk) (fP Ve yi) (fP Vd yj) ?_);refine bC (λhw=>?_) λhw=>?_
   ·have g1:=pA g z1 yj λm q1 _=>c8 (qE ub (i:=m) (j:=mb-1) (by lia) (by lia)) (c8 (iY Vf) (ki (fy hw)))
    refine ai (m:=elem' a (ma-1)) (b7 yj ?_);refine bC (λe1=>aw ⟨sm,.inl ⟨_,rfl,tu g1 (.inl (bu.mp e1))⟩⟩) λe1=>?_
    have e1:=xo λz=>e1 (bu.mpr z)
    have e2:ma-1+mb+x+2<=a.size+b.size:=by lia
    exact bC (λ_=>aw ⟨sm,.inr ⟨_,_,_,_,_,rfl,g1,e1,z2,e2⟩⟩) λ_=>aw ⟨sm,_,_,_,_,_,rfl,g1,e1,z2,pm e2⟩
   ·have g1:=pB g (dz z2) yi λm q1 _=>c8 (qE ua (i:=m) (j:=ma-1) (by lia) (by lia)) (c8 (iY Vg) (Int.not_lt.mp λz=>hw (bX z)))
    refine ai (m:=elem' b (mb-1)) (b7 yi ?_);refine bC (λe1=>aw ⟨sm,.inl ⟨_,rfl,yh g1 (bu.mp e1)⟩⟩) λe1=>?_
    have e1:¬mb-1=1:=λz=>e1 (bu.mpr z)
    have e3:1<mb-1:=by lia
    have e2:ma+(mb-1)+x+2<=a.size+b.size:=by lia
    exact bC (λ_=>aw ⟨sm,.inr ⟨_,_,_,_,_,rfl,g1,z1,e3,e2⟩⟩) λ_=>aw ⟨sm,_,_,_,_,_,rfl,g1,z1,e3,pm e2⟩
  case AO =>
   rintro⟨_,c⟩ az ⟨sm,⟨r,rfl,gr⟩ | ⟨ma,mb,out,ac,bc,e,g,z1,z2,z3⟩⟩
   ·exact aw ⟨sm,r,rfl,gr⟩
   cases e;refine ai (km (gu ⟨rfl,?_⟩));refine ai (dR (dQ
    (I:=N6 a b st x)
    (Q:=hq3 a b st x) ?AQ ?Lp ⟨sm,_,_,_,_,_,_,rfl,g,z1,z2,‹_›⟩) ?AR)
   case Lp =>
    rintro c az ⟨sm,ma,mb,out,mg,ac,bc,rfl,g,z1,z2,z3⟩
    exact⟨sm,.inr ⟨ma,mb,out,mg,ac,bc,rfl,g,z1,z2,z3⟩⟩
   case AR =>
    rintro⟨_,c⟩ az ⟨sm,⟨r,rfl,gr⟩ | ⟨ma,mb,out,mg,ac,bc,e,g,z1,z2,z3⟩⟩
    ·exact aw ⟨sm,r,rfl,gr⟩
    ·cases e;refine ai (gq ?_);exact aw ⟨sm,_,_,_,_,rfl,g,z1,z2,‹_›⟩
   case AQ =>
    rintro y c az _ hy ⟨sm,ma,mb,out,mg,ac,bc,rfl,g,z1,z2,z3⟩
    have y1:=g.1;have y2:=g.2.1;obtain⟨bx,yi,Vf⟩:=fG (arr:=b) (i:=mb-1) (by lia)
    extract_lets +onlyGivenNames _ _ _ _ _ _ _ _ _ _ _ _ jp
    have hj:∀m,wpS (model prog w) A E s (jp () m) (X4 (hq3 a b st x) (N6 a b st x (y+1))) az:=λm=>by
     refine ai (gq ?_);refine ai (m:=elem' b (mb-1)) (b7 yi ?_);refine ai (m:=jO false bx a 0 ma (ma-1)) (g9 (sm.1.trans hk) Vd (fP Ve yi) (by lia) (by lia) (q9 ua (by lia)) λk k1 k2 k3=>?_)
     dsimp -zeta only
     extract_lets +onlyGivenNames _ _ jp2
     have hj2:∀ja o,Hi a b o ja mb->0<ja->(∀m,m<ja->K a m<=ky bx)->ja+mb+x+2<=a.size+b.size->wpS (model prog w) A E s (jp2 () ja o) (X4 (hq3 a b st x) (N6 a b st x (y+1))) (mgS m az):=λja o gk w1 w2 w3=>by
      have gb:=pB gk (dz z2) yi λm q1 _=>w2 m q1
      refine ai (m:=elem' b (mb-1)) (b7 yi ?_);refine bC (λe3=>aw ⟨sm,.inl ⟨_,rfl,yh gb (bu.mp e3)⟩⟩) λe3=>?_
      have e3:¬mb-1=1:=λz=>e3 (bu.mpr z)
      have w4:=gk.1;obtain⟨ax,yj,Vg⟩:=fG (arr:=a) (i:=ja-1) (by lia)
      refine ai (m:=elem' a (ja-1)) (b7 yj ?_);refine ai (m:=jO true ax b 0 (mb-1) (mb-1-1)) (g9 (sm.1.trans hk) Ve (fP Vd yj) (by lia) (by lia) (q9 ub (by lia)) λk' l1 l2 l3=>?_)
      have v2:∀m,m<k'->K b m<=ky ax:=λm q1=>by
       have:=Ii.1.mp (l2 m q1);rw[dy]at this;exact ki this
      dsimp -zeta only
      extract_lets +onlyGivenNames _ _ _ jp3
      have Zh:∀jb p,Hi a b p ja jb->1<jb->(∀m,m<jb->K b m<=ky ax)->ja+jb+x+2<=a.size+b.size->wpS (model prog w) A E s (jp3 () jb p) (X4 (hq3 a b st x) (N6 a b st x (y+1))) (mgS m az):=λjb p gl v1 v2 v3=>by
       have gf:=pA gl w1 yj λm q1 _=>v2 m q1
       refine ai (m:=elem' a (ja-1)) (b7 yj ?_);refine bC (λe5=>aw ⟨sm,.inl ⟨_,rfl,tu gf (.inl (bu.mp e5))⟩⟩) λe5=>?_
       have e5:=xo λz=>e5 (bu.mpr z)
       have e6:ja-1+jb+x+2<=a.size+b.size:=by lia
       exact bC (λ_=>aw ⟨sm,.inr ⟨_,_,_,_,_,_,rfl,gf,e5,v1,e6⟩⟩) λ_=>aw ⟨sm,_,_,_,_,_,_,rfl,gf,e5,v1,e6⟩
      refine bC (λX5=>?_) λX5=>?_
      ·have gl:Hi a b (o.push bx++(b.extract k' (mb-1)).reverse) ja k':=(gb.symm.more ub l1 λi x q1 q2 hx z hz=>by
        obtain⟨m,p1,p2,p3,p4⟩:=gE hz;have u1:=Ii.2.mp (l3 i q1 q2);rw[dy,vk hx]at u1;have u2:=qE ua (i:=m) (j:=ja-1) (by lia) (by lia)
        rw[Vg,p4]at u2;exact c8 u2 u1).symm
       refine bC (λe4=>aw ⟨sm,.inl ⟨_,rfl,yh gl (bu.mp e4)⟩⟩) λe4=>?_
       refine bC (λe5=>aw ⟨sm,.inl ⟨_,rfl,tu gl (.inr (bu.mp e5))⟩⟩) λe5=>?_
       have e4:¬k'=1:=λz=>e4 (bu.mpr z)
       have e5:¬k'=0:=λz=>e5 (bu.mpr z)
       exact Zh k' _ gl (by lia) v2 (by lia)
      ·have X5:¬mb-1-k'>0:=X5;rw[show k'=mb-1 by lia]at v2
       exact Zh (mb-1) _ gb (by lia) v2 (by lia)
     have w2:∀m,m<k->K a m<=ky bx:=λm q1=>by
      have:=Ij.1.mp (k2 m q1)
      rwa [dy]at this
     refine bC (λX6=>?_) λX6=>?_
     ·have gk:Hi a b (out++(a.extract k ma).reverse) k mb:=g.more ua k1 λi x q1 q2 hx z hz=>by
       obtain⟨m,p1,p2,p3,p4⟩:=gE hz;have u1:=Ij.2.mp (k3 i q1 q2);rw[dy,vk hx]at u1;have u2:=qE ub (i:=m) (j:=mb-1) (by lia) (by lia)
       rw[Vf,p4]at u2;exact c8 u2 (ki u1)
      exact bC (λe1=>aw ⟨sm,.inl ⟨_,rfl,tu gk (.inl (bu.mp e1))⟩⟩) λe1=>hj2 k _ gk (xo λz=>e1 (bu.mpr z)) w2 (by lia)
     ·have X6:¬ma-k>0:=X6;rw[show k=ma by lia]at w2
      exact hj2 ma _ g z1 w2 z3
    exact bC (λ_=>hj _) λ_=>hj _
end
end
section
variable {prog:Program} {w:World} {A:Around} {E:Value->Shared->Prop} {s:Shared} {st:SortSt}
theorem Gh(sa:Nat):∀(l:List Keyed) (i:Nat) (a:Array Keyed),sa+i+l.length<=a.size->((l.zipIdx i).foldl (λa (x:Keyed×Nat)=>match x with | (p,j)=>a.setIfInBounds (sa+j) p) a).toList=a.toList.take (sa+i)++l++a.toList.drop (sa+i+l.length)
 | [],i,a,_=>by simp
 | p::l,i,a,h=>by
  rw[aM]at h;rw[List.zipIdx_cons,xJ];rw[Gh sa l (i+1) (a.setIfInBounds (sa+i) p) (by grind),Array.toList_setIfInBounds,aM,<-Nat.add_assoc sa i 1]
  have hl:sa+i<a.toList.length:=by grind
  rw[List.drop_set_of_lt (fM _ _),DF,List.take_set_of_le (aq _),se hl,show sa+i+(l.length+1)=sa+i+1+l.length by lia]
  simp
def vd(a:Array Keyed)(i j:Nat):Prop:=∀p q,i<=p->p<=q->q<j->K a p<=K a q
def tx(h:vd a i j)(hj:j<=a.size):up (a.extract i j).toList:=by
 unfold up;rw[List.pairwise_iff_getElem];intro p q hp hq hpq;rw[cY,xk]at hp hq;have e:∀m (hm:m<(a.extract i j).toList.length),ky (a.extract i j).toList[m]=K a (i+m):=λm hm=>by
  rw[cY,xk]at hm;have:(a.extract i j)[m]?=a[i+m]?:=by rw[Array.getElem?_extract];rw[if_pos (by lia)]
  rw[Array.getElem_toList];refine(vk ?_).symm;rw[<-this,rY]
 show ky _<=ky _;rw[e,e];exact h _ _ (fM _ _) (by lia) (by lia)
def rf{a:Array Keyed}(h:IntKeys a)(i j:Nat):IntKeys (a.extract i j):=λp hp=>h p (by
 rw[ox,List.extract_eq_drop_take]at hp;exact List.mem_of_mem_drop (List.mem_of_mem_take hp))
def yk(h:y∈(a.extract i j).toList):∃m,i<=m/\m<j/\m<a.size/\K a m=ky y:=by
 rw[ox,List.extract_eq_drop_take]at h;obtain⟨m,hm,e⟩:=DB.mp h;rw[jG,sF,cY]at hm;exact⟨i+m,(fM _ _),by lia,by lia,vk (by grind)⟩
def Up(a:Array Keyed):Prop:=up a.toList
def adU(a:Array Keyed)(h1:i<=j)(h2:j<=k):a.toList.Perm (a.toList.take i++((a.extract i j).toList++(a.extract j k).toList)++a.toList.drop k):=by
 have e1:(a.extract i j).toList++(a.extract j k).toList=(a.toList.drop i).take (k-i):=by
  rw[ox,ox,List.extract_eq_drop_take,List.extract_eq_drop_take,show k-i=(j-i)+(k-j) by lia,List.take_add,List.drop_drop,show i+(j-i)=j by lia]
 rw[e1];have e2:a.toList.take i++(a.toList.drop i).take (k-i)++a.toList.drop k=a.toList:=by
  rw[<-List.take_add,show i+(k-i)=k by lia,Dy]
 rw[e2]
def Lq(h:vd a 0 a.size):Up a:=by
 have:=tx h (aq _)
 rwa [Array.extract_size]at this
def Ph{x st:σ}(h:Q ⟨⟩ x):wpS M A E s (set x:StateT σ Sem PUnit) Q st:=by
 unfold wpS;rw[StateT.run_set];exact aj ⟨rfl,h⟩
def AV(ha:vd a base (base+n)):∀i j,i<=j->j<n->Bv left key a base j=true->Bv left key a base i=true:=λi j h1 h2 h3=>by
 have:=ha (base+i) (base+j) (fM _ _) (by lia) (by lia)
 unfold Bv at h3 ⊢;cases left with
 | true=>simp only[iZ,iU]at h3 ⊢;lia
 | false=>simp only[sx,jH,xu,Dt]at h3 ⊢;lia
def Lr(h:i+m<j)(hj:j<=a.size):K (a.extract i j) m=K a (i+m):=by
 obtain⟨x,hx,e⟩:=fG (arr:=a) (i:=i+m) (bW ‹_› ‹_›);rw[e];refine vk ?_;rw[Array.getElem?_extract,if_pos (by lia)]
 exact hx
def Ls(hz:n1+n2=a.size)(s1:vd a 0 n1)(s2:vd a n1 (n1+n2))(hk:k<n1)(hj:j<=n2)(h2:0<n2)(ec:K a n1=c0)(ed:K a (n1-1)=d0)
  (k2:∀i,i<k->K a i<=c0) (l3:∀i,j<=i->i<n2->d0<=K a (n1+i)) (g:i9 le (a.extract k n1).toList (a.extract n1 (n1+j)).toList r) :
  (a.toList.take k++r++a.toList.drop (n1+j)).Perm a.toList/\up (a.toList.take k++r++a.toList.drop (n1+j)):=by
 refine⟨((g.1.append_left _).append_right _).trans (adU a (dz ‹_›) (fM _ _)).symm,?_⟩;have hr:∀y∈r,(∃m,k<=m/\m<n1/\K a m=ky y)\/∃m,n1<=m/\m<n1+j/\K a m=ky y:=λy hy=>by
  rcases bD.mp (g.1.mem_iff.mp hy)with hy | hy
  ·obtain⟨m,q1,q2,q3,q4⟩:=yk hy;exact .inl ⟨m,q1,q2,q4⟩
  ·obtain⟨m,q1,q2,q3,q4⟩:=yk hy;exact .inr ⟨m,q1,q2,q4⟩
 refine sj.mpr ⟨sj.mpr ⟨?_,g.2,λx hx y hy=>?_⟩,?_,λx hx y hy=>?_⟩
 ·rw[<-Vj];exact tx (λp q q1 q2 q3=>s1 p q q1 q2 (by lia)) (by lia)
 ·obtain⟨p,p1,p2,p3,p4⟩:=gE hx;show ky x<=ky y;rw[<-p4];rcases hr y hy with⟨m,q1,q2,q3⟩ | ⟨m,q1,q2,q3⟩
  ·rw[<-q3];exact s1 p m (dm _) (by lia) q2
  ·rw[<-q3];have:=k2 p p1;have:=s2 n1 m (aq _) q1 (by lia)
   lia
 ·rw[<-kq];exact tx (λp q q1 q2 q3=>s2 p q (by lia) q2 (by lia)) (aq _)
 ·obtain⟨m,q1,q2,q3,q4⟩:=js hy;show ky x<=ky y;rw[<-q4];have f1:=l3 (m-n1) (by lia) (by lia)
  rw[show n1+(m-n1)=m by lia]at f1
  have f2:∀p,p<n1->K a p<=K a m:=λp hp=>by
   have:=s1 p (n1-1) (dm _) (by lia) (by lia)
   lia
  rcases bD.mp hx with hx | hx
  ·obtain⟨p,p1,p2,p3,p4⟩:=gE hx;rw[<-p4];exact f2 p (by lia)
  ·rcases hr x hx with⟨p,p1,p2,p3⟩ | ⟨p,p1,p2,p3⟩
   ·grind
   ·rw[<-p3];exact s2 p m p1 (by lia) (by lia)
def Ei(hk:kindOf st=oneType')(hf:failedOf st=none)(hi:IntKeys (arrOf st))(hp:pendingOf st=#[(0,n1,pw),(n1,n2,0)])(h1:0<n1)(h2:0<n2)(hz:n1+n2=(arrOf st).size)
  (s1:vd (arrOf st) 0 n1) (s2:vd (arrOf st) n1 (n1+n2))
  (h:∀az,(arrOf az).toList.Perm (arrOf st).toList->Up (arrOf az)->failedOf az=none->pendingOf az=#[(0,n1+n2,pw)]->Q true az):wpS (model prog w) A E s (mergeAt' 0) Q st:=by
 refine ai (eW ?_);have e0:(pendingOf st)[0]?=some (0,n1,pw):=by rw[hp];rfl
 have e1:(pendingOf st)[0+1]?=some (n1,n2,0):=by rw[hp];rfl
 rw[e0,e1];dsimp only
 have hpp:((pendingOf st).setIfInBounds 0 (0,n1+n2,pw)).eraseIdxIfInBounds (0+1)=#[(0,n1+n2,pw)]:=by
  rw[hp];simp[Array.eraseIdxIfInBounds]
 have all:∀{c:Int},K (arrOf st) n1=c->(∀i,i<n1->K (arrOf st) i<=c)->Up (arrOf st):=λ{c} ec hc=>Lq λp q q1 q2 q3=>by
  by_cases hq:q<n1
  ·exact s1 p q q1 q2 hq
  ·by_cases hp:n1<=p
   ·exact s2 p q hp q2 (by lia)
   ·have f1:=hc p (DM ‹_›);have f2:=s2 n1 q (aq _) (oE ‹_›) (by lia)
    lia
 refine ai (Ph ?_);obtain⟨c0,hc0,Zi⟩:=fG (arr:=arrOf st) (i:=n1) (by lia)
 refine ai (b7 hc0 ?_);refine ai (m:=jO false c0 (arrOf st) 0 n1 0) (g9 hk hi (fP hi hc0) (by lia) h1 (AV (by rw[dy];exact s1)) λk k1 k2 k3=>?_)
 have k2':∀i,i<k->K (arrOf st) i<=ky c0:=λi hi=>by
  have:=Ij.1.mp (k2 i hi)
  rwa [dy]at this
 dsimp only
 by_cases hn:n1-k=0
 ·rw[if_pos (bu.mpr hn)];exact aw (h _ (List.Perm.refl _) (all Zi λi hi=>k2' i (by lia)) hf hpp)
 rw[if_neg (λz=>hn (bu.mp z))]
 obtain⟨d0,hd0,ed0⟩:=fG (arr:=arrOf st) (i:=0+k+(n1-k)-1) (by lia)
 refine ai (b7 hd0 ?_);rw[show 0+k+(n1-k)-1=n1-1 by lia]at ed0
 refine ai (m:=jO true d0 (arrOf st) n1 n2 (n2-1)) (g9 hk hi (fP hi hd0) (gJ ‹_›) (by lia) (AV s2) λj j1 j2 j3=>?_)
 have j3':∀i,j<=i->i<n2->ky d0<=K (arrOf st) (n1+i):=λi q1 q2=>Ii.2.mp (j3 i q1 q2)
 have j2':∀i,i<j->K (arrOf st) (n1+i)<ky d0:=λi q1=>Ii.1.mp (j2 i q1)
 dsimp only
 by_cases hj:j=0
 ·rw[if_pos (bu.mpr hj)];have f0:=j3' 0 (gJ ‹_›) h2;refine aw (h _ (List.Perm.refl _) (all Zi λi hi=>?_) hf hpp)
  have f1:=s1 i (n1-1) (dm _) (by lia) (by lia)
  rw[oK]at f0;rw[Zi]at f0;rw[ed0]at f1;exact c8 f1 f0
 rw[if_neg (λz=>hj (bu.mp z))]
 rw[dy];have k3k:=Ij.2.mp (k3 k (aq _) (by lia))
 rw[dy]at k3k;have first:K ((arrOf st).extract n1 (n1+j)) 0<=K ((arrOf st).extract k n1) 0:=by
  rw[Lr (by lia) (by lia),Lr (by lia) (by lia),oK,oK,Zi]
  exact ki k3k
 have zx:((arrOf st).extract k n1).size=n1-k:=by rw[xk];lia
 have zy:((arrOf st).extract n1 (n1+j)).size=j:=by rw[xk];lia
 have gL:∀y∈((arrOf st).extract n1 (n1+j)).toList,ky y<=K ((arrOf st).extract k n1) (((arrOf st).extract k n1).size-1):=λy hy=>by
  obtain⟨m,q1,q2,q3,q4⟩:=yk hy;rw[zx,Lr (by lia) (by lia),show k+(n1-k-1)=n1-1 by lia,ed0,<-q4]
  have:=j2' (m-n1) (by lia)
  rw[show n1+(m-n1)=m by lia]at this
  exact ki this
 have ux:up ((arrOf st).extract k n1).toList:=tx (λp q q1 q2 q3=>s1 p q (dm _) q2 q3) (by lia)
 have uy:up ((arrOf st).extract n1 (n1+j)).toList:=tx (λp q q1 q2 q3=>s2 p q q1 q2 (by lia)) (by lia)
 have fin:∀(r:Array Keyed) (az:SortSt),arrOf az=arrOf st->failedOf az=none->pendingOf az=#[(0,n1+n2,pw)]->i9 le ((arrOf st).extract k n1).toList ((arrOf st).extract n1 (n1+j)).toList r.toList ->
   Q (failedOf az).isNone (SortSt.mk' (kindOf az) (r.toList.zipIdx.foldl (λa (x:Keyed×Nat)=>match x with | (p,i)=>a.setIfInBounds (k+i) p) (arrOf az)) (pendingOf az) (gallopOf az) (failedOf az)):=λr az a1 a2 a3 g=>by
  have hl:r.toList.length=n1-k+j:=by rw[g.1.length_eq,bJ,cY,cY,zx,zy]
  obtain⟨w1,w2⟩:=Ls hz s1 s2 (by lia) j1 h2 Zi ed0 k2' j3' g
  have e:=Gh k r.toList 0 (arrOf az) (by rw[a1,hl];lia)
  rw[a1,hl,show k+0+(n1-k+j)=n1+j by lia,oK]at e
  rw[<-e]at w1 w2;have a4:(failedOf az).isNone=true:=by rw[a2];rfl
  rw[a4];refine h _ ?_ ?_ a2 a3
  ·show(List.foldl _ (arrOf az) _).toList.Perm _;rw[a1];exact w1
  ·show up (List.foldl _ (arrOf az) _).toList;rw[a1];exact w2
 by_cases hc:n1-k<=j
 ·rw[if_pos hc];refine ai (m:=AL ((arrOf st).extract k n1) ((arrOf st).extract n1 (n1+j))) (Eg hk (rf hi _ _) (rf hi _ _) ux uy (by rw[zx];lia) (by rw[zy];lia) first gL λr az sm g=>?_)
  refine ai (gq ?_);refine ai (eW ?_);exact aw (fin r az sm.2.1 (sm.2.2.2.trans hf) (sm.2.2.1.trans hpp) g)
 ·rw[if_neg hc];refine ai (m:=AS ((arrOf st).extract k n1) ((arrOf st).extract n1 (n1+j))) (Eh hk (rf hi _ _) (rf hi _ _) ux uy (by rw[zx];lia) (by rw[zy];lia) first gL λr az sm g=>?_)
  refine ai (gq ?_);refine ai (eW ?_);exact aw (fin r az sm.2.1 (sm.2.2.2.trans hf) (sm.2.2.1.trans hpp) g)
end
structure RB (a:Array Keyed) (lo:Nat) (pd:Array (Nat×Nat×Nat)) (st:SortSt):Prop where
 perm:(arrOf st).Perm a
 kind:kindOf st=oneType'
 failed:failedOf st=none
 pend:pendingOf st=pd
 low:∀i,i<lo->K (arrOf st) i=K a i
section
variable {prog:Program} {w:World} {A:Around} {E:Value->Shared->Prop} {s:Shared} {st:SortSt} {a:Array Keyed} {lo:Nat} {pd:Array (Nat×Nat×Nat)}
def RB.size(h:RB a lo pd st):(arrOf st).size=a.size:=h.perm.size_eq
def RB.ints(h:RB a lo pd st)(h0:IntKeys a):IntKeys (arrOf st):=λp hp=>h0 p ((rW.mp h.perm).mem_iff.mp hp)
def RB.set(h:RB a lo pd st)(hp:xs.Perm (arrOf st))(hl:∀i,i<lo->K xs i=K (arrOf st) i):RB a lo pd (setArr st xs):=⟨hp.trans h.perm,h.kind,h.failed,h.pend,λi hi=>(hl i hi).trans (h.low i hi)⟩
def RB.lt(h:RB a lo pd st)(h0:IntKeys a)(hi:i<a.size)(hj:j<a.size) (hq:Q (some (decide (K (arrOf st) i<K (arrOf st) j))) st):wpS (model prog w) A E s (ltAt' i j) Q st:=by
 obtain⟨x,hx,ex⟩:=fG (by rw[h.size];exact hi)
 obtain⟨y,hy,ey⟩:=fG (by rw[h.size];exact hj)
 rw[ltAt'_eq];refine ai (eW ?_);refine ai (b7 hx ?_);refine ai (b7 hy ?_);rw[ex,ey]at hq;exact AK h.kind (fP (h.ints h0) hx) (fP (h.ints h0) hy) hq
def pX(h0:IntKeys a)(hB:RB a lo pd st)(hz:lo+qF<=a.size)(h1:1<=qF)(hd:∀p q,lo<=p->p<q->q<lo+qF->K (arrOf st) p≠K (arrOf st) q)
  (h:∀m az,RB a lo pd az->1<=m->m<=qF->vd (arrOf az) lo (lo+m)->Q (some m) az):wpS (model prog w) A E s (countRun' lo qF) Q st:=by
 refine ai (dR (dQ
  (I:=λx c az=>az=st/\c=(none,x)/\vd (arrOf st) lo (lo+x))
  (Q:=λc az=>az=st/\∃n,c=(none,n)/\1<=n/\n<=qF/\vd (arrOf st) lo (lo+n)/\(n<qF->K (arrOf st) (lo+n)<K (arrOf st) (lo+n-1))) ?step ?fin ⟨rfl,rfl,λp q q1 q2 q3=>by grind⟩) ?post)
 case fin =>
  rintro c az ⟨rfl,rfl,z⟩
  rw[DO h1]at z ⊢;exact⟨rfl,qF,rfl,h1,aq _,z,λq=>absurd q (gI _)⟩
 case step =>
  rintro x c az X7 hx ⟨rfl,rfl,z⟩
  refine ai (hB.lt h0 (by lia) (by lia) ?_)
  (try dsimp only)
  by_cases hw:K (arrOf az) (lo+x)<K (arrOf az) (lo+x-1)
  ·rw[if_pos (bX hw)];exact aw ⟨rfl,x,rfl,X7,(dz ‹_›),z,λ_=>hw⟩
  ·rw[if_neg (λq=>hw (fy q))]
   refine aw ⟨rfl,rfl,λp q q1 q2 q3=>?_⟩
   by_cases e:q<lo+x
   ·exact z p q q1 q2 e
   ·have eq:q=lo+x:=by lia
    subst eq;by_cases e2:p=lo+x
    ·grind
    ·have:=z p (lo+x-1) q1 (by lia) (by lia)
     lia
 case post =>
  rintro c az ⟨rfl,n,rfl,n1,n2,z,zn⟩
  (try dsimp only)
  by_cases e:n=qF
  ·rw[if_pos (bu.mpr e)];exact aw (h n az hB n1 n2 z)
  rw[if_neg (λq=>e (bu.mp q))]
  by_cases en:n>1
  ·rw[if_pos en];refine ai (hB.lt h0 (by lia) (by lia) ?_)
   (try dsimp only)
   have hw:K (arrOf az) lo<K (arrOf az) (lo+n-1):=by
    have f1:=z lo (lo+n-1) (aq _) (by lia) (by lia)
    have f2:=hd lo (lo+n-1) (aq _) (by lia) (by lia)
    lia
   rw[if_pos (bX hw)];exact aw (h n az hB n1 n2 z)
  rw[if_neg en];have en1:n=1:=by lia
  subst en1;have zn:=zn (by lia)
  refine ai (km (gu ⟨rfl,?_⟩));have ini:∀p q,lo<=p->p<=q->q<lo+(1+1)->K (arrOf az) q<=K (arrOf az) p:=λp q q1 q2 q3=>by
   grind
  refine ai (dR (dQ
   (I:=λx c st2=>st2=az/\c=(none,x,0)/\∀p q,lo<=p->p<=q->q<lo+x->K (arrOf az) q<=K (arrOf az) p)
   (Q:=λc st2=>st2=az/\∃n,c=(none,n,0)/\2<=n/\n<=qF/\∀p q,lo<=p->p<=q->q<lo+n->K (arrOf az) q<=K (arrOf az) p) ?AQ ?Lp ⟨rfl,rfl,ini⟩) ?AR)
  case Lp =>
   rintro c st2 ⟨rfl,rfl,z⟩
   rw[DO (by lia)]at z ⊢
   exact⟨rfl,qF,rfl,by lia,aq _,z⟩
  case AQ =>
   rintro x c st2 X7 hx ⟨rfl,rfl,z⟩
   refine ai (m:=ltAt' (lo+x) (lo+x-1)) (hB.lt h0 (by lia) (by lia) ?_)
   (try dsimp only)
   by_cases hw:K (arrOf st2) (lo+x)<K (arrOf st2) (lo+x-1)
   ·rw[if_pos (bX hw),if_neg (by lia)]
    refine aw ⟨rfl,rfl,λp q q1 q2 q3=>?_⟩
    by_cases e:q<lo+x
    ·grind
    ·grind
   ·rw[if_neg (λq=>hw (fy q))]
    refine ai (hB.lt h0 (by lia) (by lia) ?_)
    (try dsimp only)
    have hl:K (arrOf st2) (lo+x-1)<K (arrOf st2) (lo+x):=by
     grind
    rw[if_pos (bX hl)];exact aw ⟨rfl,x,rfl,by lia,(dz ‹_›),z⟩
  case AR =>
   rintro c st2 ⟨rfl,n,rfl,m1,m2,zd⟩
   (try dsimp only)
   rw[if_neg (by lia)]
   refine ai (wpS_reverse ?_);have hj:lo+n<=(arrOf st2).size:=by rw[hB.size];lia
   have rg:=hB.set (mirror_perm (arrOf st2) lo (lo+n) ((lo+n-lo)/2)) λi hi=>by rw[K_mirror hj,if_neg (by lia)]
   have s2:vd (arrOf (setArr st2 (mirror (arrOf st2) lo (lo+n) ((lo+n-lo)/2)))) lo (lo+n):=λp q q1 q2 q3=>by
    rw[K_mirror hj,K_mirror hj,if_pos (by lia),if_pos (by lia)]
    exact zd _ _ (by lia) (by lia) (by lia)
   revert rg s2
   generalize setArr st2 (mirror (arrOf st2) lo (lo+n) ((lo+n-lo)/2))=vO
   intro rg s2;refine ai (dR (dQ
    (I:=λx c az=>az=vO/\c=(none,x)/\vd (arrOf vO) lo (lo+x))
    (Q:=λc az=>az=vO/\∃n,c=(none,n)/\1<=n/\n<=qF/\vd (arrOf vO) lo (lo+n)) ?Zj ?adV ⟨rfl,rfl,s2⟩) ?Zk)
   case adV =>
    rintro c az ⟨rfl,rfl,z⟩
    rw[DO m2]at z ⊢;exact⟨rfl,qF,rfl,h1,aq _,z⟩
   case Zk =>
    rintro c az ⟨rfl,n,rfl,n1,n2,z⟩
    exact aw (h n az rg n1 n2 z)
   case Zj =>
    rintro x c az X7 hx ⟨rfl,rfl,z⟩
    refine ai (rg.lt h0 (by lia) (by lia) ?_)
    (try dsimp only)
    by_cases hw:K (arrOf az) (lo+x)<K (arrOf az) (lo+x-1)
    ·rw[if_pos (bX hw)];exact aw ⟨rfl,x,rfl,by lia,(dz ‹_›),z⟩
    ·rw[if_neg (λq=>hw (fy q))]
     refine aw ⟨rfl,rfl,λp q q1 q2 q3=>?_⟩
     by_cases e:q<lo+x
     ·exact z p q q1 q2 e
     ·have eq:q=lo+x:=by lia
      subst eq;by_cases e2:p=lo+x
      ·rw[e2];exact oO _
      ·have:=z p (lo+x-1) q1 (by lia) (by lia)
       lia
def lD(h0:IntKeys a)(hB:RB a lo pd st)(hz:lo+n<=a.size)(h1:1<=ok)(hn:ok<=n)(hs:vd (arrOf st) lo (lo+ok))
  (h:∀az,RB a lo pd az->vd (arrOf az) lo (lo+n)->Q true az):wpS (model prog w) A E s (binarySort' lo n ok) Q st:=by
 refine ai (dR (dQ
  (I:=λk c az=>c=(none,())/\RB a lo pd az/\vd (arrOf az) lo (lo+k))
  (Q:=λc az=>c=(none,())/\RB a lo pd az/\vd (arrOf az) lo (lo+n)) ?step ?fin ⟨rfl,hB,by rw[Nat.max_eq_left h1];exact hs⟩) ?post)
 case fin =>
  rintro c az ⟨rfl,hB,z⟩
  rw[show max (max ok 1) n=n by lia]at z
  exact⟨rfl,hB,z⟩
 case post =>
  rintro c az ⟨rfl,hB,z⟩
  exact aw (h az hB z)
 case step =>
  rintro k c az hk1 hk ⟨rfl,hB,z⟩
  (try dsimp only)
  refine ai (dR (dQ
   (I:=λx c st2=>st2=az/\∃l r,c=(none,l,r)/\l<=r/\r<=k/\r-l<=k-x/\(∀i,i<l->K (arrOf az) (lo+i)<=K (arrOf az) (lo+k))/\(∀i,r<=i->i<k->K (arrOf az) (lo+k)<=K (arrOf az) (lo+i)))
   (Q:=λc st2=>st2=az/\∃l,c=(none,l,l)/\l<=k/\(∀i,i<l->K (arrOf az) (lo+i)<=K (arrOf az) (lo+k))/\(∀i,l<=i->i<k->K (arrOf az) (lo+k)<=K (arrOf az) (lo+i))) ?AN ?Lo ⟨rfl,0,k,rfl,(dm _),(aq _),(aq _),(λi q=>by lia),λi q1 q2=>by lia⟩) ?AO)
  case Lo =>
   rintro c st2 ⟨rfl,l,r,rfl,r1,r2,r3,r4,r5⟩
   have:l=r:=by lia
   subst this;exact⟨rfl,l,rfl,r2,r4,r5⟩
  case AN =>
   rintro x c st2 _ hx ⟨rfl,l,r,rfl,r1,r2,r3,r4,r5⟩
   (try dsimp only)
   by_cases hl:l>=r
   ·rw[if_pos hl];have:l=r:=by lia
    subst this;exact aw ⟨rfl,l,rfl,r2,r4,r5⟩
   rw[if_neg hl];refine ai (hB.lt h0 (by lia) (by lia) ?_)
   (try dsimp only)
   by_cases hw:K (arrOf st2) (lo+k)<K (arrOf st2) (lo+(l+r)/2)
   ·rw[if_pos (bX hw)];refine aw ⟨rfl,_,_,rfl,by lia,by lia,by lia,r4,λi q1 q2=>?_⟩
    have:=z (lo+(l+r)/2) (lo+i) (fM _ _) (by lia) (by lia)
    lia
   ·rw[if_neg (λq=>hw (fy q))]
    refine aw ⟨rfl,_,_,rfl,by lia,by lia,by lia,λi q1=>?_,r5⟩
    have:=z (lo+i) (lo+(l+r)/2) (fM _ _) (by lia) (by lia)
    lia
  case AO =>
   rintro c st2 ⟨rfl,l,rfl,l1,l2,l3⟩
   (try dsimp only)
   have hsz:lo+k<(arrOf st2).size:=by rw[hB.size];lia
   refine ai (gq ?_);refine aw ⟨rfl,hB.set (bubble_perm _ _ _) (λi hi=>by
    show K (bubble (arrOf st2) (lo+k) (lo+k-(lo+l))) i=_;rw[K_bubble hsz (by lia),if_neg (by lia),if_neg (by lia)]),λp q q1 q2 q3=>?_⟩
   show K (bubble (arrOf st2) (lo+k) (lo+k-(lo+l))) p<=K (bubble (arrOf st2) (lo+k) (lo+k-(lo+l))) q;rw[K_bubble hsz (by lia),K_bubble hsz (by lia)]
   have zz:∀i j,i<=j->j<k->K (arrOf st2) (lo+i)<=K (arrOf st2) (lo+j):=λi j e1 e2=>z _ _ (fM _ _) (by lia) (by lia)
   obtain⟨i,rfl⟩:∃i,p=lo+i:=⟨p-lo,by lia⟩
   obtain⟨j,rfl⟩:∃j,q=lo+j:=⟨q-lo,by lia⟩
   by_cases c1:i<l
   ·rw[if_neg (by lia),if_neg (by lia)]
    by_cases c2:j<l
    ·rw[if_neg (by lia),if_neg (by lia)];exact zz i j (by lia) (by lia)
    ·by_cases c3:j=l
     ·rw[if_pos (by lia)];exact l2 i c1
     ·rw[if_neg (by lia),if_pos (by lia),show lo+j-1=lo+(j-1) by lia];exact zz i (j-1) (by lia) (by lia)
   ·by_cases c2:i=l
    ·rw[if_pos (by lia)]
     by_cases c3:j=l
     ·rw[if_pos (by lia)];exact oO _
     ·rw[if_neg (by lia),if_pos (by lia),show lo+j-1=lo+(j-1) by lia];exact l3 (j-1) (by lia) (by lia)
    ·rw[if_neg (by lia),if_pos (by lia),if_neg (by lia),if_pos (by lia),show lo+i-1=lo+(i-1) by lia,show lo+j-1=lo+(j-1) by lia]
     exact zz (i-1) (j-1) (by lia) (by lia)
end
section
variable {prog:Program} {w:World} {A:Around} {E:Value->Shared->Prop} {s:Shared} {st:SortSt} {a:Array Keyed}
def Sy(a:Array Keyed):Prop:=(a.toList.map ky).Nodup
def Sy.ne(h:Sy a)(h1:p<q)(h2:q<a.size):K a p≠K a q:=by
 obtain⟨x,hx,ex⟩:=fG (arr:=a) (i:=p) (by lia)
 obtain⟨y,hy,ey⟩:=fG h2;intro e;rw[ex,ey]at e;have g:∀{i:Nat} {x:Keyed},a[i]?=some x->(a.toList.map ky)[i]?=some (ky x):=λ{i x} h=>by rw[bZ,lW,h];rfl
 have:=(List.getElem?_inj (by rw[aD,cY];lia) h).mp ((g hx).trans ((dA some e).trans (g hy).symm))
 lia
def Sy.perm(h:Sy a)(p:b.Perm a):Sy b:=((rW.mp p).map ky).nodup_iff.mpr h
def Ik(h1:64<=n)(h2:n<128):minRun' n n 0=n/2+n%2:=by
 obtain⟨f,hf⟩:∃f,n=f+2:=⟨n-2,by lia⟩
 have e:∀m,minRun' (f+2) m 0=if m<64 then m+0 else(if m/2<64 then m/2+max 0 (m%2)else minRun' f (m/2/2) (max (max 0 (m%2)) (m/2%2))):=λm=>rfl
 have:=e n;rw[if_neg (by lia),if_pos (by lia)]at this
 rw[<-hf]at this;rw[this]
 lia
def Two(a:Array Keyed)(st:SortSt):Prop:=∃n1 pw,0<n1/\n1<a.size/\RB a 0 #[(0,n1,pw),(n1,a.size-n1,0)] st/\vd (arrOf st) 0 n1/\vd (arrOf st) n1 a.size
def One(a:Array Keyed)(st:SortSt):Prop:=(arrOf st).toList.Perm a.toList/\failedOf st=none/\Up (arrOf st)/\(pendingOf st).size=1
def AW(h0:IntKeys a)(hB:RB a 0 #[] st)(z1:64<=a.size)(z2:a.size<128)(hd:Sy a)(h:∀az,One a az->Q () az):wpS (model prog w) A E s sortRuns' Q st:=by
 refine ai (eW ?_)
 (try dsimp only)
 have hsz:=hB.size;have hmr:=Ik z1 z2;rw[hsz];rw[show(sortPriv% PySem.Builtin.minRun) a.size a.size 0=a.size/2+a.size%2 from hmr]
 generalize hr:a.size/2+a.size%2=mr
 refine ai (dR (dQ
  (I:=λx c az=>(x=0/\c=(none,0)/\RB a 0 #[] az)\/(x=1/\∃n1,c=(none,n1)/\0<n1/\n1<=a.size/\mr<=n1/\RB a 0 #[(0,n1,0)] az/\vd (arrOf az) 0 n1)\/(2<=x/\c=(none,a.size)/\Two a az))
  (Q:=λc az=>c.1=none/\(One a az\/Two a az)) ?step ?fin (.inl ⟨rfl,rfl,hB⟩)) ?post)
 case fin =>
  rintro c az (⟨q,_⟩ | ⟨q,_⟩ | ⟨_,rfl,t⟩)
  ·lia
  ·lia
  ·exact⟨rfl,.inr t⟩
 case post =>
  rintro c az ⟨e,hc⟩
  (try dsimp only)
  rw[e]
  (try dsimp only)
  refine ai (dR (dQ
   (I:=λx c az=>c=(none,())/\(One a az\/x=0/\Two a az))
   (Q:=λc az=>c=(none,())/\One a az) ?Zl ?adY ⟨rfl,hc.imp id λt=>⟨rfl,t⟩⟩) ?Zm)
  case adY =>
   rintro c az ⟨rfl,o | ⟨q,_⟩⟩
   ·exact⟨rfl,o⟩
   ·lia
  case Zm =>
   rintro c az ⟨rfl,o⟩
   exact aw (h az o)
  case Zl =>
   rintro x c az _ _ ⟨rfl,o | ⟨q,n1,pw,t1,t2,t3,t4,t5⟩⟩
   ·refine ai (eW ?_)
    (try dsimp only)
    rw[if_pos (by rw[o.2.2.2];exact aq _)]
    exact aw ⟨rfl,o⟩
   ·refine ai (eW ?_)
    (try dsimp only)
    have e2:(pendingOf az).size=2:=by rw[t3.pend];rfl
    rw[e2,if_neg (by lia)]
    refine ai (Ei t3.kind t3.failed (t3.ints h0) t3.pend t1 (by lia) (by rw[t3.size];lia) t4 (by rw[show n1+(a.size-n1)=a.size by lia];exact t5) λst2 p1 p2 p3 p4=>?_)
    exact aw ⟨rfl,.inl ⟨p1.trans (rW.mp t3.perm),p3,p2,by rw[p4];rfl⟩⟩
 case step =>
  rintro x c az _ hx (⟨rfl,rfl,hB⟩ | ⟨rfl,n1,rfl,n0,n2,n3,hB,sr⟩ | ⟨hx2,rfl,t⟩)
  ·(try dsimp only)
   rw[if_neg (by lia)]
   refine ai (pX h0 hB (by lia) (iQ ‹_› ‹_›) (λp q _ q2 q3=>(hd.perm hB.perm).ne q2 (by rw[hB.size];lia)) λm st2 rg m1 m2 sm=>?_)
   (try dsimp only)
   by_cases hm:m<mr
   ·rw[if_pos hm];refine ai (km (gu ⟨rfl,?_⟩));refine ai (lD h0 rg (by lia) m1 (by lia) sm λvO Ej sm3=>?_)
    rw[if_neg (by simp)]
    refine ai (eW ?_);rw[show(pendingOf vO).back?=none by rw[Ej.pend];rfl]
    (try dsimp only)
    refine ai (gq ?_);refine aw (.inr (.inl ⟨rfl,_,rfl,by lia,by lia,by lia,⟨Ej.perm,Ej.kind,Ej.failed,?_,Ej.low⟩,?_⟩))
    ·show(pendingOf vO).push _=_;rw[Ej.pend];show #[(0,min (a.size-0) mr,0)]=_;rw[dy]
    ·exact sm3
   ·rw[if_neg hm];refine ai (eW ?_);rw[show(pendingOf st2).back?=none by rw[rg.pend];rfl]
    (try dsimp only)
    refine ai (gq ?_);refine aw (.inr (.inl ⟨rfl,_,rfl,(c7 ‹_›),by lia,by lia,⟨rg.perm,rg.kind,rg.failed,?_,rg.low⟩,?_⟩))
    ·show(pendingOf st2).push _=_;rw[rg.pend];show #[(0,m,0)]=_;rw[dy]
    ·exact sm
  ·(try dsimp only)
   by_cases hn:n1>=a.size
   ·rw[if_pos hn];have e:n1=a.size:=by lia
    refine aw ⟨rfl,.inl ⟨rW.mp hB.perm,hB.failed,Lq ?_,by rw[hB.pend];rfl⟩⟩
    rw[hB.size,<-e];exact sr
   rw[if_neg hn];have hBn:RB (arrOf az) n1 #[(0,n1,0)] az:=⟨Array.Perm.refl _,hB.kind,hB.failed,hB.pend,λ_ _=>rfl⟩
   have hI:IntKeys (arrOf az):=hB.ints h0;have hS:=hB.size;refine ai (m:=countRun' n1 (a.size-n1)) (pX hI hBn (by lia) (by lia) (λp q _ q2 q3=>(hd.perm hB.perm).ne q2 (by lia)) λm st2 rg m1 m2 sm=>?_)
   (try dsimp only)
   have em:min (a.size-n1) mr=a.size-n1:=by lia
   by_cases hm:m<mr
   ·rw[if_pos hm];refine ai (km (gu ⟨rfl,?_⟩));refine ai (m:=binarySort' n1 (min (a.size-n1) mr) m) (lD hI rg (by lia) m1 (by lia) sm λvO Ej sm3=>?_)
    rw[if_neg (by simp)]
    have eN:n1+min (a.size-n1) mr=a.size:=by lia
    refine ai (eW ?_);rw[show(pendingOf vO).back?=some (0,n1,0) by rw[Ej.pend];rfl]
    (try dsimp only)
    refine ai (dR (dQ (I:=λ_ c kR=>kR=vO/\c=(none,())) (Q:=λc kR=>kR=vO/\c=(none,())) ?_ (λ_ _ hh=>hh) ⟨rfl,rfl⟩) ?_)
    ·rintro y c kR _ _ ⟨rfl,rfl⟩
     refine ai (eW ?_)
     (try dsimp only)
     rw[show(pendingOf kR).size=1 by rw[Ej.pend];rfl,if_neg (by lia)]
     exact aw ⟨rfl,rfl⟩
    ·rintro c kR ⟨rfl,rfl⟩
     (try dsimp only)
     refine ai (gq ?_);refine ai (gq ?_);refine aw (.inr (.inr ⟨aq _,by rw[eN],n1,power' a.size (2*0+n1) (2*0+n1+n1+min (a.size-n1) mr) a.size,n0,(DM ‹_›),⟨Ej.perm.trans hB.perm,Ej.kind,Ej.failed,?_,λ_ z=>absurd z (DQ _)⟩,λp q q1 q2 q3=>?_,?_⟩))
     ·show((pendingOf kR).modify ((pendingOf kR).size-1) _).push _=_;rw[Ej.pend,em];rfl
     ·show K (arrOf kR) p<=K (arrOf kR) q;rw[Ej.low p (iQ ‹_› ‹_›),Ej.low q (‹_›)];exact sr p q q1 q2 q3
     ·show vd (arrOf kR) n1 a.size;have:=sm3
      rwa [eN]at this
   ·rw[if_neg hm];have eM:m=a.size-n1:=by lia
    have eN:n1+m=a.size:=by lia
    refine ai (eW ?_);rw[show(pendingOf st2).back?=some (0,n1,0) by rw[rg.pend];rfl]
    (try dsimp only)
    refine ai (dR (dQ (I:=λ_ c kR=>kR=st2/\c=(none,())) (Q:=λc kR=>kR=st2/\c=(none,())) ?_ (λ_ _ hh=>hh) ⟨rfl,rfl⟩) ?_)
    ·rintro y c kR _ _ ⟨rfl,rfl⟩
     refine ai (eW ?_)
     (try dsimp only)
     rw[show(pendingOf kR).size=1 by rw[rg.pend];rfl,if_neg (by lia)]
     exact aw ⟨rfl,rfl⟩
    ·rintro c kR ⟨rfl,rfl⟩
     (try dsimp only)
     refine ai (gq ?_);refine ai (gq ?_);refine aw (.inr (.inr ⟨aq _,by rw[eN],n1,power' a.size (2*0+n1) (2*0+n1+n1+m) a.size,n0,(DM ‹_›),⟨rg.perm.trans hB.perm,rg.kind,rg.failed,?_,λ_ z=>absurd z (DQ _)⟩,λp q q1 q2 q3=>?_,?_⟩))
     ·show((pendingOf kR).modify ((pendingOf kR).size-1) _).push _=_;rw[rg.pend,eM];rfl
     ·show K (arrOf kR) p<=K (arrOf kR) q;rw[rg.low p (iQ ‹_› ‹_›),rg.low q (‹_›)];exact sr p q q1 q2 q3
     ·show vd (arrOf kR) n1 a.size;have:=sm
      rwa [eN]at this
  ·(try dsimp only)
   rw[if_pos (aq _)];exact aw ⟨rfl,.inr t⟩
end
section
variable {prog:Program} {w:World} {A:Around} {E:Value->Shared->Prop} {s:Shared}
def Vk(hI:IntsAre vs ns)(hn:ns.Nodup):Sy (pairsOf vs):=by
 unfold Sy;rw[pairsOf_toList];have:(vs.zip vs).map ky=((vs.zip vs).map Prod.fst).map numOf:=by simp_all
 rw[this,List.map_fst_zip (aq _),hI.nums];exact hn
def Lu(ho:s.heap.get? a=some (seqObj "list" vs.toArray n))(hI:IntsAre vs ns)(hn:ns.Nodup)(z1:64<=vs.length)(z2:vs.length<128)
  (h:∀(out:Array Value) (tD:List Int),IntsAre out.toList tD->tD.Perm ns->tD.Pairwise (· <= ·)->P (.done (.ret .none)) {s with heap:=sortedHeap s.heap a vs out}) :
  wpAny (model prog w) A (Builtin.«list.sort» ⟨[.ref a],[]⟩) P E s:=by
 rw[list_sort_plain];have ha:=aW ho;refine af (listItems_at ho rfl ?_);refine af (listUpdate_at ho rfl ?_);obtain⟨e1,Lv⟩:∃e1,(s.heap.update a (Obj.mapSeq λ_=>#[])).get? a=some (seqObj "list" #[] e1):=⟨_,get?_update_seq ho (λ_=>#[])⟩
 refine af (seqEpoch_at Lv rfl ?_);refine af (wpAny_newTuple ?_);refine af (wpAny_newList ?_);refine eS ?_;have ho6:(((s.heap.update a (Obj.mapSeq λ_=>#[])).push (seqObj "tuple" vs.toArray 0)).push (seqObj "list" #[] 0)).get? a=some (seqObj "list" #[] e1):=by
  rw[Heap.get?_push_ne _ _ _ (by rw[size_push',Heap.size_update];exact bG (xq ha)),Heap.get?_push_ne _ _ _ (by rw[Heap.size_update];exact bG ha)]
  exact Lv
 show wpAny (model prog w) A _ P E {s with heap:=((s.heap.update a (Obj.mapSeq λ_=>#[])).push (seqObj "tuple" vs.toArray 0)).push (seqObj "list" #[] 0)}
 dsimp only
 have hsz:vs.toArray.size=vs.length:=by simp
 rw[if_neg (by lia),if_neg (by lia)]
 obtain⟨Vl,Vm,rest,rfl⟩:∃Vl Vm rest,vs=Vl::Vm::rest:=by
  cases vs with
  | nil=>simp at z1
  | cons v r=>cases r with
   | nil=>simp at z1
   | cons u r=>exact⟨v,u,r,rfl⟩
 rw[keyKind_ints hI];refine af (aj ?_);refine af (kl (AW
  (Q:=λ_ az=>One (pairsOf (Vl::Vm::rest)) az) hI.intKeys ⟨Array.Perm.refl _,rfl,rfl,rfl,λ_ _=>rfl⟩ (by rw[pairsOf_size];exact z1) (by rw[pairsOf_size];exact z2) (Vk hI hn) λaz o=>o) ?_ λ_ _ e=>e)
 rintro⟨⟨⟩,az⟩ s' ⟨rfl,hp,hf,hu,_⟩
 have El:=rW.mpr hp;dsimp only
 refine af (seqEpoch_at ho6 rfl ?_);refine af (listUpdate_at ho6 rfl ?_ (hsz2:=by refine br (gJ ((Array.size_map ..).trans (El.size_eq.trans (pairsOf_size _)))) ?_;rw[xP];lia))
 rw[hf];simp only[bne_self_eq_false,sx,jH];obtain⟨tD,q1,q2,q3⟩:=sorted_out hI El λi j h1 h2=>qE hu h1 (by rw[El.size_eq];exact h2)
 exact aj (h _ tD q1 q2 q3)
def Em(hl:s.heap.IsList l vs.toArray)(hI:IntsAre vs ns)(hn:ns.Nodup)(hz:vs.length<128)
  (h:∀(out:Array Value) (tD:List Int),IntsAre out.toList tD->tD.Perm ns->tD.Pairwise (· <= ·)->Q (.ref (s.heap.objs.size+1)) {s with heap:=sortedAll s.heap vs out}) :
  wpAny (model prog w) A (call (.builtin "sorted") [.ref l]) Q E s:=by
 by_cases h64:vs.length<64
 ·exact sorted_ints hl hI h64 h
 refine Dq kind_sorted plain_sorted entry_sorted (args_sorted1 _) ?_;unfold Builtin.«sorted»;refine af (aj ?_);refine af (collect_list hl ?_);refine af (wpAny_newList ?_);have hsz:((s.heap.push (seqObj "list" #[] 0)).update s.heap.objs.size (Obj.mapSeq (· ++ vs.toArray))).objs.size=s.heap.objs.size+1:=by
  simp_all
 have Sj:(((s.heap.push (seqObj "list" #[] 0)).update s.heap.objs.size (Obj.mapSeq (· ++ vs.toArray))).push (seqObj "list" vs.toArray 0)).get? (s.heap.objs.size+1)=some (seqObj "list" vs.toArray 0):=by
  rw[<-hsz];exact cJ _ rfl
 show wpAny _ _ _ _ _ {s with heap:=((s.heap.push (seqObj "list" #[] 0)).update s.heap.objs.size (Obj.mapSeq (· ++ vs.toArray))).push (seqObj "list" vs.toArray 0)}
 rw[hsz];refine af (eS (ig slot_list_sort ⟨_,Sj,rfl⟩ entry_list_sort (Lu Sj hI hn (oE ‹_›) hz λout tD a1 a2 a3=>⟨_,rfl,?_⟩) (args_list_sort _)))
 exact aj ⟨_,rfl,h out tD a1 a2 a3⟩
def En(hl:s.heap.IsList l vs.toArray)(hI:IntsAre vs ns)(hz:vs.length<64\/vs.length<128/\ns.Nodup)
  (h:∀(out:Array Value) (tD:List Int),IntsAre out.toList tD->tD.Perm ns->tD.Pairwise (· <= ·)->Q (.ref (s.heap.objs.size+1)) {s with heap:=sortedAll s.heap vs out}) :
  wpAny (model prog w) A (call (.builtin "sorted") [.ref l]) Q E s:=by
 rcases hz with hz | ⟨hz,hn⟩
 ·exact sorted_ints hl hI hz h
 ·exact Em hl hI hn hz h
end
end N5
namespace L2
open PySem PySem.Spec PyProof.Rows
section
variable {κ:Type} [DecidableEq κ]
noncomputable def j5(kvs:List (κ×V))(k:κ):Option V:=(kvs.find? λkv=>decide (kv.1=k)).map (·.2)
noncomputable def putK(kvs:List (κ×V))(k:κ)(v:V):List (κ×V) :=
 if(kvs.any λkv=>decide (kv.1=k))=true then kvs.map (λkv=>if kv.1=k then(kv.1,v)else kv)else kvs++[(k,v)]
def mX{p:κ×V}{r:List (κ×V)}{k:κ}(e:p.1=k):j5 (p::r) k=some p.2:=by simp[j5,sJ,e]
def mY{p:κ×V}{r:List (κ×V)}{k:κ}(e:¬p.1=k):j5 (p::r) k=j5 r k:=by simp[j5,sJ,e]
theorem tF(k:κ):∀kvs:List (κ×V),(kvs.any λkv=>decide (kv.1=k))=(j5 kvs k).isSome
 | []=>rfl
 | p::r=>by
  rw[gp];by_cases e:p.1=k
  ·simp only[mX e,bX e,Bool.true_or,Option.isSome_some]
  ·rw[mY e,iV e,Bool.false_or];exact tF k r
def Lw{kvs:List (κ×V)}{k:κ}(v:V)(h:j5 kvs k=none):putK kvs k v=kvs++[(k,v)]:=by
 unfold putK;rw[tF,h];exact if_neg (by decide)
def sU.vY{o:Option V}{u:Option Value}(r:sU o u):o.isSome=u.isSome:=by
 cases o with
 | none=>cases u with
  | none=>rfl
  | some _=>exact(show False from r).elim
 | some _=>cases u with
  | none=>exact(show False from r).elim
  | some _=>rfl
def sU.getD{o:Option V}{u:Option Value}{d:V}{d':Value}(r:sU o u)(rd:RelV d d'):RelV (o.getD d) (u.getD d'):=by
 cases o with
 | none=>cases u with
  | none=>exact rd
  | some _=>exact(show False from r).elim
 | some _=>cases u with
  | none=>exact(show False from r).elim
  | some _=>exact r
def KV.val{kvs:List (κ×V)}{vs:List (κ×Value)}(r:KV kvs vs)(k:κ):sU (j5 kvs k) (valueAt vs k):=by
 unfold KV at r;induction r with
 | nil=>exact True.intro
 | @cons p q ps qs h t ih =>
  obtain⟨h1,h2⟩:=h;by_cases e:p.1=k
  ·have e':q.1=k:=by grind
   have b:valueAt (q::qs) k=some q.2:=by simp[valueAt,sJ,e']
   rw[mX e,b];exact h2
  ·have e':¬q.1=k:=by grind
   have b:valueAt (q::qs) k=valueAt qs k:=by simp[valueAt,sJ,e']
   rw[mY e,b];exact ih
def KV.any{kvs:List (κ×V)}{vs:List (κ×Value)}(r:KV kvs vs)(k:κ):(kvs.any λkv=>decide (kv.1=k))=vs.any λkv=>decide (kv.1=k):=by
 unfold KV at r;induction r with
 | nil=>rfl
 | cons h t ih=>rw[gp,gp,ih,h.1]
def KV.ad0{kvs:List (κ×V)}{vs:List (κ×Value)}(r:KV kvs vs)(k:κ){y:V}{u:Value}(ry:RelV y u) :
  KV (kvs.map λkv=>if kv.1=k then(kv.1,y)else kv) (vs.map λkv=>if kv.1=k then(kv.1,u)else kv):=by
 unfold KV at r ⊢;induction r with
 | nil=>exact .nil
 | @cons p q ps qs h t ih =>
  rw[aE,aE];refine .cons ?_ ih;obtain⟨h1,h2⟩:=h;by_cases e:p.1=k
  ·grind
  ·grind
def KV.put{kvs:List (κ×V)}{vs:List (κ×Value)}(r:KV kvs vs)(k:κ){y:V}{u:Value}(ry:RelV y u):KV (putK kvs k y) (stored vs k u):=by
 unfold putK stored;rw[r.any k];by_cases e:(vs.any λkv=>decide (kv.1=k))=true
 ·rw[if_pos e,if_pos e];exact r.ad0 k ry
 ·rw[if_neg e,if_neg e];exact Paired.snoc r ⟨rfl,ry⟩
theorem KV.length{kvs:List (κ×V)}{vs:List (κ×Value)}(r:KV kvs vs):kvs.length=vs.length:=oI r
end
def tH{P:Program}{w:World}{k:bK}{u:Value}(r:RelV (kV k) u):(dZ P w).is k u=true:=by
 cases k with
 | inl i=>obtain⟨t,e⟩:=(show ∃t,u=Value.int i t from r);subst e;exact Au P w i t
 | inr x=>obtain⟨t,e⟩:=(show ∃t,u=Value.str x t from r);subst e;exact Av P w x t
theorem vZ{P:Program}{w:World}:∀{ks:List bK} {us:List Value},Vals (ks.map kV) us->ItemsAre (dZ P w) ks us
 | [],_,r=>by rw[oM]at r;cases r;exact .nil
 | k::ks,_,r=>by
  rw[aE]at r;cases r with
  | cons h t=>exact .cons (tH h) (vZ t)
section
variable {P:Program} {w:World} {H:Hp} {h:Heap} {a:Addr}
def Sz{u:HO}(ok:l9 P w H h)(e:Rd H a u):gj P w H h a u:=e.ok ok
def Gi{kvs:List (bK×V)}(ok:l9 P w H h)(e:Rd H a (.dK kvs)):kvs.length<=sizeLine/\(a==sysModules)=false/\∃vs,KV kvs vs/\h.DictOf (dZ P w) a vs :=
 show gj P w H h a (.dK kvs)from Sz ok e
def SA{kvs:List (bK×V)}(ok:l9 P w H h)(e:H a=some (.dK kvs)):kvs.length<=sizeLine/\(a==sysModules)=false/\∃vs,KV kvs vs/\h.DictOf (dZ P w) a vs:=Gi ok (.inl e)
end
section
variable {X:Cx} {ae:List (Addr×Obj)} {σ:St} {H:Hp} {s:Shared} {a b:Addr} {k:List bK} {v:V} {r:Value} {A:Around} {E:Value->Shared->Prop} {xs:List (List bK×Addr×Value)}
def key_is(I:Inv X ae σ H s)(e:jm X.K H a (k.map kV)):(tupleKind (dZ X.prog X.w)).is s.heap k a:=by
 obtain⟨aG,r,⟨o,h1,h2,n,h3⟩,_⟩:=I.tuple e;exact⟨o,aG.toArray,n,h1,h2,h3,by simpa using vZ r⟩
def AX(I:Inv X ae σ H s)(e:Rd H a (.dT xs))(hk:gK X.K H xs):xs.length<=sizeLine/\(a==sysModules)=false/\s.heap.DictOfH (tupleKind (dZ X.prog X.w)) a xs:=by
 obtain⟨z,y,o,es,ep,h1,h2,h3,h4,h5⟩:=(show gj X.prog X.w H s.heap a (.dT xs)from Sz I.hok e)
 exact⟨z,y,o,es,ep,h1,h2,h3,h4,λx hx=>key_is I (hk x hx),h5⟩
def Zn{Q:Value->Shared->Prop}(hu:A.units+1<cLine)(I:Inv X ae σ H s)(e:Rd H a (.dT xs))(hk:gK X.K H xs)(eb:jm X.K H b (k.map kV))(h:∀s',Inv X ae σ H s'->Q (.bool (atKey xs k).isSome) s') :
  wpAny (model X.prog X.w) A (compareOp .In (.ref b) (.ref a)) Q E s:=by
 obtain⟨_,hd,dd⟩:=AX I e hk;exact wpAny_in_heap (xm hu) (key_is I eb) hd dd (h _ (I.tok _))
def Zo{Q:Value->Shared->Prop}(hu:A.units+1<cLine)(I:Inv X ae σ H s)(e:Rd H a (.dT xs))(hk:gK X.K H xs)(eb:jm X.K H b (k.map kV)) (h:∀s',Inv X ae σ H s'->Q (.bool (!(atKey xs k).isSome)) s') :
  wpAny (model X.prog X.w) A (compareOp .NotIn (.ref b) (.ref a)) Q E s:=by
 obtain⟨_,hd,dd⟩:=AX I e hk;exact wpAny_notIn_heap (xm hu) (key_is I eb) hd dd (h _ (I.tok _))
def Zp{Q:Value->Shared->Prop}{p:Addr×Value}(hu:A.units+1<cLine)(I:Inv X ae σ H s)(e:Rd H a (.dT xs))(hk:gK X.K H xs)(eb:jm X.K H b (k.map kV))(hp:atKey xs k=some p)(h:∀s',Inv X ae σ H s'->Q p.2 s') :
  wpAny (model X.prog X.w) A (getItem (.ref a) (.ref b)) Q E s:=by
 obtain⟨_,hd,dd⟩:=AX I e hk;exact wpAny_getItem_heap (xm hu) (key_is I eb) dd hp (h _ (I.tok _))
def Eo{κ:Type} [DecidableEq κ] (xs:List (κ×Addr×Value)) (k:κ) (a:Addr) (v:Value):(storedH xs k a v).length<=xs.length+1:=by
 unfold storedH;split
 ·grind
 ·grind
def Vn{Q:Unit->Shared->Prop}(hu:A.units+1<cLine)(I:Inv X ae σ H s)(e:H a=some (.dT xs))(hk:gK X.K H xs)(eb:jm X.K H b (k.map kV))(hl:xs.length<sizeLine)
  (h:∀s',Inv X ae σ (c5 H a (.dT (storedH xs k b r))) s'->Q () s'):wpAny (model X.prog X.w) A (setItem (.ref a) (.ref b) r) Q E s:=by
 obtain⟨_,hd,dd⟩:=AX I (.inl e) hk;refine wpAny_setItem_heap (hsz:=dz hl) (xm hu) (key_is I eb) dd λh' Vo hs=>h _ ?_
 obtain⟨q,es,ep,hq,h2,h3,h4,_,h5⟩:=Vo;exact I.write (x:=a) (e:=a) (by rw[e];exact True.intro) (.inl rfl) (λc q' hc z=>(hs.2 c hc).trans z) ⟨q,hq⟩ ⟨(by have:=Eo xs k b r;lia),hd,q,es,ep,hq,h2,h3,h4,h5⟩
def tJ(I:Inv X ae σ H s):sysModules<s.heap.objs.size:=oN (by decide) (show mainGlobals<s.heap.objs.size from(I.mod.glob.keeps I.bk).lt)
def SD(o:HO):TE:=λ_ H Q=>∀p,H p=none->Q (.ref p) (c5 H p o)
def Pj{pos:Pos}:PE X (.Dict [] [] pos) (SD (.dT [])):=λae s σ H Q I h =>
 wpAny_Dict_empty ⟨.ref s.heap.objs.size,_,I.laid (a:=s.heap.objs.size) (o:=.dT []) (t':=s.toks) (λ_ _ q=>bj _ q) (aq _)
  ⟨dm _,jF.mpr (dU (bG (tJ I))),_,#[],0,cJ _ rfl,⟨rfl,rfl,rfl⟩,rfl,rfl,oG⟩,rfl,h _ (I.hok.fresh (aq _))⟩
def Il{κ:Type} [DecidableEq κ] (xs:List (κ×Addr×Value)) (k:κ):(atKey xs k).isSome=(xs.map (·.1)).any λj=>decide (j=k):=by
 unfold atKey;rw[DE,List.any_map,List.isSome_find?];rfl
end
noncomputable def SE(CX:J0)(P:Program)(w:World)(K:W.Frag)(mg:Str->Option Value)(base:Heap)(N:List Str)(qual:Str)(scope:Scope)(f:Addr)(cd:Value)(cl:List (Str×Addr))(A:Around)(ay:List Env)(s:Shared)(H:Hp)(E:XK):Cx where
 prog:=P
 w:=w
 K:=K
 mg:=mg
 base:=base
 A:=A.deeper (W.envX qual scope s.heap.objs.size f cd cl)
 N:=N
 s₀:=s
 aa:=H
 env:=W.envX qual scope s.heap.objs.size f cd cl
 ay:=ay
 stack:=W.envX qual scope s.heap.objs.size f cd cl::ay
 ex:=[]
 calm:=true
 fn:=λ_=>false
 pn:=[]
 xe:=λe s'=>wpAny (model P w) (A.deeper (W.envX qual scope s.heap.objs.size f cd cl)) (leaving (W.envX qual scope s.heap.objs.size f cd cl) e) (λ_ Lb=>CX ay H s E e Lb) (λe' Lb=>CX ay H s E e' Lb) s'
structure mi (h:Heap) (H:Hp) (scope:Scope) (cl:List (Str×Addr)) (N:List Str) (τ:St):Prop where
 inj:∀x y c,cl.lookup x=some c->cl.lookup y=some c->x=y
 has:∀x,scope.names.lookup x=some .free->∃c,cl.lookup x=some c
 cell:∀x c,cl.lookup x=some c->∃v,h.IsCell c v
 free:∀x c,cl.lookup x=some c->H c=none
 val:∀(i:Nat) (x:Str) (v:V),N[i]?=some x->τ[i]?=some (some v)->∃c u,scope.names.lookup x=some .free/\cl.lookup x=some c/\h.IsCell c (some u)/\RelV v u
 len:τ.length=N.length
def mi.un(C:mi h H scope cl N τ)(u:Un fs [] H H' h h'):mi h' H' scope cl N τ where
 inj:=C.inj
 has:=C.has
 cell:=λx c e=>by
  obtain⟨v,o,ho,hd⟩:=C.cell x c e;obtain⟨sl,q⟩:=u.any ho (C.free x c e) (by simp)
  exact⟨v,_,q,hd⟩
 free:=λx c e=>by
  obtain⟨v,o,ho,hd⟩:=C.cell x c e;exact u.free c o ho (C.free x c e) (by simp)
 val:=λi x v e1 e2=>by
  obtain⟨c,w,k,e,⟨o,ho,hd⟩,r⟩:=C.val i x v e1 e2;obtain⟨sl,q⟩:=u.any ho (C.free x c e) (by simp)
  exact⟨c,w,k,e,⟨_,q,hd⟩,r⟩
 len:=C.len
def Pk{K:W.Frag}
  (hk:scope.kind=.function) (hx:scope.names.lookup x=some .local) (nc:∀y∈scope.names,y.2≠.cell) (hd:A.handled=none) (e0:Env0 P w K mg base A ay s H) (r:RelV v u) (C:mi s.heap H scope cl N τ)
  (Lm:h1.Ns s.heap.objs.size λy=>[(x,u)].reverse.lookup y) (hkp:∀b o,s.heap.get? b=some o->h1.get? b=some o) :
  Inv (SE CX P w K mg base (x::N) qual scope f cd cl A ay s H E) [] (some v::τ) H {s with heap:=h1,toks:=tk}:=by
 have noA:∀b:Addr,b∉(SE CX P w K mg base (x::N) qual scope f cd cl A ay s H E).ex:=λb z=>absurd (show b∈([]:List Addr)from z) (by simp)
 refine⟨⟨e0.mod,hk,rfl,rfl,aq _,C.inj,λy hy=>?_,λy c h _=>(by cases h),λ_=>hd,Around.frames_deeper e0.frames,.inr ⟨rfl,rfl⟩,λb z=>absurd z (noA b),e0.bs,e0.bsz,λb _ _=>noA b,λb z=>absurd z (noA b),e0.funs,e0.frf,e0.tabs⟩,
  rfl,e0.bare,Un.kept hkp,⟨_,Lm,λi y z h1 h2 h3=>?_⟩,λy c h=>?_,e0.hok.fresh (aq _),λy c h=>C.free y c h,λp hp=>absurd (show p∈([]:List (Addr×Obj))from hp) (by simp),e0.hok.kept hkp,?_⟩
 ·have hy:scope.names.lookup y=some .cell\/scope.names.lookup y=some .free:=hy;rcases hy with hy | hy
  ·exact absurd rfl (nc _ (eK hy))
  ·exact C.has y hy
 ·cases i with
  | zero =>
   have e1:x=y:=cC (h1);have e2:v=z:=by grind
   subst e1 e2;exact⟨u,r,.inl ⟨hx,by simp⟩⟩
  | succ i =>
   obtain⟨c,w',k,e,z',r'⟩:=C.val i y z (by simpa using (show(x::N)[i+1]?=some y from h1)) (by grind)
   exact⟨w',r',.inr ⟨.inr k,c,e,z'.keeps hkp⟩⟩
 ·obtain⟨v,z⟩:=C.cell y c h;exact⟨v,z.keeps hkp⟩
 ·show(some v::τ).length=(x::N).length;rw[aM,aM,C.len]
def Pl{K:W.Frag}
  (ho:s.heap.get? f=some o) (hf:o.data=.func (W.kla_fn name qual pq9 body scope cl pm cW J2)) (FX:s.heap.CodeRec cW qual) (hr:dJ (k+1) A) (e0:Env0 P w K mg base A ay s H)
  (hb:bindArgs (W.kla_fn name qual pq9 body scope cl pm cW J2) ⟨[u],[]⟩=pure [(x,u)]) (r:RelV v u) (hk:scope.kind=.function) (Vp:scope.isCoroutine=false) (Vq:scope.isGenerator=false) (hx:scope.names.lookup x=some .local) (nc:∀y∈scope.names,y.2≠.cell)
  (C:mi s.heap H scope cl N τ) (hbody:∃t,PE (SE CX P w K mg base (x::N) qual scope f cW cl A ay s H E) body t/\t (some v::τ) H Q) :
  codeAny (model P w) A (.call (.ref f) ⟨[u],[]⟩) (CR CX ay P w H s Q E) s:=by
 have lim:=e0.mod.nolimit.keeps λb o e=>(e0.bs b o e).1
 refine W.kla_callFunE hr.depth ho hf Vp Vq rfl FX ?_;rw[hb];refine aj (wpAny_newFunctionEnv nc (λy hy=>?_) (λIm Lm hsb=>⟨lim.fresh _ hsb,?_⟩) hk)
 ·grind
 ·obtain⟨t,ht,hq⟩:=hbody;have Zq:∀b o,s.heap.get? b=some o->Im.get? b=some o:=λb o e=>hsb.extBut b o (bG (aW e)) (bj _ e)
  have I:=Pk (CX:=CX) (qual:=qual) (f:=f) (cd:=cW) (E:=E) (tk:=s.toks+1) hk hx nc hr.hd e0 r C Lm Zq;refine W.kla_codeExpr (kl (ht [] _ _ H Q I hq) (λu' s' hs=>?_) λe s' hs=>hs)
  obtain⟨v',H',J,rv,q⟩:=hs;exact⟨v',H',J.os,J.bare,J.base,J.hok,rv,q⟩
def vm{pos p:Pos}(l:List Value)(h:TriplesOk l)(e:codeAmong p (l++[rawInt pos.line,rawInt pos.col,c])=some cv):codeAmong p l=some cv\/cv=c:=by
 fun_induction TriplesOk l with
 | case1 =>
  simp only[fN,codeAmong,rawInt]at e;split at e
  ·cases e;exact .inr rfl
  ·cases e
 | case2 a t b u x rest ih =>
  simp only[List.cons_append,codeAmong]at e ⊢;split at e
  ·rename_i hc;rw[if_pos hc];exact .inl e
  ·rename_i hc;rw[if_neg hc];exact ih h e
 | case3 l h1 h2=>exact h.elim
def yl:HO:=.ext λ_=>True
def Ep(e:h.get? a=some o):gj P w H h a (.pT o yl):=⟨e,trivial,⟨o,e⟩,λ_ _ _ _=>trivial⟩
def AY(mg:Str->Option Value)(base:Heap):Prop:=∃bm o,mg "__builtins__"=some (.ref bm)/\bm≠builtinsNs/\bm≠mainGlobals/\base.get? bm=some o/\o.cls=.type "module"/\o.dict=some builtinsNs/\o.data=.plain
def Lx(H:Hp)(f:Addr)(qual:Str)(params:Arguments)(body:Expr)(scope:Scope)(cl:List (Str×Addr)):Prop :=
 ∃o u pm cW J2 c oc uc vs t,H f=some (.pT o u)/\o.data=.func (W.kla_fn "<lambda>" qual params body scope cl pm cW J2)/\cW=.ref c/\H c=some (.pT oc uc)/\oc.data=.fields vs/\vs[1]?=some (.str qual t)
def ad1(qual:Str)(params:Arguments)(body:Expr)(scope:Scope)(cl:List (Str×Addr)):TE:=λ_ H Q=>∀f H',H f=none->cP H H'->(∀b o,H' b=some o->H b=some o\/H b=none)->Lx H' f qual params body scope cl->Q (.ref f) H'
section
variable {X:Cx} {x:Str} {params:Arguments} {body:Expr} {scope:Scope} {lp:Pos} {cl:List (Str×Addr)} {c T:Addr}
def Vr(hx:x∈dn)(ht:W.tabIn X.K x=some (c,T))(hC:W.codeHdIn X.K c T=true)(SF:X.env.code=.ref c)(Zr:X.env.qual++"<lambda>"=Ax x)(hB:AY X.mg X.base)
  (ad2:defaultsOf pq9 X.env=([],[])) (hcl:closureFor scope X.env=pure cl):PE X (.Lambda pq9 body scope lp) (ad1 (Ax x) pq9 body scope cl):=by
 intro ae s σ H Q I h;have hT:=I.tabs x hx c T ht;obtain⟨ps,hP,tri,SG⟩:=(I.hok T _ hT);have C:=W.codeHd_of_K I.sX hC;have hg:=I.mod.glob.keeps I.bk;obtain⟨bm,ob,b1,b2,b3,b4,b5⟩:=hB;have ne:∀{b:Addr} {o:Obj},X.base.get? b=some o->b≠T:=λ{b o} e z=>by
  have:=(I.bs b o e).2;rw[z,hT]at this;cases this
 refine W.kla_eval ad2 ?_;rw[Zr];cases hc:codeAmong lp ps.toList with
 | some cv =>
  obtain⟨cc,oc,uc,vs,t,rfl,k1,k2,k3⟩:=SG lp cv hc;refine W.kla_makeFunctionHit hcl I.ok.glob hg SF C hP tri hc ⟨bm,ob,b1,b2,b3,ne b4,(I.bs _ _ b4).1,b5⟩ λJ2 h' tk hk hsz=>?_
  have hn:=I.hok.fresh hsz;refine⟨.ref h'.objs.size,c5 H h'.objs.size (.pT _ yl),I.laid (λb u e=>bj _ (hk b u e)) hsz (Ep (cJ _ rfl)),rfl,h _ _ hn (λb u e=>by rw[aR (cK e hn)];exact e) (λb o e=>?_) ?_⟩
  ·by_cases hb:b=h'.objs.size
   ·grind
   ·rw[aR hb]at e;exact .inl e
  ·exact⟨_,_,_,_,_,cc,oc,uc,vs,t,aH,rfl,rfl,by rw[aR (cK k1 hn)];exact k1,k2,k3⟩
 | none =>
  refine W.kla_makeFunction hcl I.ok.glob hg SF C hP tri hc (by
   obtain⟨o,es,ep,e,_⟩:=I.mod.glob;exact ne e) ⟨bm,ob,b1,b2,b3,ne b4,(I.bs _ _ b4).1,b5⟩ λc' J2 h' tk Er Vs fL ad3 htb=>?_
  obtain⟨ah0,oc,vs,t,e2,hoc,hd,hv⟩:=ad3;cases e2;have hnc:=I.hok.fresh Vs;have Vt:=I.hok.fresh (br Vs (dz fL));have nfc:=sN fL;have cT:c'≠T:=λz=>by rw[z,hT]at hnc;cases hnc
  have fT:h'.objs.size≠T:=λz=>by rw[z,hT]at Vt;cases Vt
  let o1:HO:=.pT oc yl
  let H1:Hp:=c5 H c' o1
  have hn1:H1 h'.objs.size=none:=by show c5 H c' o1 _=_;rw[aR nfc];exact Vt
  let fo:Obj:=W.kla_obj "<lambda>" (Ax x) pq9 body scope cl ((X.mg "__name__").getD .none) c' J2
  let H2:Hp:=c5 H1 h'.objs.size (.pT fo yl)
  have SH:cP H H1:=λb u e=>by show c5 H c' o1 b=_;rw[aR (cK e hnc)];exact e
  have s12:cP H1 H2:=λb u e=>by show c5 H1 _ _ b=_;rw[aR (cK e hn1)];exact e
  have keep:∀b o,b≠T->s.heap.get? b=some o->(h'.push fo).get? b=some o:=λb o hb e=>bj _ (Er b o hb e)
  have nT:∀b,H b=none->b≠T:=λb n z=>by rw[z,hT]at n;cases n
  have lt:∀b o,s.heap.get? b=some o->b<s.heap.objs.size:=λb o e=>aW e
  have hf2:∀b o,s.heap.get? b=some o->H b=none->H2 b=none:=λb o e n=>by
   show c5 (c5 H c' o1) _ _ b=none;have l1:=lt b o e;rw[aR (bG (bW l1 (br Vs (dz fL)))),aR (bG (bW l1 Vs))];exact n
  have un:Un X.fs [] H H2 s.heap (h'.push fo):=⟨λb o e n _ _=>keep b o (nT b n) e,λb o e n _ _=>⟨o.slots,keep b o (nT b n) e⟩,λb o e n _=>hf2 b o e n,λb o e _=>by
    by_cases hb:b=T
    ·subst hb;exact⟨_,bj _ htb⟩
    ·exact⟨o,keep b o hb e⟩,λb xs e=>s12 _ _ (SH _ _ e),λb o u e=>s12 _ _ (SH _ _ e),λb q e=>s12 _ _ (SH _ _ e)⟩
  have hok:l9 X.prog X.w H2 (h'.push fo):=λb u e=>by
   by_cases Zs:b=h'.objs.size
   ·subst Zs;have e:c5 H1 h'.objs.size (.pT fo yl) h'.objs.size=some u:=e;rw[aH]at e;cases e;exact Ep (cJ _ rfl)
   ·have e:c5 H1 h'.objs.size (.pT fo yl) b=some u:=e;rw[aR Zs]at e;by_cases Zt:b=c'
    ·subst Zt;have e:c5 H b o1 b=some u:=e;rw[aH]at e;cases e;exact Ep (bj _ hoc)
    ·have e:c5 H c' o1 b=some u:=e;rw[aR Zt]at e;by_cases hbT:b=T
     ·subst hbT;rw[hT]at e;cases e;refine⟨_,bj _ htb,?_,λpos cv z=>?_⟩
      ·simpa using TriplesOk_snoc lp.line lp.col (.ref c') ps.toList tri
      ·rcases vm ps.toList tri (by simpa using z)with z | z
       ·obtain⟨cc,oc',uc,ym,t',q1,q2,q3⟩:=SG pos cv z;exact⟨cc,oc',uc,ym,t',q1,s12 _ _ (SH _ _ q2),q3⟩
       ·exact⟨c',oc,yl,vs,t,z,s12 _ _ (by show c5 H c' o1 c'=_;exact aH),hd,hv⟩
     ·refine(I.hok b u e).xV (λd v As q=>keep d v ?_ q) (λd q=>s12 _ _ (SH _ _ q)) (λd xs q=>s12 _ _ (SH _ _ q)) λd ob' v q=>s12 _ _ (SH _ _ q)
      rcases As with rfl | As
      ·exact hbT
      ·rintro rfl
       rw[hT]at As;cases As
  refine⟨.ref h'.objs.size,H2,I.un un hok,rfl,h _ _ Vt (SH.trans s12) (λb o e=>?_) ?_⟩
  ·by_cases Zs:b=h'.objs.size
   ·rw[Zs];exact .inr Vt
   ·have e:c5 H1 h'.objs.size (.pT fo yl) b=some o:=e;rw[aR Zs]at e;by_cases Zt:b=c'
    ·rw[Zt];exact .inr hnc
    ·have e:c5 H c' o1 b=some o:=e;rw[aR Zt]at e;exact .inl e
  ·exact⟨_,_,_,_,_,c',oc,yl,vs,t,(aH),rfl,rfl,s12 _ _ (aH),hd,hv⟩
end
def Zu{K:W.Frag}{st:Stmt}(Fn:DV K x qual st f fd)(S:dB N ps (au st))
  (hr:dJ (k+1) A) (e0:Env0 P w K mg base A ay s H) (hb:BindsTo s fd args (ps.zip us)) (r:Vals vs us) (hl:vs.length=ps.length)
  (hbody:∀cW:Value,∃t,PSs (fK CX P w K mg base N qual (au st) f cW A ay s H E) (dk st) t/\t {nx:=λ_ H'=>Q .b9 H',rt:=Q} (start N vs) H) :
  codeAny (model P w) A (.call (.ref f) args) (CR CX ay P w H s Q E) s:=by
 obtain⟨oc,od,kV,doc,pm,an,cW,ct,Ad,rfl,lk,FX⟩:=Fn.ex;have old:∀b o,base.get? b=some o->s.heap.get? b=some o:=λb o e=>(e0.bs b o e).1
 have KX:=e0.mod.kin.keeps old;have Zv:∀y∈ps.zip us,(au st).names.lookup y.1=some .local\/((au st).names.lookup y.1=some .cell/\((cellsFrom (s.heap.objs.size+1) (au st).names []).lookup y.1).isSome=true):=λy hy=>by
  rcases S.par y.1 (xF hy).1 with q | q
  ·exact .inl q
  ·exact .inr ⟨q,W.cellsFrom_some _ _ _ (.inl q)⟩
 refine codeAny_call_function hr.depth (KX _ _ lk) rfl S.co S.gen rfl (W.codeRec_of KX FX) (hb _ _ _ _ (Kg S.kind Zv λenv he s1 ic=>?_))
 subst he;refine⟨(e0.mod.nolimit.keeps old).keeps ic.toInCall.keep,codeAny_func ?_⟩;obtain⟨t,ht,hq⟩:=hbody cW;have I:Inv (fK CX P w K mg base N qual (au st) f cW A ay s H E) [] (start N vs) H s1:=vV S hr.hd e0 hl r ic;refine kl (ht [] s1 (start N vs) H _ I hq) (λfl s' hs=>?_) λe s' hs=>hs
 have fin:∀{bM:St} {H':Hp} {v:V} {u:Value},Inv (fK CX P w K mg base N qual (au st) f cW A ay s H E) [] bM H' s'->RelV v u->Q v H'->CE ay P w H s Q u s':=λ{_ H' v _} J rv q=>⟨v,H',J.os,J.bare,J.base,J.hok,rv,q⟩
 cases fl with
 | ret u=>obtain⟨v,bM,H',J,rv,q⟩:=hs;exact fin J rv q
 | next=>obtain⟨bM,H',J,q⟩:=hs;exact fin (v:=V.b9) J rfl q
 | brk=>obtain⟨_,_,_,q⟩:=hs;exact False.elim q
 | cont=>obtain⟨_,_,_,q⟩:=hs;exact False.elim q
end L2
namespace L2.U
open PySem PySem.Spec PyProof.Rows
def nw{α:Sort u}(a:α):∃x,x=a:=⟨_,rfl⟩
noncomputable abbrev PV.lst (ps:List PV):PV:=.nd .lst ps
structure Gr (F F':Fz):Prop where
 s:cP F.F F'.F
 m:∀(n:Nat) (a:Addr),F.μ[n]?=some a->F'.μ[n]?=some a
def Gr.refl(F:Fz):Gr F F:=⟨cP.refl _,λ_ _ h=>h⟩
def Gr.trans(a:Gr F F1)(b:Gr F1 F2):Gr F F2:=⟨a.s.trans b.s,λn c h=>b.m n c (a.m n c h)⟩
def bL{K:W.Frag}(e:cP H H')(h:jm K H a xs):jm K H' a xs:=by
 rcases h with(h | ⟨o,h⟩) | h
 ·exact .inl (.inl (e _ _ h))
 ·exact .inl (.inr ⟨o,e _ _ h⟩)
 ·exact .inr h
def Pm(e:cP H H')(h:Rd H a u):Rd H' a u:=h.imp (e _ _) (by rintro⟨o,q⟩;exact⟨o,e _ _ q⟩)
def AZ{K:W.Frag}(e:cP H H')(h:kP K H a xs):kP K H' a xs:=h.imp (Pm e) id
def _root_.L2.kP.of{K:W.Frag}(h:H a=some (.lst xs)):kP K H a xs:=.inl (.inl h)
section
variable {K:W.Frag} {F F':Fz}
def qz.to(h:qz K G H a x k vs)(g:cP G G')(e:∀o,H a=some o->H' a=some o)(hy:y=true->x=true):qz K G' H' a y k vs:=by
 have keys:∀{xs:List (List bK×Addr×Value)},gK K G xs->gK K G' xs:=λhk z hz=>bL g (hk z hz)
 match k,h with
 | .ao,⟨h1,h2⟩ =>
  refine⟨?_,?_⟩
  ·grind
  ·rcases h2 with(h2 | ⟨o,h2⟩) | h2
   ·exact .inl (.inl (e _ h2))
   ·exact .inl (.inr ⟨o,e _ h2⟩)
   ·exact .inr h2
 | .lst,h =>
  cases y with
  | true=>rw[hy rfl]at h;exact e _ h
  | false =>
   cases x with
   | true=>exact kP.of (e _ h)
   | false =>
    rcases(h)with(h | ⟨o,h⟩) | h
    ·exact .inl (.inl (e _ h))
    ·exact .inl (.inr ⟨o,e _ h⟩)
    ·exact .inr h
 | .kO C ns,⟨Ca,dx,fs,h1,h2,h3,h4,h5⟩=>exact⟨Ca,dx,fs,h1,h2,h3,e _ h4,h5⟩
 | .gU false ks,⟨kvs,h1,h2⟩=>exact⟨kvs,e _ h1,h2⟩
 | .gU true ks,⟨xs,h1,h2,h3⟩=>exact⟨xs,e _ h1,keys h2,h3⟩
mutual
theorem bQ.mono(e:Gr F F'):∀{p:PV} {v:V},bQ K F p v->bQ K F' p v
 | .b9,_,h=>by simpa only[bQ]using h
 | .bl _,_,h=>by simpa only[bQ]using h
 | .int _,_,h=>by simpa only[bQ]using h
 | .str _,_,h=>by simpa only[bQ]using h
 | .fn _,_,h=>by simpa only[bQ]using h
 | .ref n,_,h=>by
  simp only[bQ]at h ⊢;obtain⟨a,h1,h2⟩:=h;exact⟨a,e.m _ _ h1,h2⟩
 | .nd k ps,_,h=>by
  simp only[bQ]at h ⊢;obtain⟨a,vs,h1,h2,h3⟩:=h;exact⟨a,vs,h1,h2.to e.s (λo q=>e.s _ _ q) id,aF.mono e h3⟩
theorem aF.mono(e:Gr F F'):∀{ps:List PV} {vs:List V},aF K F ps vs->aF K F' ps vs
 | [],_,h=>by simpa only[aF]using h
 | _::_,_,h=>by
  simp only[aF]at h ⊢;obtain⟨v,r,h1,h2,h3⟩:=h;exact⟨v,r,h1,h2.mono e,aF.mono e h3⟩
end
def aF.cq(h:aF K F (p::ps) vs):∃v r,vs=v::r/\bQ K F p v/\aF K F ps r:=by
 simpa only[aF]using h
def aF.cU(h:aF K F [] vs):vs=[]:=by simpa only[aF]using h
theorem tK:∀{ps:List PV} {vs:List V},aF K F ps vs↔Paired (bQ K F) ps vs
 | [],vs=>⟨λh=>by rw[h.cU];exact .nil,λh=>by cases h;exact .nil⟩
 | p::ps,vs=>⟨λh=>by obtain⟨v,r,rfl,h1,h2⟩:=h.cq;exact .cons h1 (tK.mp h2),λh=>by cases h with | cons h1 h2=>exact .cons h1 (tK.mpr h2)⟩
def aF.length(h:aF K F ps vs):ps.length=vs.length:=oI (tK.mp h)
theorem aF.append:∀{ps qs:List PV} {vs ws:List V},aF K F ps vs->aF K F qs ws->aF K F (ps++qs) (vs++ws)
 | [],_,_,_,h,t=>by rw[h.cU];exact t
 | _::_,_,_,_,h,t=>by
  obtain⟨v,r,rfl,h1,h2⟩:=h.cq;exact .cons h1 (h2.append t)
theorem aF.get:∀{ps:List PV} {vs:List V} {i:Nat} {p:PV},aF K F ps vs->ps[i]?=some p->∃v,vs[i]?=some v/\bQ K F p v
 | [],_,_,_,_,e=>by cases e
 | _::_,_,0,_,h,e=>by
  obtain⟨v,r,rfl,h1,_⟩:=h.cq;cases e;exact⟨v,rfl,h1⟩
 | _::_,_,_+1,_,h,e=>by
  obtain⟨v,r,rfl,_,h2⟩:=h.cq;exact h2.get e
theorem aF.take:∀{ps:List PV} {vs:List V} (n:Nat),aF K F ps vs->aF K F (ps.take n) (vs.take n)
 | _,_,0,_=>by simp only[List.take_zero];exact .nil
 | [],_,_+1,h=>by rw[h.cU];simp only[List.take_nil];exact .nil
 | _::_,_,n+1,h=>by
  obtain⟨v,r,rfl,h1,h2⟩:=h.cq;exact .cons h1 (h2.take n)
theorem aF.drop:∀{ps:List PV} {vs:List V} (n:Nat),aF K F ps vs->aF K F (ps.drop n) (vs.drop n)
 | _,_,0,h=>h
 | [],_,_+1,h=>by rw[h.cU];simp only[List.drop_nil];exact .nil
 | _::_,_,n+1,h=>by
  obtain⟨v,r,rfl,_,h2⟩:=h.cq;exact h2.drop n
theorem aF.set(r:bQ K F p v):∀{ps:List PV} {vs:List V} (i:Nat),aF K F ps vs->aF K F (ps.set i p) (vs.set i v)
 | [],_,_,h=>by rw[h.cU];exact .nil
 | _::_,_,0,h=>by
  obtain⟨v,r',rfl,_,h2⟩:=h.cq;exact .cons r h2
 | _::_,_,i+1,h=>by
  obtain⟨v,r',rfl,h1,h2⟩:=h.cq;exact .cons h1 (h2.set r i)
theorem aF.reverse:∀{ps:List PV} {vs:List V},aF K F ps vs->aF K F ps.reverse vs.reverse
 | [],_,h=>by rw[h.cU];exact .nil
 | _::_,_,h=>by
  obtain⟨v,r,rfl,h1,h2⟩:=h.cq;rw[xw,xw];exact h2.reverse.append (.cons h1 .nil)
def d8:bQ K F (.ref n) v↔∃a,F.μ[n]?=some a/\v=.ref a:=by simp only[bQ]
def tM:bQ K F (.fn x) v↔∃a,v=.ref a/\W.nsIn K mainGlobals x=some (some (.ref a)):=by simp only[bQ]
def gB:bQ K F (.lst ps) v↔∃a vs,v=.ref a/\kP K F.F a vs/\aF K F ps vs:=jJ
end
structure aB where
 k:Kd
 ps:List PV
structure dq where
 ρ:List (Option PV)
 h:List aB
noncomputable def live(c:aB):Bool:=match c.k with | .ao=>false | _=>true
structure kT (K:W.Frag) (aa:Hp) (ab F:Fz) (h:List aB) (H:Hp):Prop where
 sub:cP F.F H
 keep:cP aa H
 base:Gr ab F
 fresh:∀a o,F.F a=some o->ab.F a=some o\/aa a=none
 new:∀(n:Nat) (a:Addr),F.μ[n]?=some a->aa a=none/\∃o,H a=some o
 hl:h.length=F.μ.length
 nd:F.μ.Nodup
 cell:∀(n:Nat) (c:aB) (a:Addr),h[n]?=some c->F.μ[n]?=some a->live c=true->F.F a=none/\∃vs,qz K F.F H a true c.k vs/\aF K F c.ps vs
structure Lc (K:W.Frag) (F:Fz) (ρ:List (Option PV)) (σ:St):Prop where
 av:∀(i:Nat) (p:PV),ρ[i]?=some (some p)->∃v,σ[i]?=some (some v)/\bQ K F p v
 len:ρ.length=σ.length
structure Rep (K:W.Frag) (aa:Hp) (ab F:Fz) (st:dq) (σ:St) (H:Hp):Prop where
 c:kT K aa ab F st.h H
 l:Lc K F st.ρ σ
def fU(h:H p=none):cP H (c5 H p o):=λb u q=>by rw[aR (cK q h)];exact q
section
variable {K:W.Frag} {aa H H':Hp} {ab F F':Fz} {h:List aB} {st:dq} {σ:St}
def Lc.mono(L:Lc K F ρ σ)(e:Gr F F'):Lc K F' ρ σ:=⟨λi p z=>let ⟨v,h1,h2⟩:=L.av i p z;⟨v,h1,h2.mono e⟩,L.len⟩
def kT.after(R:kT K aa ab F h H)(e:cP H H')(f:cP F.F F'.F)(m:F'.μ=F.μ)(s:cP F'.F H')(n:∀a o,F'.F a=some o->F.F a=some o\/H a=none):kT K aa ab F' h H' where
 sub:=s
 keep:=R.keep.trans e
 base:=R.base.trans ⟨f,λ_ _ q=>by rw[m];exact q⟩
 fresh:=λa o q=>by
  rcases n a o q with z | z
  ·exact R.fresh a o z
  ·exact .inr (R.keep.free z)
 new:=λn a q=>by rw[m]at q;obtain⟨h1,o,h2⟩:=R.new n a q;exact⟨h1,o,e _ _ h2⟩
 hl:=by rw[m];exact R.hl
 nd:=by rw[m];exact R.nd
 cell:=λi c a hc ha hk=>by
  rw[m]at ha;obtain⟨h1,vs,h2,h3⟩:=R.cell i c a hc ha hk;refine⟨?_,vs,h2.to f (λo q=>e _ _ q) id,h3.mono ⟨f,λ_ _ q=>by rw[m];exact q⟩⟩
  obtain⟨_,o,ho⟩:=R.new i a ha;cases q:F'.F a with
  | none=>rfl
  | some u =>
   rcases n a u q with z | z
   ·rw[h1]at z;cases z
   ·rw[ho]at z;cases z
def Rep.after(R:Rep K aa ab F st σ H)(e:cP H H')(f:cP F.F F'.F)(m:F'.μ=F.μ)(s:cP F'.F H')(n:∀a o,F'.F a=some o->F.F a=some o\/H a=none):Rep K aa ab F' st σ H' :=
 ⟨R.c.after e f m s n,R.l.mono ⟨f,λ_ _ q=>by grind⟩⟩
def Rep.sub(R:Rep K aa ab F st σ H):cP F.F H:=R.c.sub
def Rep.laid(R:Rep K aa ab F st σ H)(o:HO)(hp:H p=none):Rep K aa ab ⟨c5 F.F p o,F.μ⟩ st σ (c5 H p o)/\Gr F ⟨c5 F.F p o,F.μ⟩:=by
 have fp:=R.sub.free hp;refine⟨R.after (fU hp) (fU fp) rfl (λb u q=>?_) (λb u q=>?_),fU fp,λ_ _ q=>q⟩
 ·by_cases hb:b=p
  ·subst hb;rw[show(Fz.mk (c5 F.F b o) F.μ).F b=c5 F.F b o b from rfl,aH]at q;rw[aH];exact q
  ·rw[show(Fz.mk (c5 F.F p o) F.μ).F b=c5 F.F p o b from rfl,aR hb]at q;rw[aR hb];exact R.sub _ _ q
 ·by_cases hb:b=p
  ·grind
  ·rw[show(Fz.mk (c5 F.F p o) F.μ).F b=c5 F.F p o b from rfl,aR hb]at q;exact .inl q
def kT.alloc(R:kT K aa ab F h H)(hp:H p=none)(hn:qz K F.F (c5 H p o) p true c.k vs)(hb:aF K F c.ps vs) :
  kT K aa ab ⟨F.F,F.μ++[p]⟩ (h++[c]) (c5 H p o)/\Gr F ⟨F.F,F.μ++[p]⟩/\(F.μ++[p])[h.length]?=some p:=by
 have g:Gr F ⟨F.F,F.μ++[p]⟩:=⟨cP.refl _,λn a q=>by
  grind⟩
 have Zw:∀n a,(F.μ++[p])[n]?=some a->F.μ[n]?=some a\/n=F.μ.length/\a=p:=λn a q=>by
  grind
 have no:∀n a,F.μ[n]?=some a->a≠p:=λn a q z=>by
  subst z;obtain⟨_,o,ho⟩:=R.new n a q;rw[hp]at ho;cases ho
 refine⟨⟨λb u q=>by rw[aR (cK (R.sub _ _ q) hp)];exact R.sub _ _ q,R.keep.trans (fU hp),R.base.trans g,R.fresh,λn a q=>?_,by simp[R.hl],?_,λn d a hd ha hk=>?_⟩,g,by rw[R.hl];simp⟩
 ·rcases Zw n a q with z | ⟨_,rfl⟩
  ·obtain⟨h1,u,h2⟩:=R.new n a z;exact⟨h1,u,fU hp _ _ h2⟩
  ·exact⟨R.keep.free hp,o,aH⟩
 ·rw[xx];refine⟨R.nd,by simp,λa ha b hb z=>?_⟩
  obtain⟨n,hn⟩:=oq.mp ha;rw[bt]at hb;exact no n a hn (z.trans hb)
 ·rcases Zw n a ha with z | ⟨rfl,rfl⟩
  ·rw[jD (by rw[R.hl];exact(cz.mp z).1)]at hd
   obtain⟨h1,ws,h2,h3⟩:=R.cell n d a hd z hk;exact⟨h1,ws,h2.to (cP.refl _) (λu q=>fU hp _ _ q) id,h3.mono g⟩
  ·rw[<-R.hl,rX (aq _),Nat.sub_self]at hd;cases hd;exact⟨R.sub.free hp,vs,hn,hb.mono g⟩
def kT.write(R:kT K aa ab F h H)(hc:h[n]?=some c)(hl:live c=true)(ha:F.μ[n]?=some a)(hn:qz K F.F (c5 H a o) a true d.k vs)(hb:aF K F d.ps vs) :
  kT K aa ab F (h.set n d) (c5 H a o):=by
 obtain⟨hF,_⟩:=R.cell n c a hc ha hl;refine⟨λb u q=>by rw[aR (λz=>by grind)];exact R.sub _ _ q,λb u q=>?_,R.base,R.fresh,λm b q=>?_,by rw[xE];exact R.hl,R.nd,λm e b he k9 hk=>?_⟩
 ·rw[aR (λz=>by subst z;rw[(R.new n b ha).1]at q;cases q)];exact R.keep _ _ q
 ·obtain⟨h1,u,h2⟩:=R.new m b q;refine⟨h1,?_⟩;by_cases hb:b=a
  ·subst hb;exact⟨o,aH⟩
  ·exact⟨u,by rw[aR hb];exact h2⟩
 ·by_cases hm:n=m
  ·grind
  ·rw[oy hm]at he;obtain⟨h1,ws,h2,h3⟩:=R.cell m e b he k9 hk;have ne:b≠a:=λz=>by
    subst z;obtain⟨l1,e1⟩:=cz.mp k9;obtain⟨l2,e2⟩:=cz.mp ha;exact hm ((List.getElem_inj R.nd).mp (e2.trans e1.symm))
   exact⟨h1,ws,h2.to (cP.refl _) (λu q=>by rw[aR ne];exact q) id,h3⟩
end
def _root_.L2.PE.imp(h:PE X e t)(hi:∀σ H Q,t' σ H Q->t σ H Q):PE X e t':=λae s σ H Q I hw=>h ae s σ H Q I (hi _ _ _ hw)
def _root_.L2.PT.imp(h:PT X e t)(hi:∀σ H Q,t' σ H Q->t σ H Q):PT X e t':=λae s σ H Q I hw=>h ae s σ H Q I (hi _ _ _ hw)
def _root_.L2.PW.imp(h:PW X e t)(hi:∀σ H Q,t' σ H Q->t σ H Q):PW X e t':=λw ae s σ H Q I hw=>h w ae s σ H Q I (hi _ _ _ hw)
def _root_.L2.PA.imp(h:PA X e t)(hi:∀σ H Q,t' σ H Q->t σ H Q):PA X e t':=λpos ae s σ H Q I hw=>h pos ae s σ H Q I (hi _ _ _ hw)
def _root_.L2.PS.imp{st:Stmt}(h:PS X st t)(hi:∀D σ H,t' D σ H->t D σ H):PS X st t':=λae s σ H D I hw=>h ae s σ H D I (hi _ _ _ hw)
def _root_.L2.PSs.imp{st:List Stmt}(h:PSs X st t)(hi:∀D σ H,t' D σ H->t D σ H):PSs X st t':=λae s σ H D I hw=>h ae s σ H D I (hi _ _ _ hw)
def _root_.L2.PG.imp(h:PG X e t)(hi:∀v σ H Q,t' v σ H Q->t v σ H Q):PG X e t':=λae s σ H v u Q I r hw=>h ae s σ H v u Q I r (hi _ _ _ _ hw)
def _root_.L2.PGs.imp(h:PGs X e t)(hi:∀v σ H Q,t' v σ H Q->t v σ H Q):PGs X e t':=λae s σ H v u Q I r hw=>h ae s σ H v u Q I r (hi _ _ _ _ hw)
def _root_.L2.PI.imp(h:PI X tg e t)(hi:∀σ H Q,t' σ H Q->t σ H Q):PI X tg e t':=λae s σ H R I hw=>h ae s σ H R I (hi _ _ _ hw)
inductive Rs (α:Type) where
 | ok (a:α) | ex (m:Bool) (C:Str)
abbrev Gx(α:Type):=dq->Option (Rs α×dq)
noncomputable def Zx{α β:Type}(k:α->Gx β):Rs α×dq->Option (Rs β×dq)
 | (.ok a,st)=>k a st
 | (.ex m C,st)=>some (.ex m C,st)
def bnd{α β:Type}(f:Gx α)(k:α->Gx β):Gx β:=λst=>(f st).bind (Zx k)
noncomputable def aN{α:Type}(a:α):Gx α:=λst=>some (.ok a,st)
noncomputable def hp{α:Type}(g:List aB->Option α):Gx α:=λst=>(g st.h).map λa=>(.ok a,st)
noncomputable def lb{α:Type}(o:Option α):Gx α:=λst=>o.map λa=>(.ok a,st)
def Dm(H H':Hp):Prop:=∀b o,H b=some o->∃o',H' b=some o'
def jt(P:Program)(w:World):J0:=λay H s E e s'=>∃a cls a0 B H',e=.ref a/\s'.os=s.os/\AllBare s'.gens/\Un (oS ay) [] H H' s.heap s'.heap/\l9 P w H' s'.heap/\Dm H H'/\E cls none H' /\
 Heap.FlyingW B ay a cls a0 s'.heap/\(∀b o,H' b=some o->∃ob,B.get? b=some ob)/\∀b ob,s.heap.get? b=some ob->H b=none->b∉oS ay->B.get? b=some ob
def A0:Eb (jt P w) X E0:=(by rintro _ _ _ _ _ _ _ ⟨_,_,_,_,_,_,_,_,_,_,_,h,_⟩;exact h.elim)
def Ly(X:Cx)(aa:Hp)(ab F:Fz)(C:Str)(st:dq):Bool->Prop
 | true=>∀F' bM H' ae s h1 a cls vs,Rep X.K aa ab F' st bM H'->Gr F F'->Inv X ae bM H' s->ClsAt X.K C cls->Heap.MadeExcOf s.heap h1 a cls vs->X.xe (.ref a) {s with heap:=h1}
 | false=>∀bM ae H1 s1 e s',Inv X ae bM H1 s1->jt X.prog X.w X.stack H1 s1 (λcls _ H2=>ClsAt X.K C cls/\∃F',Rep X.K aa ab F' st bM H2/\Gr F F') e s'->X.xe e s'
section
variable {X:Cx} {aa H:Hp} {ab F F1:Fz} {st bA:dq} {σ:St} {α β γ δ:Type}
def Ly.mono(h:Ly X aa ab F C st m)(s:Gr F F1):Ly X aa ab F1 C st m:=by
 cases m with
 | true=>exact λF' bM H' ae s1 h1 a cls vs R z=>h F' bM H' ae s1 h1 a cls vs R (s.trans z)
 | false =>
  rintro bM ae H1 s1 e s' I ⟨a,cls,a0,B,H',h1,h2,h3,h4,h5,h6,⟨c,F',R,z⟩,h8⟩
  exact h bM ae H1 s1 e s' I ⟨a,cls,a0,B,H',h1,h2,h3,h4,h5,h6,⟨c,F',R,s.trans z⟩,h8⟩
def Lz(X:Cx)(aa:Hp)(ab F:Fz)(P:α->dq->Prop):Rs α×dq->Prop
 | (.ok a,st)=>P a st
 | (.ex m C,st)=>Ly X aa ab F C st m
def At(X:Cx)(aa:Hp)(ab F:Fz)(st:dq)(f:Gx α)(P:α->dq->Prop):Prop:=∃r,f st=some r/\Lz X aa ab F P r
def Lz.imp(h:Lz X aa ab F P r)(g:Gr F F1)(i:∀a az,P a az->P' a az):Lz X aa ab F1 P' r:=by
 match r,h with
 | (.ok a,st),h=>exact i a st h
 | (.ex m C,st),h=>exact Ly.mono h g
def At.imp(h:At X aa ab F st f P)(g:Gr F F1)(i:∀a az,P a az->P' a az):At X aa ab F1 st f P' :=
 let ⟨r,h1,h2⟩:=h;⟨r,h1,h2.imp g i⟩
def bf(h:o.bind f=some b):∃a,o=some a/\f a=some b:=by
 cases o with
 | none=>cases h
 | some a=>exact⟨a,rfl,h⟩
def bz(h:o.map f=some b):∃a,o=some a/\f a=b:=by
 simp_all
def At.bnd(h:At X aa ab F st (bnd f k) P):At X aa ab F st f (λa bA=>At X aa ab F bA (k a) P):=by
 obtain⟨r,h1,h2⟩:=h;obtain⟨q,e1,e2⟩:=bf h1;refine⟨q,e1,?_⟩
 match q,e2 with
 | (.ok a,s1),e2=>exact⟨r,e2,h2⟩
 | (.ex m C,s1),e2=>cases e2;exact h2
def At.aN(h:At X aa ab F st (aN a) P):P a st:=by
 obtain⟨r,h1,h2⟩:=h;cases h1;exact h2
def At.hp(h:At X aa ab F st (hp g) P):∃a,g st.h=some a/\P a st:=by
 obtain⟨r,h1,h2⟩:=h;obtain⟨a,e1,e2⟩:=bz h1;subst e2;exact⟨a,e1,h2⟩
def At.lb(h:At X aa ab F st (lb g) P):∃a,g=some a/\P a st:=by
 obtain⟨r,h1,h2⟩:=h;obtain⟨a,e1,e2⟩:=bz h1;subst e2;exact⟨a,e1,h2⟩
def Tx(X:Cx)(aa:Hp)(ab:Fz)(rl:Fz->α->β->Prop)(F:Fz)(st:dq)(f:Gx α)(σ:St)(Q:β->Hp->Prop):Prop :=
 At X aa ab F st f λa az=>∀b H' F',Rep X.K aa ab F' az σ H'->Gr F F'->rl F' a b->Q b H'
def tX(X:Cx)(aa:Hp)(ab:Fz)(rl:Fz->α->β->Prop)(f:Gx α):St->Hp->(β->Hp->Prop)->Prop:=λσ H Q=>∃F st,Rep X.K aa ab F st σ H/\Tx X aa ab rl F st f σ Q
def Tx.mono(h:Tx X aa ab rl F st f σ Q)(g:Gr F F1)(i:∀b H',Q b H'->Q' b H'):Tx X aa ab rl F1 st f σ Q' :=
 At.imp h g λa az q b H' F' R s r=>i _ _ (q b H' F' R (g.trans s) r)
def Tx.bnd(h:Tx X aa ab rl' F st (bnd f k) σ Q)
  (i:∀a b F1 bA H1,Rep X.K aa ab F1 bA σ H1->Gr F F1->rl F1 a b->Tx X aa ab rl' F1 bA (k a) σ Q->Q' b H1):Tx X aa ab rl F st f σ Q' :=
 At.imp (At.bnd h) (Gr.refl F) λa bA q b H1 F1 R1 g1 r1=>i a b F1 bA H1 R1 g1 r1 (Tx.mono (q) g1 λ_ _ z=>z)
def Tx.aN(h:Tx X aa ab rl F st (aN a) σ Q):∀b H' F',Rep X.K aa ab F' st σ H'->Gr F F'->rl F' a b->Q b H':=At.aN h
def Tx.hp(h:Tx X aa ab rl F st (hp g) σ Q):∃a,g st.h=some a/\∀b H' F',Rep X.K aa ab F' st σ H'->Gr F F'->rl F' a b->Q b H':=At.hp h
def Tx.lb(h:Tx X aa ab rl F st (lb g) σ Q):∃a,g=some a/\∀b H' F',Rep X.K aa ab F' st σ H'->Gr F F'->rl F' a b->Q b H':=At.lb h
end
abbrev rB:Fz->Bool->Bool->Prop:=λ_ a b=>a=b
abbrev tE(X:Cx)(aa:Hp)(ab:Fz)(f:Gx PV):TE:=tX X aa ab (bQ X.K) f
abbrev tT(X:Cx)(aa:Hp)(ab:Fz)(f:Gx Bool):TT:=tX X aa ab rB f
abbrev tA(X:Cx)(aa:Hp)(ab:Fz)(f:Gx (List PV)):TA:=tX X aa ab (aF X.K) f
section
variable {X:Cx} {aa:Hp} {ab:Fz} {a b c e:Expr} {es rest:List Expr} {fa fb fc:Gx PV} {ga gb:Gx Bool} {ts:Gx (List PV)} {pos:Pos}
noncomputable def rd(i:Nat):Gx PV:=λst=>(st.ρ[i]?).join.map λp=>(.ok p,st)
def SJ(i:Nat)(h:PE X (.Name x pos) (Ox i)):PE X (.Name x pos) (tE X aa ab (rd i)):=h.imp <| by
 rintro σ H Q ⟨F,st,R,r,h1,h2⟩
 obtain⟨p,e1,e2⟩:=bz h1;subst e2;cases z:st.ρ[i]? with
 | none=>rw[z]at e1;cases e1
 | some o =>
  rw[z]at e1;cases o with
  | none=>cases e1
  | some p' =>
   cases e1;obtain⟨v,h3,h4⟩:=R.l.av i p z;exact⟨v,h3,h2 v H F R (Gr.refl F) h4⟩
def A1(h:PE X e (tC v))(hb:∀F,bQ X.K F p v):PE X e (tE X aa ab (aN p)):=h.imp (by rintro σ H Q ⟨F,st,R,q⟩;exact q.aN v H F R (Gr.refl F) (hb F))
def Zy{j pos}:PE X (.Constant (.int i) j pos) (tE X aa ab (aN (.int i))):=A1 Ux λ_=>aI.mpr rfl
def ad4{j pos}:PE X (.Constant (.bool i) j pos) (tE X aa ab (aN (.bl i))):=A1 YM λ_=>cf.mpr rfl
def Zz{j pos}:PE X (.Constant .none j pos) (tE X aa ab (aN .b9)):=A1 Uy λ_=>dD.mpr rfl
def ZA{j pos}:PE X (.Constant (.str i) j pos) (tE X aa ab (aN (.str i))):=A1 Uz λ_=>cZ.mpr rfl
abbrev G2:=List aB->PV->PV->Option PV
def rT(K:W.Frag)(g:G2):R2:=λx y H Q=>∃aa ab F st τ pa pb p,g st.h pa pb=some p/\Rep K aa ab F st τ H/\bQ K F pa x/\bQ K F pb y/\∀v H' F',Rep K aa ab F' st τ H'->Gr F F'->bQ K F' p v->Q v H'
abbrev yn(X:Cx)(f:Value->Value->Sem Value)(g:G2):Prop:=OpR X f (rT X.K g)
def op2(g:G2)(fa fb:Gx PV):Gx PV:=bnd fa λx=>bnd fb λy=>hp λh=>g h x y
def rh(h:tE X aa ab (op2 g fa fb) σ H Q):X2 (rT X.K g) (tE X aa ab fa) (tE X aa ab fb) σ H Q:=by
 obtain⟨F,st,R,h⟩:=h;refine⟨F,st,R,h.bnd λp v F1 bA H1 R1 g1 b1 h1=>⟨F1,bA,R1,h1.bnd λq w F2 st2 H2 R2 g2 b2 h2=>?_⟩⟩
 obtain⟨o,e,z⟩:=h2.hp;exact⟨aa,ab,F2,st2,σ,p,q,o,e,R2,b1.mono g2,b2,z⟩
def ad5(ho:yn X (binaryOp op) g)(ha:PE X a (tE X aa ab fa))(hb:PE X b (tE X aa ab fb)):PE X (.BinOp a op b pos) (tE X aa ab (op2 g fa fb)):=(YX ho ha hb).imp λ_ _ _ h=>rh h
def ZC(ho:yn X (compareOp op) g)(ha:PE X a (tE X aa ab fa))(hb:PE X b (tE X aa ab fb))(hm:behindInMarks op b=false):PE X (.Compare a [op] [b] pos) (tE X aa ab (op2 g fa fb)):=(OP ho ha hb hm).imp λ_ _ _ h=>rh h
def v9:PV->Option Bool | .bl b=>some b | _=>none
def tN{b:Bool}(h:v9 p=some b):p=.bl b:=by
 cases p<;>first | (cases h;rfl) | cases h
def toB(f:Gx PV):Gx Bool:=bnd f λp=>lb (v9 p)
def toB_imp(h:tT X aa ab (toB fa) σ H Q):tE X aa ab fa σ H λv H1=>∃k,v=.bl k/\Q k H1:=by
 obtain⟨F,st,R,h⟩:=h;refine⟨F,st,R,h.bnd λp v F1 bA H1 R1 g1 b1 h1=>?_⟩
 obtain⟨k,e,z⟩:=h1.lb;rw[tN e]at b1;exact⟨k,cf.mp b1,z k H1 F1 R1 (Gr.refl _) rfl⟩
def ZD(ho:yn X (compareOp op) g)(ha:PE X a (tE X aa ab fa))(hb:PE X b (tE X aa ab fb))(hm:behindInMarks op b=false):PT X (.Compare a [op] [b] pos) (tT X aa ab (toB (op2 g fa fb))) :=
 (OQ ho ha hb hm).imp λ_ _ _ h=>rh (toB_imp h)
def chain(g g':G2)(fa fb fc:Gx PV):Gx PV:=bnd fa λx=>bnd fb λy=>bnd (hp λh=>(g h x y).bind v9) λk=>if k=true then bnd fc λz=>hp λh=>g' h y z else aN (.bl false)
def wa(h:tE X aa ab (chain g g' fa fb fc) σ H Q):D4 (rT X.K g) (rT X.K g') (tE X aa ab fa) (tE X aa ab fb) (tE X aa ab fc) σ H Q:=by
 obtain⟨F,st,R,h⟩:=h;refine⟨F,st,R,h.bnd λp v F1 bA H1 R1 g1 b1 h1=>⟨F1,bA,R1,h1.bnd λq w F2 st2 H2 R2 g2 b2 h2=>?_⟩⟩
 obtain⟨k,e,z⟩:=At.hp (At.bnd h2);obtain⟨o,e1,e2⟩:=bf e;rw[tN e2]at e1;refine⟨aa,ab,F2,st2,σ,p,q,_,e1,R2,b1.mono g2,b2,λu H3 F3 R3 g3 b3=>⟨k,cf.mp b3,?_⟩⟩
 cases k with
 | true =>
  have z:Tx X aa ab (bQ X.K) F2 st2 (bnd fc λz=>hp λh=>g' h q z) σ Q:=z
  refine⟨F3,st2,R3,(z.mono g3 λ_ _ y=>y).bnd λt o F4 kR H4 R4 g4 b4 h4=>?_⟩
  obtain⟨o,e,z⟩:=h4.hp;exact⟨aa,ab,F4,kR,σ,q,t,o,e,R4,b2.mono (g3.trans g4),b4,z⟩
 | false=>exact Tx.aN z _ H3 F3 R3 g3 (cf.mpr rfl)
def Pn(ho:yn X (compareOp op) g)(oh:yn X (compareOp Ae) g')(ha:PE X a (tE X aa ab fa))(hb:PE X b (tE X aa ab fb))(hc:PE X c (tE X aa ab fc))
  (hm:lastMarks [op,Ae] [b,c]=false):PE X (.Compare a [op,Ae] [b,c] pos) (tE X aa ab (chain g g' fa fb fc)):=(K3 ho oh ha hb hc hm).imp λ_ _ _ h=>wa h
end
def cH(h:List aB):PV->Option (Kd×List PV)
 | .nd k ps=>some (k,ps)
 | .ref n=>(h[n]?).bind λc=>if live c=true then some (c.k,c.ps)else none
 | _=>none
def bR{α:Type}{c:Prop} [Decidable c] {x:Option α} {y:α} (h:(if c then x else none)=some y):c/\x=some y:=by
 grind
def aJ{α:Type}{c:Prop} [Decidable c] {x y:α} (h:(if c then some x else none)=some y):c/\x=y:=by
 grind
section
variable {K:W.Frag} {aa H:Hp} {ab F:Fz} {st:dq} {σ:St}
def Rep.at(R:Rep K aa ab F st σ H){p:PV}{k:Kd}{ps:List PV}{v:V}(e:cH st.h p=some (k,ps))(b:bQ K F p v):∃a vs,v=.ref a/\qz K F.F H a false k vs/\aF K F ps vs:=by
 cases p with
 | nd k' Di =>
  cases e;obtain⟨a,vs,h1,h2,h3⟩:=jJ.mp b;exact⟨a,vs,h1,h2.to (cP.refl _) (λo q=>R.sub _ _ q) id,h3⟩
 | ref n =>
  obtain⟨c,e1,e2⟩:=bf e;obtain⟨hl,e3⟩:=aJ e2;cases e3;obtain⟨a,h1,h2⟩:=d8.mp b;obtain⟨_,vs,h3,h4⟩:=R.c.cell n c a e1 h1 hl;exact⟨a,vs,h2,h3.to (cP.refl _) (λo q=>q) (λz=>by cases z),h4⟩
 | _=>cases e
def Es(h:List aB)(p:PV):Option (List PV):=match cH h p with
 | some (.ao,ps)=>some ps
 | some (.lst,ps)=>some ps
 | _=>none
def Rep.seq(R:Rep K aa ab F st σ H){p:PV}{ps:List PV}{v:V}(e:Es st.h p=some ps)(b:bQ K F p v):∃a vs,v=.ref a/\(jm K H a vs\/kP K H a vs)/\aF K F ps vs:=by
 unfold Es at e;split at e
 ·rename_i z;cases e;obtain⟨a,vs,h1,h2,h3⟩:=R.at z b;exact⟨a,vs,h1,.inl h2.2,h3⟩
 ·rename_i z;cases e;obtain⟨a,vs,h1,h2,h3⟩:=R.at z b;exact⟨a,vs,h1,.inr h2,h3⟩
 ·cases e
def qG(h:List aB):PV->Option Bool
 | .b9=>some false
 | .bl b=>some b
 | .int i=>some (i != 0)
 | p=>match cH h p with
  | some (.ao,ps)=>some !ps.isEmpty
  | some (.lst,ps)=>some !ps.isEmpty
  | some (.gU false _,ps)=>some !ps.isEmpty
  | _=>none
def tO{ps:List PV}{vs:List V}(h:aF K F ps vs):ps.isEmpty=vs.isEmpty:=by
 cases ps with
 | nil=>rw[h.cU];rfl
 | cons p ps=>obtain⟨v,r,rfl,_,_⟩:=h.cq;rfl
def Rep.tru(R:Rep K aa ab F st σ H){p:PV}{k:Bool}{v:V}(e:qG st.h p=some k)(b:bQ K F p v):OR K v H k:=by
 have more:(match cH st.h p with
  | some (.ao,ps)=>some !ps.isEmpty
  | some (.lst,ps)=>some !ps.isEmpty
  | some (.gU false _,ps)=>some !ps.isEmpty
  | _=>none)=some k->OR K v H k:=λe=>by
  split at e
  ·rename_i z;cases e;obtain⟨a,vs,rfl,h2,h3⟩:=R.at z b;exact .inr (.inl ⟨vs,h2.2,by rw[tO h3]⟩)
  ·rename_i z;cases e;obtain⟨a,vs,rfl,h2,h3⟩:=R.at z b;exact .inl ⟨vs,kP.sq h2,by rw[tO h3]⟩
  ·rename_i z;cases e;obtain⟨a,vs,rfl,⟨kvs,h2,_,h4⟩,h3⟩:=R.at z b;refine .inr (.inr ⟨kvs,h2,?_⟩);rw[tO h3,<-h4,List.isEmpty_map]
  ·cases e
 cases p with
 | b9=>rw[dD.mp b];exact(cC e).symm
 | bl c=>rw[cf.mp b];exact(cC e).symm
 | int i=>rw[aI.mp b];exact(cC e).symm
 | str x=>exact more e
 | ref n=>exact more e
 | fn x=>exact more e
 | nd k ps=>exact more e
end
section
variable {X:Cx} {aa:Hp} {ab:Fz} {a b c e:Expr} {es rest:List Expr} {fa fb fc:Gx PV} {ga gb:Gx Bool} {ts:Gx (List PV)} {pos:Pos}
def gi(f:Gx PV):Gx Bool:=bnd f λp=>hp λh=>qG h p
def ZE(h:PE X e (tE X aa ab fa))(he:∀jX,isTrue e X.env jX=(do let v <-jX;standAt e.pos;holding [v] (truthy v))):PT X e (tT X aa ab (gi fa)) :=
 (K6 h he).imp λσ H Q ⟨F,st,R,h⟩=>⟨F,st,R,h.bnd λp v F1 bA H1 R1 g1 b1 h1=>by
  obtain⟨k,e,z⟩:=h1.hp;exact⟨k,R1.tru e b1,z k H1 F1 R1 (Gr.refl _) rfl⟩⟩
def Po{op Ae:CmpOp}{g g':G2}(ho:yn X (compareOp op) g)(oh:yn X (compareOp Ae) g')(ha:PE X a (tE X aa ab fa))(hb:PE X b (tE X aa ab fb))(hc:PE X c (tE X aa ab fc))
  (hm:lastMarks [op,Ae] [b,c]=false):PT X (.Compare a [op,Ae] [b,c] pos) (tT X aa ab (toB (chain g g' fa fb fc))):=(K4 ho oh ha hb hc hm).imp λ_ _ _ h=>wa (toB_imp h)
def dF{α:Type}(gc:Gx Bool)(f g:Gx α):Gx α:=bnd gc λx=>if x=true then f else g
def yo{α β:Type}{rl:Fz->α->β->Prop}{f g:Gx α}{σ:St}{H:Hp}{Q:β->Hp->Prop}(h:tX X aa ab rl (dF ga f g) σ H Q):tT X aa ab ga σ H λc H1=>if c=true then tX X aa ab rl f σ H1 Q else tX X aa ab rl g σ H1 Q:=by
 obtain⟨F,st,R,h⟩:=h;refine⟨F,st,R,h.bnd λx y F1 bA H1 R1 g1 b1 h1=>?_⟩
 cases b1;cases x with
 | true=>exact⟨F1,bA,R1,h1⟩
 | false=>exact⟨F1,bA,R1,h1⟩
def yp{α β:Type}{rl:Fz->α->β->Prop}{a:α}{b:β}{σ:St}{H:Hp}{Q:β->Hp->Prop}(h:tX X aa ab rl (aN a) σ H Q)(hb:∀F,rl F a b):Q b H:=by
 obtain⟨F,st,R,h⟩:=h;exact h.aN b H F R (Gr.refl _) (hb F)
def A2{P P' Q Q':Prop}{c:Bool}(h:if c=true then P else Q)(h1:P->P')(h2:Q->Q'):if c=true then P' else Q':=by
 grind
def Gj{α β:Type}{rl:Fz->α->β->Prop}{f:Gx α}{σ:St}{H:Hp}{Q Q':β->Hp->Prop}(h:tX X aa ab rl f σ H Q)(i:∀b H',Q b H'->Q' b H'):tX X aa ab rl f σ H Q':=let ⟨F,st,R,h⟩:=h;⟨F,st,R,h.mono (Gr.refl _) i⟩
def ZF(ha:PT X a (tT X aa ab ga))(hb:PW X (.BoolOp .And (b::rest) pos) (tT X aa ab gb)):PW X (.BoolOp .And (a::b::rest) pos) (tT X aa ab (dF ga gb (aN false))) :=
 (UB ha hb).imp λσ H Q h=>Gj (yo h) λ_ _ z=>A2 z id λz=>yp z λ_=>rfl
def ad6(ha:PT X a (tT X aa ab ga))(hb:PW X (.BoolOp .Or (b::rest) pos) (tT X aa ab gb)):PW X (.BoolOp .Or (a::b::rest) pos) (tT X aa ab (dF ga (aN true) gb)) :=
 (YN ha hb).imp λσ H Q h=>Gj (yo h) λ_ _ z=>A2 z (λz=>yp z λ_=>rfl) id
def oV(f:Gx Bool):Gx Bool:=bnd f λx=>aN !x
def ZG(ha:PT X a (tT X aa ab ga)):PT X (.UnaryOp .Not a pos) (tT X aa ab (oV ga)):=(UC ha).imp λσ H Q ⟨F,st,R,h⟩=>⟨F,st,R,h.bnd λx y F1 bA H1 R1 g1 b1 h1=>by
 cases b1;exact h1.aN _ H1 F1 R1 (Gr.refl _) rfl⟩
def Io(fa fb:Gx PV):Gx PV:=bnd fa λx=>bnd (hp λh=>qG h x) λk=>if k=true then fb else aN x
def orG(fa fb:Gx PV):Gx PV:=bnd fa λx=>bnd (hp λh=>qG h x) λk=>if k=true then aN x else fb
def LB{f g:PV->Gx PV}{ae:List (Addr×Obj)}{s:Shared}{σ:St}{H:Hp}{Q:VK}(ha:PE X a (tE X aa ab fa))(I:Inv X ae σ H s)
  (h:tE X aa ab (bnd fa λx=>bnd (hp λh=>qG h x) λk=>if k=true then f x else g x) σ H Q) :
  wpAny (model X.prog X.w) X.A (eval a X.env) (λv s1=>wpAny (model X.prog X.w) X.A (truthy v) (λk s2=>∃p xv F1 bA H1,Inv X ae σ H1 s2/\RelV xv v/\Rep X.K aa ab F1 bA σ H1/\bQ X.K F1 p xv/\Tx X aa ab (bQ X.K) F1 bA (if k=true then f p else g p) σ Q) X.xe s1) X.xe s:=by
 obtain⟨F,st,R,h⟩:=h;refine thn (ha ae s σ H (λv H1=>∃F1 bA p,Rep X.K aa ab F1 bA σ H1/\bQ X.K F1 p v/\Tx X aa ab (bQ X.K) F1 bA (bnd (hp λh=>qG h p) λk=>if k=true then f p else g p) σ Q) I
  ⟨F,st,R,h.bnd λp v F1 bA H1 R1 g1 b1 h1=>⟨F1,bA,p,R1,b1,h1⟩⟩) λv s1 ⟨xv,H1,I1,r1,F1,bA,p,R1,b1,h1⟩=>?_
 obtain⟨k,e,z⟩:=At.hp (At.bnd h1);exact thn (K5 ae s1 σ H1 xv v (λk' H'=>k'=k/\H'=H1) I1 r1 ⟨k,R1.tru e b1,rfl,rfl⟩) <| by
  rintro c s2 ⟨H2,I2,ec,eh⟩
  subst ec eh;exact⟨p,xv,F1,bA,H2,I2,r1,R1,b1,z⟩
def ad7(ha:PE X a (tE X aa ab fa))(hb:PE X (.BoolOp .Or (b::rest) pos) (tE X aa ab fb)):PE X (.BoolOp .Or (a::b::rest) pos) (tE X aa ab (orG fa fb)):=λae s σ H Q I h =>
 BoolOp_or (thn (LB ha I h) λv s1 z=>thn z <| by
  rintro k s2 ⟨p,xv,F1,bA,H1,I1,r1,R1,b1,z⟩
  cases k with
  | true=>exact⟨xv,H1,I1,r1,Tx.aN (z) _ H1 F1 R1 (Gr.refl _) b1⟩
  | false=>exact hb ae s2 σ H1 Q I1 ⟨F1,bA,R1,z⟩)
def ZH(ha:PE X a (tE X aa ab fa))(hb:PE X (.BoolOp .And (b::rest) pos) (tE X aa ab fb)):PE X (.BoolOp .And (a::b::rest) pos) (tE X aa ab (Io fa fb)):=λae s σ H Q I h =>
 BoolOp_and (thn (LB ha I h) λv s1 z=>thn z <| by
  rintro k s2 ⟨p,xv,F1,bA,H1,I1,r1,R1,b1,z⟩
  cases k with
  | false=>exact⟨xv,H1,I1,r1,Tx.aN (z) _ H1 F1 R1 (Gr.refl _) b1⟩
  | true=>exact hb ae s2 σ H1 Q I1 ⟨F1,bA,R1,z⟩)
def Vu(fa:Gx PV):Gx PV:=bnd (toB fa) λx=>aN (.bl !x)
def ZI(ha:PE X a (tE X aa ab fa)):PE X (.UnaryOp .Not a pos) (tE X aa ab (Vu fa)):=(UD ha).imp λσ H Q ⟨F,st,R,h⟩ =>
 toB_imp ⟨F,st,R,h.bnd λx y F1 bA H1 R1 g1 b1 h1=>by
  cases b1;exact h1.aN _ H1 F1 R1 (Gr.refl _) (cf.mpr rfl)⟩
def ad8(hc:PT X c (tT X aa ab ga))(ha:PE X a (tE X aa ab fa))(hb:PE X b (tE X aa ab fb)):PE X (.IfExp c a b pos) (tE X aa ab (dF ga fa fb)):=(KI hc ha hb).imp λ_ _ _ h=>yo h
def ak(f:Gx PV)(g:Gx (List PV)):Gx (List PV):=bnd f λx=>bnd g λxs=>aN (x::xs)
def ZJ:PA X [] (tA X aa ab (aN [])):=tf.imp λσ H Q h=>yp h λ_=>.nil
def Vv(ha:PE X e (tE X aa ab fa))(hr:PA X es (tA X aa ab ts))(hs:starEach (e::es) X.env=(false,eval e X.env)::starEach es X.env:=by rfl):PA X (e::es) (tA X aa ab (ak fa ts)) :=
 (jN ha hr hs).imp (by rintro σ H Q ⟨F,st,R,h⟩;exact⟨F,st,R,h.bnd λp v F1 bA H1 R1 g1 b1 h1=>⟨F1,bA,R1,h1.bnd λps vs F2 st2 H2 R2 g2 b2 h2=>h2.aN _ H2 F2 R2 (Gr.refl _) (.cons (b1.mono g2) b2)⟩⟩)
noncomputable def gF:Nat:=4000000
def fV{n:Nat}(h:n<=gF):n<=sizeLine:=br h (by decide)
def small(ps:List PV)(p:PV):Option PV:=if ps.length<=gF then some p else none
def mJ(k:Kd)(ts:Gx (List PV)):Gx PV:=bnd ts λps=>lb (small ps (.nd k ps))
def ZK{x1}(h:PA X es (tA X aa ab ts)):PE X (.Tuple es x1 pos) (tE X aa ab (mJ .ao ts)):=(U5 h).imp λσ H Q ⟨F,st,R,h⟩=>⟨F,st,R,h.bnd λps vs F1 bA H1 R1 g1 b1 h1=>by
 obtain⟨p,e,z⟩:=h1.lb;obtain⟨hl,rfl⟩:=aJ e;refine⟨fV (by rw[<-b1.length];exact hl),λa hn=>?_⟩
 obtain⟨R2,s2⟩:=R1.laid (.ao vs) hn;exact z _ _ _ R2 s2 (cS.mpr ⟨a,vs,rfl,jm.of aH,b1.mono s2⟩)⟩
def ZL(h:PA X es (tA X aa ab ts)):PE X (.List es pos) (tE X aa ab (mJ .lst ts)):=(K9 h).imp λσ H Q ⟨F,st,R,h⟩=>⟨F,st,R,h.bnd λps vs F1 bA H1 R1 g1 b1 h1=>by
 obtain⟨p,e,z⟩:=h1.lb;obtain⟨hl,rfl⟩:=aJ e;refine⟨fV (by rw[<-b1.length];exact hl),λa hn=>?_⟩
 obtain⟨R2,s2⟩:=R1.laid (.lst vs) hn;exact z _ _ _ R2 s2 (gB.mpr ⟨a,vs,rfl,kP.of aH,b1.mono s2⟩)⟩
noncomputable def mj(c:aB):Gx PV:=λst=>some (.ok (.ref st.h.length),⟨st.ρ,st.h++[c]⟩)
def Tx.mj{c:aB}{F:Fz}{st:dq}{σ:St}{H:Hp}{Q:VK}{p:Addr}{o:HO}{vs:List V}(h:Tx X aa ab (bQ X.K) F st (mj c) σ Q)(R:Rep X.K aa ab F st σ H)(hp:H p=none)
  (hn:qz X.K F.F (c5 H p o) p true c.k vs) (hb:aF X.K F c.ps vs):Q (.ref p) (c5 H p o):=by
 obtain⟨r,h1,h2⟩:=h;cases h1;obtain⟨C,g,hm⟩:=R.c.alloc hp hn hb;exact h2 _ _ _ ⟨C,R.l.mono g⟩ g (d8.mpr ⟨p,hm,rfl⟩)
def yq(ts:Gx (List PV)):Gx PV:=bnd ts λps=>bnd (lb (small ps .b9)) λ_=>mj ⟨.lst,ps⟩
def Vw(h:PA X es (tA X aa ab ts)):PE X (.List es pos) (tE X aa ab (yq ts)):=(K9 h).imp λσ H Q ⟨F,st,R,h⟩=>⟨F,st,R,h.bnd λps vs F1 bA H1 R1 g1 b1 h1=>by
 obtain⟨p,e,z⟩:=At.lb (At.bnd h1);obtain⟨hl,rfl⟩:=aJ e;exact⟨fV (by rw[<-b1.length];exact hl),λa hn=>Tx.mj z R1 hn aH b1⟩⟩
end
inductive eX where
 | nx | bk | ct | rt (p:PV)
def A3(X:Cx)(aa:Hp)(ab F:Fz)(D:D0):eX->dq->Prop
 | .nx,st=>∀F' bM H',Rep X.K aa ab F' st bM H'->Gr F F'->D.nx bM H'
 | .bk,st=>∀F' bM H',Rep X.K aa ab F' st bM H'->Gr F F'->D.bk bM H'
 | .ct,st=>∀F' bM H',Rep X.K aa ab F' st bM H'->Gr F F'->D.ct bM H'
 | .rt p,st=>∀v F' H',kT X.K aa ab F' st.h H'->Gr F F'->bQ X.K F' p v->D.rt v H'
def Sa(X:Cx)(aa:Hp)(ab F:Fz)(D:D0)(st:dq)(f:Gx eX):Prop:=At X aa ab F st f (A3 X aa ab F D)
def tS(X:Cx)(aa:Hp)(ab:Fz)(f:Gx eX):TS:=λD σ H=>∃F st,Rep X.K aa ab F st σ H/\Sa X aa ab F D st f
section
variable {X:Cx} {aa:Hp} {ab F F1:Fz} {D:D0} {st:dq} {α β:Type}
theorem A3.mono(g:Gr F F1):∀(o:eX) (st:dq),A3 X aa ab F D o st->A3 X aa ab F1 D o st
 | .nx,_,h=>λF' bM H' R z=>h F' bM H' R (g.trans z)
 | .bk,_,h=>λF' bM H' R z=>h F' bM H' R (g.trans z)
 | .ct,_,h=>λF' bM H' R z=>h F' bM H' R (g.trans z)
 | .rt _,_,h=>λv F' H' R z=>h v F' H' R (g.trans z)
def Sa.mono(h:Sa X aa ab F D st f)(g:Gr F F1):Sa X aa ab F1 D st f:=At.imp h g (A3.mono g)
def Sa.bnd(h:Sa X aa ab F D st (bnd f k))
  (i:∀a b F1 bA H1,Rep X.K aa ab F1 bA σ H1->Gr F F1->rl F1 a b->Sa X aa ab F1 D bA (k a)->Q b H1):Tx X aa ab rl F st f σ Q :=
 At.imp (At.bnd h) (Gr.refl F) λa bA q b H1 F1 R1 g1 r1=>i a b F1 bA H1 R1 g1 r1 (Sa.mono q g1)
end
section
variable {X:Cx} {aa:Hp} {ab:Fz} {a b c e tg iter:Expr} {es:List Expr} {fe:Gx PV} {gc:Gx Bool} {pos:Pos} {s:Stmt} {ss body:List Stmt} {f g fb:Gx eX}
def onK(g:Gx eX):eX->Gx eX
 | .nx=>g
 | .bk=>aN .bk
 | .ct=>aN .ct
 | .rt p=>aN (.rt p)
def dW(f g:Gx eX):Gx eX:=bnd f (onK g)
def Vx:PSs X [] (tS X aa ab (aN .nx)):=OA.imp (by rintro D σ H ⟨F,st,R,h⟩;exact At.aN h F σ H R (Gr.refl F))
def Pp(h1:PS X s (tS X aa ab f))(h2:PSs X ss (tS X aa ab g)):PSs X (s::ss) (tS X aa ab (dW f g)):=(KJ h1 h2).imp λD σ H ⟨F,st,R,h⟩ =>
 ⟨F,st,R,At.imp (At.bnd h) (Gr.refl F) λo bA q=>match o,q with
  | .nx,q=>λF1 jL H1 R1 g1=>⟨F1,bA,R1,Sa.mono q g1⟩
  | .bk,q=>λF' bM H'=>At.aN q F' bM H'
  | .ct,q=>λF' bM H'=>At.aN q F' bM H'
  | .rt p,q=>λv F' H'=>At.aN q v F' H'⟩
def Vy(h1:PS X s (tS X aa ab f)):PSs X [s] (tS X aa ab f):=OB h1
def Vz:PS X (.Pass pos) (tS X aa ab (aN .nx)):=OC.imp (by rintro D σ H ⟨F,st,R,h⟩;exact At.aN h F σ H R (Gr.refl F))
def Pq:PS X (.Break pos) (tS X aa ab (aN .bk)):=KN.imp (by rintro D σ H ⟨F,st,R,h⟩;exact At.aN h F σ H R (Gr.refl F))
def VA:PS X (.Continue pos) (tS X aa ab (aN .ct)):=AB.imp (by rintro D σ H ⟨F,st,R,h⟩;exact At.aN h F σ H R (Gr.refl F))
def retS(fe:Gx PV):Gx eX:=bnd fe λp=>aN (.rt p)
def ZM(he:PE X e (tE X aa ab fe)):PS X (.Return (some e) pos) (tS X aa ab (retS fe)):=(UG he).imp (by rintro D σ H ⟨F,st,R,h⟩;exact⟨F,st,R,h.bnd λp v F1 bA H1 R1 g1 b1 h1=>At.aN h1 v F1 H1 R1.c (Gr.refl _) b1⟩)
def VB:PS X (.Return none pos) (tS X aa ab (aN (.rt .b9))):=OF.imp (by rintro D σ H ⟨F,st,R,h⟩;exact At.aN h _ F H R.c (Gr.refl _) (dD.mpr rfl))
def ad9(hc:PT X c (tT X aa ab gc))(ha:PSs X p (tS X aa ab f))(hb:PSs X r (tS X aa ab g)):PS X (.If c p r pos) (tS X aa ab (dF gc f g)) :=
 (YT hc ha hb).imp λD σ H ⟨F,st,R,h⟩=>⟨F,st,R,h.bnd λx y F1 bA H1 R1 g1 b1 h1=>by
  cases b1;cases x with
  | true=>exact⟨F1,bA,R1,h1⟩
  | false=>exact⟨F1,bA,R1,h1⟩⟩
def gQ(fe:Gx PV):Gx eX:=bnd fe λ_=>aN .nx
def VC(he:PE X e (tE X aa ab fe))(hs:swapsWith e none pos.line X.env=pure false:=by rfl):PS X (.Expr e pos) (tS X aa ab (gQ fe)):=(OD he hs).imp λD σ H ⟨F,st,R,h⟩ =>
 ⟨F,st,R,h.bnd λp v F1 bA H1 R1 g1 b1 h1=>At.aN h1 F1 σ H1 R1 (Gr.refl _)⟩
abbrev Tg:=PV->dq->Option dq
abbrev X8:=List PV->dq->Option dq
def tG(K:W.Frag)(aa:Hp)(ab:Fz)(g:Tg):TG:=λv σ H Q=>∃F st p az,Rep K aa ab F st σ H/\bQ K F p v/\g p st=some az/\∀bM H' F',Rep K aa ab F' az bM H'->Gr F F'->Q bM H'
def ZN(K:W.Frag)(aa:Hp)(ab:Fz)(g:X8):UH:=λvs σ H Q=>∃F st ps az,Rep K aa ab F st σ H/\aF K F ps vs/\g ps st=some az/\∀bM H' F',Rep K aa ab F' az bM H'->Gr F F'->Q bM H'
noncomputable def aX(i:Nat):Tg:=λp st=>if i<st.ρ.length then some ⟨st.ρ.set i (some p),st.h⟩else none
def Lc.set{K:W.Frag}(L:Lc K F ρ σ)(hi:i<ρ.length)(hb:bQ K F p v):Lc K F (ρ.set i (some p)) (σ.set i (some v)) where
 av:=λj q e=>by
  by_cases h:i=j
  ·subst h;rw[se hi]at e;cases e;exact⟨v,se (by rw[<-L.len];exact hi),hb⟩
  ·rw[oy h]at e;rw[oy h];exact L.av j q e
 len:=by rw[xE,xE];exact L.len
def VD(i:Nat)(h:PG X (.Name x pos) (gName i)):PG X (.Name x pos) (tG X.K aa ab (aX i)):=h.imp <| by
 rintro v σ H Q ⟨F,st,p,az,R,hb,hf,q⟩
 obtain⟨hi,rfl⟩:=aJ hf;exact q _ _ _ ⟨R.c,R.l.set hi hb⟩ (Gr.refl F)
def tP:X8:=λps st=>match ps with | []=>some st | _=>none
def dM(g:Tg)(r:X8):X8:=λps st=>match ps with | p::ps=>(g p st).bind λaz=>r ps az | []=>none
def VE:PGs X [] (ZN X.K aa ab tP):=OH.imp <| by
 rintro vs σ H Q ⟨F,st,ps,az,R,hb,hf,q⟩
 cases ps with
 | nil=>cases hf;exact⟨hb.cU,q _ _ _ R (Gr.refl F)⟩
 | cons _ _=>cases hf
def Pr(h1:PG X e (tG X.K aa ab t))(h2:PGs X es (ZN X.K aa ab u))(hs:(assignEach (e::es) X.env).map (·.2)=assign e X.env::(assignEach es X.env).map (·.2):=by rfl) :
  PGs X (e::es) (ZN X.K aa ab (dM t u)):=(KQ h1 h2 hs).imp <| by
 rintro vs σ H Q ⟨F,st,ps,az,R,hb,hf,q⟩
 cases ps with
 | nil=>cases hf
 | cons p ps =>
  obtain⟨v,r,rfl,b1,b2⟩:=hb.cq;obtain⟨bA,e1,e2⟩:=bf hf;exact⟨v,r,rfl,F,st,p,bA,R,b1,e1,λjL H1 F1 R1 s1=>⟨F1,bA,ps,az,R1,b2.mono s1,e2,λF7 H2 F2 R2 s2=>q F7 H2 F2 R2 (s1.trans s2)⟩⟩
noncomputable def gW(n:Nat)(t:X8):Tg:=λp st=>match p with | .nd .ao ps=>if ps.length=n then t ps st else none | _=>none
def ZO(hc:X.calm=true)(h:PGs X es (ZN X.K aa ab t))(hn:(assignEach es X.env).length=n:=by rfl)(qB:(assignEach es X.env).findIdx? (·.1)=none:=by rfl) :
  PG X (.Tuple es k pos) (tG X.K aa ab (gW n t)):=(UI hc h hn qB).imp <| by
 rintro v σ H Q ⟨F,st,p,az,R,hb,hf,q⟩
 unfold gW at hf;split at hf
 ·rename_i ps;obtain⟨hl,hf⟩:=bR hf;obtain⟨a,vs,rfl,hs,Gk⟩:=cS.mp hb;exact⟨a,vs,rfl,bL R.sub hs,by rw[<-Gk.length];exact hl,F,st,ps,az,R,Gk,hf,q⟩
 ·cases hf
noncomputable def stp(g:dq->Option dq):Gx eX:=λst=>(g st).map λaz=>(.ok .nx,az)
def Sa.stp{st:dq}{g:dq->Option dq}(h:Sa X aa ab F D st (stp g)):∃az,g st=some az/\∀F' bM H',Rep X.K aa ab F' az bM H'->Gr F F'->D.nx bM H':=by
 obtain⟨r,h1,h2⟩:=h;obtain⟨az,e1,e2⟩:=bz h1;subst e2;exact⟨az,e1,h2⟩
def c6(fe:Gx PV)(g:Tg):Gx eX:=bnd fe λp=>stp (g p)
def Pt{g:Tg}(h:tS X aa ab (c6 fe g) D σ H):OI (tE X aa ab fe) (tG X.K aa ab g) D σ H:=by
 obtain⟨F,st,R,h⟩:=h;refine⟨F,st,R,h.bnd λp v F1 bA H1 R1 g1 b1 h1=>?_⟩
 obtain⟨az,e,z⟩:=h1.stp;exact⟨F1,bA,p,az,R1,b1,e,λF7 H2 F2 R2 s2=>z F2 F7 H2 R2 s2⟩
def ZP{g:Tg}(he:PE X e (tE X aa ab fe))(hg:PG X tg (tG X.K aa ab g))(hs:swapsWithSole [tg] e pos.line X.env=pure false:=by rfl)(hw:swappedStores [tg] e X.env=pure none:=by rfl)
  (h1:(assignEach [tg] X.env).map (·.2)=[assign tg X.env]:=by rfl):PS X (.Assign [tg] e pos) (tS X aa ab (c6 fe g)):=(KR he hg hs hw h1).imp λ_ _ _ h=>Pt h
def Walk(K:W.Frag)(F:Fz)(ps:List PV)(J:It):Prop:=∀(aa:Hp) (ab F':Fz) (st:dq) (σ:St) (H:Hp),Rep K aa ab F' st σ H->Gr F F'->∀i:Nat,
 (∀p,ps[i]?=some p->J.go i H/\∀x H',J.yld i H x H'->∃VF,Rep K aa ab VF st σ H'/\Gr F' VF/\bQ K VF p x)/\(ps[i]?=none->J.stop i H)
abbrev tI(X:Cx)(aa:Hp)(ab:Fz)(f:Gx (List PV)):TI:=tX X aa ab (Walk X.K) f
def wb(r:Gx eX):eX->Gx eX
 | .nx=>r
 | .ct=>r
 | .bk=>aN .nx
 | .rt p=>aN (.rt p)
def fW(g:Tg)(body:Gx eX):List PV->Gx eX
 | []=>aN .nx
 | p::ps=>bnd (stp (g p)) λ_=>bnd body (wb (fW g body ps))
def Sa.mP{st:dq}(N:St->Hp->Prop)(hN:∀F1 bA jL H1,Rep X.K aa ab F1 bA jL H1->Gr F F1->Sa X aa ab F1 D bA r->N jL H1)(h:Sa X aa ab F D st (U.bnd fb (wb r))):Sa X aa ab F {D with nx:=N,ct:=N,bk:=D.nx} st fb :=
 At.imp (At.bnd h) (Gr.refl F) λo bA q=>match o,q with
  | .nx,q=>λF1 jL H1 R1 g1=>hN F1 bA jL H1 R1 g1 (Sa.mono q g1)
  | .ct,q=>λF1 jL H1 R1 g1=>hN F1 bA jL H1 R1 g1 (Sa.mono q g1)
  | .bk,q=>λF' bM H'=>At.aN q F' bM H'
  | .rt p,q=>λv F' H'=>At.aN q v F' H'
def jP(gc:Gx Bool)(body:Gx eX):Nat->Gx eX
 | 0=>λ_=>none
 | n+1=>bnd gc λc=>if c=true then bnd body (wb (jP gc body n))else aN .nx
def Pu(n:Nat)(hp:PassesOwn (model X.prog X.w) X.A X.env X.xe)(hc:PT X c (tT X aa ab gc))(hb:PSs X body (tS X aa ab fb)):PS X (.While c body [] pos) (tS X aa ab (jP gc fb n)) :=
 (KU hp hc hb).imp <| by
 rintro D σ H ⟨F,st,R,h⟩
 refine⟨λm bM H'=>∃F' az,Rep X.K aa ab F' az bM H'/\Sa X aa ab F' D az (jP gc fb m),⟨n,F,st,R,h⟩,λm bM H' ⟨F',az,R',h'⟩=>?_⟩
 cases m with
 | zero=>obtain⟨r,e,_⟩:=h';cases e
 | succ m =>
  refine⟨F',az,R',Sa.bnd h' λx y F1 bA H1 R1 g1 b1 h1=>?_⟩
  cases b1;cases x with
  | false=>exact At.aN h1 F1 bM H1 R1 (Gr.refl _)
  | true=>exact⟨λF7 H2=>∃F2 st2,Rep X.K aa ab F2 st2 F7 H2/\Sa X aa ab F2 D st2 (jP gc fb m),λF7 H2 n2=>⟨m,sE m,n2⟩,F1,bA,R1,Sa.mP _ (λF4 kR SK H4 R4 g4 z=>⟨F4,kR,R4,z⟩) h1⟩
end
def _root_.L2.Inv.Gn(I:Inv X ae σ H s)(h:kP X.K H a xs):∃(aG:List Value) (n:Nat),Vals xs aG/\s.heap.get? a=some {cls:=.type "list",data:=.seq aG.toArray n}/\xs.length<=sizeLine:=by
 rcases h with h | ⟨aG,n,e,z,r⟩
 ·obtain⟨z,aG,n,r,e⟩:=h.ok I.hok;exact⟨aG,n,r,e,z⟩
 ·exact⟨aG,n,r,I.sX a _ e,by rw[r.length];exact z⟩
def sizeOk(n:Nat)(p:PV):Option PV:=if n<=gF then some p else none
def kr(h:sizeOk n p=some q):n<=sizeLine/\p=q:=by
 obtain⟨h1,h2⟩:=aJ h;exact⟨fV h1,h2⟩
def A4(h:List aB)(p:PV):Option (List PV):=match cH h p with | some (.lst,ps)=>some ps | _=>none
def hJ(e:A4 h p=some ps):cH h p=some (.lst,ps):=by
 unfold A4 at e;split at e
 ·grind
 ·cases e
def fD:G2:=λh p q=>match p,q with
 | .int i,.int j=>some (.int (i+j))
 | .str x,.str y=>sizeOk (x.length+y.length) (.str (x++y))
 | .nd .ao xs,.nd .ao ys=>sizeOk (xs.length+ys.length) (.ao (xs++ys))
 | p,q=>(A4 h p).bind λxs=>(A4 h q).bind λys=>sizeOk (xs.length+ys.length) (.lst (xs++ys))
noncomputable def tQ(c:Int->Int->Bool)(f:Int->Int->PV):G2:=λ_ p q=>match p,q with
 | .int i,.int j=>if c i j=true then some (f i j)else none
 | _,_=>none
def Gp:Int:=18446744073709551616
def VG:G2:=tQ (λ_ _=>true) λi j=>.int (i-j)
def vn:G2:=tQ (λi j=>decide ((-Gp<i/\i<Gp)\/(-Gp<j/\j<Gp))) λi j=>.int (i*j)
def ju:G2:=tQ (λ_ j=>decide (0<j/\j<1073741824)) λi j=>.int (i/j)
def gM:G2:=tQ (λ_ j=>decide (0<j)) λi j=>.int (i%j)
def Pw:G2:=tQ (λi j=>decide (0<=j/\j<=1000/\i.natAbs<1000)) λi j=>.int (i^j.toNat)
def Et:G2:=tQ (λ_ _=>true) λi j=>.bl (decide (i<j))
def VH:G2:=tQ (λ_ _=>true) λi j=>.bl (decide (i<=j))
def VI:G2:=tQ (λ_ _=>true) λi j=>.bl (decide (j<=i))
section
variable {X:Cx}
def LC{ws:List Value}(ht:IsTup s.heap t ([]:List Value).toArray)(hb:IsTup s.heap b ws.toArray)(h1:Q (.ref b) s):wpAny (model prog w) A (binaryOp .Add (.ref t) (.ref b)) Q E s:=by
 obtain⟨⟨cls,dd,data,sl⟩,ho,hc,n,hd⟩:=id ht;obtain⟨⟨adE,dd2,Y5,sl2⟩,ho2,Ss,n2,Y6⟩:=id hb;simp only at hc hd Ss Y6;subst hc hd Ss Y6;exact concat_meets ⟨_,ho,rfl⟩ ⟨_,ho2,rfl⟩ DN seq_tuple_add Dx Du (Ds _ _) (tuple_addW0 t b _ ws.toArray n n2 dd dd2 sl sl2 (by simp)) ⟨ho,ho2,h1⟩
def Px:yn X (binaryOp .Add) fD:=by
 rintro ae s σ H x y v u Q I rx ry ⟨aa,ab,F,st,τ,pa,pb,p,e,R,ba,bb,k⟩
 unfold fD at e;split at e
 ·cases e;rw[aI.mp ba]at rx;rw[aI.mp bb]at ry;exact US ae s σ H _ _ v u Q I rx ry ⟨_,_,rfl,rfl,k _ H F R (Gr.refl F) (aI.mpr rfl)⟩
 ·obtain⟨hz,rfl⟩:=kr e;rw[cZ.mp ba]at rx;rw[cZ.mp bb]at ry;exact D6 ae s σ H _ _ v u Q I rx ry ⟨_,_,rfl,rfl,hz,k _ H F R (Gr.refl F) (cZ.mpr rfl)⟩
 ·rename_i xs ys;obtain⟨hz,rfl⟩:=kr e;obtain⟨a,vs,rfl,ha,jQ⟩:=cS.mp ba;obtain⟨b,ws,rfl,hb,VJ⟩:=cS.mp bb;have ZQ:=bL R.sub ha;have k9:=bL R.sub hb;cases xs with
  | nil =>
   rw[jQ.cU]at ZQ;cases rx;cases ry;obtain⟨aG,r1,p1,_⟩:=I.tuple ZQ;obtain⟨il,r2,p2,_⟩:=I.tuple k9;cases r1;exact LC p1 p2 ⟨.ref b,H,I,rfl,k _ H F R (Gr.refl F) (cS.mpr ⟨b,ws,rfl,hb,VJ⟩)⟩
  | cons x0 xr =>
   refine O8 ae s σ H _ _ v u Q I rx ry ⟨a,b,vs,ws,rfl,rfl,ZQ,k9,?_,by rw[<-jQ.length,<-VJ.length];exact hz,λz=>?_,λz q hq=>?_⟩
   ·intro z;have:=jQ.length;rw[z]at this;cases this
   ·subst z;have hy:=lU VJ.length;subst hy;rw[fA]at k;exact k _ H F R (Gr.refl F) (cS.mpr ⟨a,vs,rfl,ha,jQ⟩)
   ·obtain⟨R2,s2⟩:=R.laid (.ao (vs++ws)) hq;exact k _ _ _ R2 s2 (cS.mpr ⟨q,_,rfl,jm.of aH,(jQ.append VJ).mono s2⟩)
 ·obtain⟨xs,e1,e⟩:=bf e;obtain⟨ys,e2,e⟩:=bf e;obtain⟨hz,rfl⟩:=kr e;obtain⟨a,vs,rfl,ha,jQ⟩:=R.at (hJ e1) ba;obtain⟨b,ws,rfl,hb,VJ⟩:=R.at (hJ e2) bb;cases rx;cases ry;obtain⟨aG,n,r,e1,z1⟩:=I.Gn ha;obtain⟨il,n2,r2,e2,z2⟩:=I.Gn hb;have hl:=r.length;have N7:=r2.length;have Sx:vs.length+ws.length<=sizeLine:=by rw[<-jQ.length,<-VJ.length];exact hz
  refine PySem.P.add_list e1 e2 ?_ (by grind)
  have ea:aG.toArray++il.toArray=(aG++il).toArray:=by simp
  rw[ea];obtain⟨R2,s2⟩:=R.laid (.lst (vs++ws)) I.fresh;exact⟨.ref _,_,I.adN (r.append r2) (by grind),rfl,k _ _ _ R2 s2 (gB.mpr ⟨_,_,rfl,kP.of aH,(jQ.append VJ).mono s2⟩)⟩
def gX(ho:OpR X f (rI C h))(hc:∀i j,c i j=true->C i j)(hg:∀i j F,bQ X.K F (g i j) (h i j)):yn X f (tQ c g):=by
 rintro ae s σ H x y v u Q I rx ry ⟨aa,ab,F,st,τ,pa,pb,p,e,R,ba,bb,k⟩
 unfold tQ at e;split at e
 ·obtain⟨h1,rfl⟩:=aJ e;rw[aI.mp ba]at rx;rw[aI.mp bb]at ry;exact ho ae s σ H _ _ v u Q I rx ry ⟨_,_,rfl,rfl,hc _ _ h1,k _ H F R (Gr.refl F) (hg _ _ F)⟩
 ·cases e
def A5(ho:OpR X f (OK h)):OpR X f (rI (λ_ _=>True) h):=(by rintro ae s σ H x y v u Q I rx ry ⟨i,j,h1,h2,_,q⟩;exact ho ae s σ H x y v u Q I rx ry ⟨i,j,h1,h2,q⟩)
end
def VL:Operator->Option G2
 | .Add=>some fD
 | .Sub=>some VG
 | .Mult=>some vn
 | .FloorDiv=>some ju
 | .Mod=>some gM
 | .Pow=>some Pw
 | _=>none
def Py(h:VL op=some g):yn X (binaryOp op) g:=by
 unfold VL at h;split at h<;>cases h
 ·exact Px
 ·exact gX (A5 UT) (by grind) λ_ _ _=>aI.mpr rfl
 ·exact gX UU (λi j e=>show(-Gp<i/\i<Gp)\/(-Gp<j/\j<Gp)from fy e) λ_ _ _=>aI.mpr rfl
 ·exact gX OM (λ_ j e=>show 0<j/\j<1073741824 from fy e) λ_ _ _=>aI.mpr rfl
 ·exact gX UW (λ_ _ e=>fy e) λ_ _ _=>aI.mpr rfl
 ·exact gX UX (λ_ _ e=>let ⟨h1,h2,h3⟩:=fy e;⟨h1,by lia,oN h3 (by decide)⟩) λ_ _ _=>aI.mpr rfl
inductive Tr where
 | b9 | bl (b:Bool) | int (i:Int) | str (x:Str) | ao (xs:List Tr) | lst (xs:List Tr)
mutual
def eqT:Tr->Tr->Bool
 | .b9,.b9=>true
 | .bl a,.bl b=>a==b
 | .bl a,.int b=>(if a then 1 else 0)==b
 | .int a,.bl b=>a==(if b then 1 else 0)
 | .int a,.int b=>a==b
 | .str a,.str b=>a==b
 | .ao xs,.ao ys=>oX xs ys
 | .lst xs,.lst ys=>oX xs ys
 | _,_=>false
def oX:List Tr->List Tr->Bool
 | [],[]=>true
 | x::xs,y::ys=>eqT x y&&oX xs ys
 | _,_=>false
end
mutual
def dep:Tr->Nat
 | .ao xs=>lg xs+1
 | .lst xs=>lg xs+1
 | _=>0
def lg:List Tr->Nat
 | []=>0
 | x::xs=>max (dep x) (lg xs)
end
mutual
theorem ku:∀p:Tr,eqT p p=true
 | .b9=>rfl
 | .bl b=>fz b
 | .int b=>fz b
 | .str b=>fz b
 | .ao xs=>oY xs
 | .lst xs=>oY xs
theorem oY:∀ps:List Tr,oX ps ps=true
 | []=>rfl
 | x::xs=>ie.mpr ⟨ku x,oY xs⟩
end
theorem mZ:∀{xs ys:List Tr},xs.length≠ys.length->oX xs ys=false
 | [],[],h=>absurd rfl h
 | [],_::_,_=>rfl
 | _::_,[],_=>rfl
 | x::xs,y::ys,h=>by show(eqT x y&&oX xs ys)=false;rw[mZ (by simpa using h),Bool.and_false]
noncomputable def tV(xs ys:List Tr)(j:Nat):Bool:=match xs[j]?,ys[j]? with
 | some x,some y=>eqT x y
 | _,_=>true
theorem m4:∀{xs ys:List Tr},xs.length=ys.length->(List.range xs.length).all (tV xs ys)=oX xs ys
 | [],[],_=>rfl
 | [],_::_,h=>by cases h
 | _::_,[],h=>by cases h
 | x::xs,y::ys,h=>by
  have ih:=m4 (by simpa using h)
  rw[aM,Dw,ik,List.all_map];have e0:tV (x::xs) (y::ys) 0=eqT x y:=rfl;have e1:(tV (x::xs) (y::ys) ∘ Nat.succ)=tV xs ys:=by
   funext j
   simp[tV,Function.comp]
  rw[e0,e1,ih];rfl
def Gq(h1:xs.length=m)(h2:ys.length=n):((List.range (min m n)).all (tV xs ys)&&(m==n))=oX xs ys:=by
 subst h1 h2;by_cases h:xs.length=ys.length
 ·rw[<-h,Nat.min_self,m4 h];simp
 ·rw[mZ h];simp[h]
mutual
def dG(s:Shared):Tr->Value->Prop
 | .b9,u=>u=.none
 | .bl b,u=>u=.bool b
 | .int i,u=>∃t,u=.int i t
 | .str x,u=>∃t,u=.str x t
 | .ao ts,u=>∃a aG,u=.ref a/\s.heap.IsTuple a aG.toArray/\cw s ts aG
 | .lst ts,u=>∃a aG,u=.ref a/\s.heap.IsList a aG.toArray/\cw s ts aG
def cw(s:Shared):List Tr->List Value->Prop
 | [],us=>us=[]
 | t::ts,us=>∃u r,us=u::r/\dG s t u/\cw s ts r
end
section
variable {A:Around} {s:Shared}
theorem cw.len:∀{ts:List Tr} {us:List Value},cw s ts us->ts.length=us.length
 | [],_,h=>by simp only[cw]at h;rw[h];rfl
 | _::_,_,h=>by
  simp only[cw]at h;obtain⟨u,r,rfl,_,h⟩:=h;simp[cw.len h]
def kQ(h1:s.heap.IsTuple a x)(h2:s.heap.IsTuple a y):x=y:=by
 obtain⟨o,e,_,n,d⟩:=h1;obtain⟨o',e',_,n',d'⟩:=h2;rw[e]at e';cases e';rw[d]at d';cases d';rfl
def mO(h1:s.heap.IsList a x)(h2:s.heap.IsList a y):x=y:=by
 obtain⟨o,e,_,n,d⟩:=h1;obtain⟨o',e',_,n',d'⟩:=h2;rw[e]at e';cases e';rw[d]at d';cases d';rfl
def tW(h1:s.heap.IsTuple a x)(h2:s.heap.IsList a y):False:=by
 obtain⟨o,e,c,n,d⟩:=h1;obtain⟨o',e',c',n',d'⟩:=h2;rw[e]at e';cases e';rw[c]at c';simp at c'
mutual
theorem dG.inj:∀{p q:Tr} {u:Value},dG s p u->dG s q u->p=q
 | .b9,q,u,h,h'=>by cases q<;>simp_all [dG]
 | .bl b,q,u,h,h'=>by cases q<;>simp_all [dG]
 | .int b,q,u,h,h'=>by
  simp only[dG]at h;obtain⟨t,rfl⟩:=h;cases q<;>simp_all [dG]
 | .str b,q,u,h,h'=>by
  simp only[dG]at h;obtain⟨t,rfl⟩:=h;cases q<;>simp_all [dG]
 | .ao xs,q,u,h,h'=>by
  simp only[dG]at h;obtain⟨a,aG,rfl,h1,h2⟩:=h;cases q with
  | ao ys =>
   simp only[dG]at h';obtain⟨b,ZR,e,g1,g2⟩:=h';cases e;have:=kQ h1 g1;have e:aG=ZR:=by simpa using this
   subst e;rw[cw.inj h2 g2]
  | lst ys =>
   simp only[dG]at h';obtain⟨b,ZR,e,g1,g2⟩:=h';cases e;exact(tW h1 g1).elim
  | _=>simp[dG]at h'
 | .lst xs,q,u,h,h'=>by
  simp only[dG]at h;obtain⟨a,aG,rfl,h1,h2⟩:=h;cases q with
  | lst ys =>
   simp only[dG]at h';obtain⟨b,ZR,e,g1,g2⟩:=h';cases e;have:=mO h1 g1;have e:aG=ZR:=by simpa using this
   subst e;rw[cw.inj h2 g2]
  | ao ys =>
   simp only[dG]at h';obtain⟨b,ZR,e,g1,g2⟩:=h';cases e;exact(tW g1 h1).elim
  | _=>simp[dG]at h'
theorem cw.inj:∀{ps qs:List Tr} {us:List Value},cw s ps us->cw s qs us->ps=qs
 | [],qs,us,h,h'=>by
  simp only[cw]at h;subst h;cases qs with
  | nil=>rfl
  | cons _ _=>simp[cw]at h'
 | p::ps,qs,us,h,h'=>by
  simp only[cw]at h;obtain⟨u,r,rfl,h1,h2⟩:=h;cases qs with
  | nil=>simp[cw]at h'
  | cons q qs =>
   simp only[cw]at h';obtain⟨u',r',e,g1,g2⟩:=h';cases e;rw[dG.inj h1 g1,cw.inj h2 g2]
end
def tY(h:b=c)(r:SeqAt.RcAt A s u w b):SeqAt.RcAt A s u w c:=h▸r
def mn(h:b = !c)(r:SeqAt.RcNeAt A s u w b):SeqAt.RcNeAt A s u w (!c):=h▸r
def Gs(hf:∀x t,u≠.float x t)(h:SeqAt.RcAt A s u w b)(hb:u=w->b=true):SeqAt.EqAt A s u w b:=λprog v E Q hq=>by
 unfold eqBool;refine eS ?_;refine DS (λz=>?_) (λ_=>?_)
 ·rw[hb (aY z)]at hq;exact af (gu (aj hq))
 ·cases u with
  | float x t=>exact absurd rfl (hf x t)
  | _=>exact af (h prog v E _ (lY hq))
def dG.SM(h:dG s p u):∀y t,u≠.float y t:=λy t z=>by
 subst z;cases p<;>simp[dG]at h
mutual
theorem yr:∀(p q:Tr) (A:Around) (u w:Value),dG s p u->dG s q w->A.units+dep p<cLine->SeqAt.RcAt A s u w (eqT p q)/\SeqAt.RcNeAt A s u w (!(eqT p q))
 | .b9,q,A,u,w,ha,hb,hu=>by
  have iq:A.units<cLine := ‹_›;subst ha;cases q with
  | b9=>cases hb;exact⟨.none_none,.none_none⟩
  | bl=>cases hb;exact⟨(.none_bool _),(.none_bool _)⟩
  | int=>obtain⟨t,rfl⟩:=hb;exact⟨(.none_int _ _),(.none_int _ _)⟩
  | str=>obtain⟨t,rfl⟩:=hb;exact⟨(.none_str _ _),(.none_str _ _)⟩
  | ao=>obtain⟨a,aG,rfl,pR,_⟩:=hb;exact⟨(.none_tuple pR iq),(.none_tuple pR iq)⟩
  | lst=>obtain⟨a,aG,rfl,pR,_⟩:=hb;exact⟨(.none_list pR iq),(.none_list pR iq)⟩
 | .bl k,q,A,u,w,ha,hb,hu=>by
  have iq:A.units<cLine := ‹_›;subst ha;cases q with
  | b9=>cases hb;exact⟨(.bool_none _),(.bool_none _)⟩
  | bl=>cases hb;exact⟨(.bool_bool _ _),(.bool_bool _ _)⟩
  | int=>obtain⟨t,rfl⟩:=hb;exact⟨(.bool_int _ _ _),(.bool_int _ _ _)⟩
  | str=>obtain⟨t,rfl⟩:=hb;exact⟨(.bool_str _ _ _),(.bool_str _ _ _)⟩
  | ao=>obtain⟨a,aG,rfl,pR,_⟩:=hb;exact⟨(.bool_tuple _ pR iq),(.bool_tuple _ pR iq)⟩
  | lst=>obtain⟨a,aG,rfl,pR,_⟩:=hb;exact⟨(.bool_list _ pR iq),(.bool_list _ pR iq)⟩
 | .int k,q,A,u,w,ha,hb,hu=>by
  have iq:A.units<cLine := ‹_›;obtain⟨tk,rfl⟩:=ha;cases q with
  | b9=>cases hb;exact⟨(.int_none _ _),(.int_none _ _)⟩
  | bl=>cases hb;exact⟨(.int_bool _ _ _),(.int_bool _ _ _)⟩
  | int=>obtain⟨t,rfl⟩:=hb;exact⟨(.int_int _ _ _ _),(.int_int _ _ _ _)⟩
  | str=>obtain⟨t,rfl⟩:=hb;exact⟨(.int_str _ _ _ _),(.int_str _ _ _ _)⟩
  | ao=>obtain⟨a,aG,rfl,pR,_⟩:=hb;exact⟨(.int_tuple _ _ pR iq),(.int_tuple _ _ pR iq)⟩
  | lst=>obtain⟨a,aG,rfl,pR,_⟩:=hb;exact⟨(.int_list _ _ pR iq),(.int_list _ _ pR iq)⟩
 | .str k,q,A,u,w,ha,hb,hu=>by
  have iq:A.units<cLine := ‹_›;obtain⟨tk,rfl⟩:=ha;cases q with
  | b9=>cases hb;exact⟨(.str_none _ _),(.str_none _ _)⟩
  | bl=>cases hb;exact⟨(.str_bool _ _ _),(.str_bool _ _ _)⟩
  | int=>obtain⟨t,rfl⟩:=hb;exact⟨(.str_int _ _ _ _),(.str_int _ _ _ _)⟩
  | str=>obtain⟨t,rfl⟩:=hb;exact⟨(.str_str _ _ _ _),(.str_str _ _ _ _)⟩
  | ao=>obtain⟨a,aG,rfl,pR,_⟩:=hb;exact⟨(.str_tuple _ _ pR iq),(.str_tuple _ _ pR iq)⟩
  | lst=>obtain⟨a,aG,rfl,pR,_⟩:=hb;exact⟨(.str_list _ _ pR iq),(.str_list _ _ pR iq)⟩
 | .ao xs,q,A,u,w,ha,hb,hu=>by
  have iq:A.units<cLine:=by lia
  obtain⟨al,Pz,rfl,pL,tL⟩:=ha;cases q with
  | b9=>cases hb;exact⟨(.tuple_none pL iq),(.tuple_none pL iq)⟩
  | bl=>cases hb;exact⟨(.tuple_bool _ pL iq),(.tuple_bool _ pL iq)⟩
  | int=>obtain⟨t,rfl⟩:=hb;exact⟨(.tuple_int _ _ pL iq),(.tuple_int _ _ pL iq)⟩
  | str=>obtain⟨t,rfl⟩:=hb;exact⟨(.tuple_str _ _ pL iq),(.tuple_str _ _ pL iq)⟩
  | lst=>obtain⟨a,aG,rfl,pR,_⟩:=hb;exact⟨(.tuple_list pL pR iq),(.tuple_list pL pR iq)⟩
  | ao ys =>
   obtain⟨a,PC,rfl,pR,tR⟩:=hb;have e1:xs.length=Pz.toArray.size:=by rw[fw,tL.len]
   have e2:ys.length=PC.toArray.size:=by rw[fw,tR.len]
   have el:=λj (h1:j<Pz.toArray.size) (h2:j<PC.toArray.size)=>yt xs ys A.in1 Pz PC tL tR (by rw[xA];have hu:_+(lg _+1)<_:=hu;lia) j (by simpa using h1) (by simpa using h2)
   exact⟨tY (Gq e1 e2) (.tuples pL pR iq el),mn (by rw[Gq e1 e2];rfl) (.tuples pL pR iq el)⟩
 | .lst xs,q,A,u,w,ha,hb,hu=>by
  have iq:A.units<cLine:=by lia
  obtain⟨al,Pz,rfl,pL,tL⟩:=ha;cases q with
  | b9=>cases hb;exact⟨(.list_none pL iq),(.list_none pL iq)⟩
  | bl=>cases hb;exact⟨(.list_bool _ pL iq),(.list_bool _ pL iq)⟩
  | int=>obtain⟨t,rfl⟩:=hb;exact⟨(.list_int _ _ pL iq),(.list_int _ _ pL iq)⟩
  | str=>obtain⟨t,rfl⟩:=hb;exact⟨(.list_str _ _ pL iq),(.list_str _ _ pL iq)⟩
  | ao=>obtain⟨a,aG,rfl,pR,_⟩:=hb;exact⟨(.list_tuple pL pR iq),(.list_tuple pL pR iq)⟩
  | lst ys =>
   obtain⟨a,PC,rfl,pR,tR⟩:=hb;have e1:Pz.toArray.size=xs.length:=by rw[fw,tL.len]
   have e2:PC.toArray.size=ys.length:=by rw[fw,tR.len]
   by_cases hl:xs.length=ys.length
   ·have sz:Pz.toArray.size=PC.toArray.size:=by rw[e1,e2];exact hl
    have el:=λj (h1:j<Pz.toArray.size) (h2:j<PC.toArray.size)=>yt xs ys A.in1 Pz PC tL tR (by rw[xA];have hu:_+(lg _+1)<_:=hu;lia) j (by simpa using h1) (by simpa using h2)
    exact⟨tY (by rw[e1,m4 hl];rfl) (.lists pL pR sz iq el),mn (by rw[e1,m4 hl];rfl) (.lists pL pR sz iq el)⟩
   ·have sz:(Pz.toArray.size != PC.toArray.size)=true:=by rw[e1,e2];simpa using hl
    exact⟨tY (mZ hl).symm (.lists_lengths pL pR sz iq),mn (dA not (mZ hl)).symm (.lists_lengths pL pR sz iq)⟩
theorem yt:∀(ps qs:List Tr) A (us zs:List Value),cw s ps us->cw s qs zs->A.units+lg ps<cLine ->
  ∀j h1 (h2:j<zs.length),SeqAt.EqAt A s us[j] zs[j] (tV ps qs j)
 | [],qs,A,us,zs,b1,b2,hu=>λj h1 h2=>by
  simp only[cw]at b1;subst b1;cases h1
 | p::ps,qs,A,us,zs,b1,b2,hu=>λj h1 h2=>by
  simp only[cw]at b1;obtain⟨u,ur,rfl,c1,d1⟩:=b1;cases qs with
  | nil =>
   simp only[cw]at b2;subst b2;cases h2
  | cons q qs =>
   simp only[cw]at b2;obtain⟨z,zr,rfl,c2,d2⟩:=b2;have hm:A.units+dep p<cLine/\A.units+lg ps<cLine:=by
    simp only[lg]at hu
    lia
   cases j with
   | zero =>
    refine Gs c1.SM (yr p q A _ _ c1 c2 hm.1).1 λe=>?_
    simp only[List.getElem_cons_zero]at e;rw[e]at c1;rw[c1.inj c2];exact ku q
   | succ j=>exact yt ps qs A _ _ d1 d2 hm.2 j (by simpa using h1) (by simpa using h2)
end
def VM(b1:dG s p u)(b2:dG s q w)(hu:A.units+dep p<cLine):SeqAt.EqAt A s u w (eqT p q):=by
 refine Gs b1.SM (yr p q A _ _ b1 b2 hu).1 λz=>?_
 rw[z]at b1;rw[b1.inj b2];exact ku q
end
noncomputable def cL{α β:Type}(f:α->Option β):List α->Option (List β)
 | []=>some []
 | x::xs=>(f x).bind λy=>(cL f xs).map λys=>y::ys
def LD:Kd->List Tr->Option Tr
 | .ao,ts=>some (.ao ts)
 | .lst,ts=>some (.lst ts)
 | _,_=>none
def toT(h:List aB):Nat->PV->Option Tr
 | 0,_=>none
 | n+1,p=>match p with
  | .b9=>some .b9
  | .bl b=>some (.bl b)
  | .int i=>some (.int i)
  | .str x=>some (.str x)
  | .fn _=>none
  | p=>(cH h p).bind λq=>(cL (toT h n) q.2).bind (LD q.1)
def gw(h:cL f (x::xs)=some ys):∃y r,f x=some y/\cL f xs=some r/\ys=y::r:=by
 obtain⟨y,h1,h2⟩:=bf h;obtain⟨r,h3,h4⟩:=bz h2;exact⟨y,r,h1,h3,h4.symm⟩
theorem yu(h:List aB):∀(n:Nat) (p:PV) (t:Tr),toT h n p=some t->dep t<=n
 | 0,_,_,e=>by cases e
 | n+1,p,t,e=>by
  have go:((cH h p).bind λq=>(cL (toT h n) q.2).bind (LD q.1))=some t->dep t<=n+1:=λe=>by
   obtain⟨q,_,e⟩:=bf e;obtain⟨ts,e1,e2⟩:=bf e;have hd:∀ps ts,cL (toT h n) ps=some ts->lg ts<=n:=by
    intro ps;induction ps with
    | nil=>intro ts z;cases z;simp[lg]
    | cons p ps ih =>
     intro ts z;obtain⟨y,r,h1,h2,rfl⟩:=gw z;have:=yu h n p y h1;have:=ih r h2;simp only[lg];lia
   have:=hd _ _ e1;unfold LD at e2;split at e2<;>cases e2<;>simp only[dep]<;>lia
  unfold toT at e;split at e<;>first | (cases e;simp[dep];done) | (cases e;done) | exact go e
section
variable {X:Cx} {ae:List (Addr×Obj)} {σ τ:St} {s:Shared} {aa H:Hp} {ab F:Fz} {st:dq}
theorem Rep.tree(R:Rep X.K aa ab F st τ H)(I:Inv X ae σ H s):∀(n:Nat) (p:PV) (t:Tr) (v:V) (u:Value),toT st.h n p=some t->bQ X.K F p v->RelV v u->dG s t u
 | 0,_,_,_,_,e,_,_=>by cases e
 | n+1,p,t,v,u,e,b,r=>by
  have go:((cH st.h p).bind λq=>(cL (toT st.h n) q.2).bind (LD q.1))=some t->dG s t u:=λe=>by
   obtain⟨⟨k,ps⟩,e0,e⟩:=bf e;obtain⟨ts,e1,e2⟩:=bf e;obtain⟨a,vs,rfl,h2,h3⟩:=R.at e0 b;have hd:∀ps ts vs us,cL (toT st.h n) ps=some ts->aF X.K F ps vs->Vals vs us->cw s ts us:=by
    intro ps;induction ps with
    | nil=>intro ts vs us z b r;cases z;rw[b.cU]at r;cases r;simp[cw]
    | cons p ps ih =>
     intro ts vs us z b r;obtain⟨y,q,h1,h2,rfl⟩:=gw z;obtain⟨v,w,rfl,b1,b2⟩:=b.cq;cases r with
     | cons ra rr =>
      simp only[cw];exact⟨_,_,rfl,R.tree I n p y v _ h1 b1 ra,ih q w _ h2 b2 rr⟩
   cases r
   match k,e2,h2 with
   | .ao,e2,h2 =>
    cases e2;obtain⟨aG,rr,pl,_⟩:=I.tuple h2.2;simp only[dG];exact⟨a,aG,rfl,pl,hd _ _ _ _ e1 h3 rr⟩
   | .lst,e2,h2 =>
    cases e2;obtain⟨aG,rr,pl,_⟩:=I.list (kP.sq h2);simp only[dG];exact⟨a,aG,rfl,pl.isList,hd _ _ _ _ e1 h3 rr⟩
  unfold toT at e;split at e
  ·cases e;rw[dD.mp b]at r;cases r;simp[dG]
  ·cases e;rw[cf.mp b]at r;cases r;simp[dG]
  ·cases e;rw[aI.mp b]at r;obtain⟨t,rfl⟩:=r;simp[dG]
  ·cases e;rw[cZ.mp b]at r;obtain⟨t,rfl⟩:=r;simp[dG]
  ·cases e
  ·exact go e
end
def eY:Nat:=1000
def eqB(h:List aB)(p q:PV):Option Bool:=(toT h eY p).bind λx=>(toT h eY q).map λy=>eqT x y
def jv:G2:=λh p q=>(eqB h p q).map .bl
def A6:G2:=λh p q=>(eqB h p q).map λb=>.bl !b
noncomputable def pY:PV->Bool
 | .b9=>true
 | _=>false
def X9:G2:=λ_ p q=>match q with | .b9=>some (.bl (pY p)) | _=>none
def Ip(h:List aB)(p:PV)(ps:List PV):Option Bool:=(toT h eY p).bind λx=>(cL (toT h eY) ps).map λys=>ys.any λy=>eqT y x
section
variable {X:Cx}
def A7(e:eqB h p q=some b):∃x y,toT h eY p=some x/\toT h eY q=some y/\b=eqT x y:=by
 obtain⟨x,e1,e⟩:=bf e;obtain⟨y,e2,e3⟩:=bz e;exact⟨x,y,e1,e2,e3.symm⟩
def VN(hu:X.A.units+1150<cLine):yn X (compareOp .Eq) jv:=by
 rintro ae s σ H x y v u Q I rx ry ⟨aa,ab,F,st,τ,pa,pb,p,e,R,ba,bb,k⟩
 obtain⟨b,e',rfl⟩:=bz e;obtain⟨ta,tb,e1,e2,rfl⟩:=A7 e';have hd:=yu _ _ _ _ e1;exact(yr ta tb X.A v u (R.tree I _ _ _ _ _ e1 ba rx) (R.tree I _ _ _ _ _ e2 bb ry) (by unfold eY at hd;lia)).1 X.prog X.w X.xe _ ⟨.bl _,H,I,rfl,k _ H F R (Gr.refl F) (cf.mpr rfl)⟩
def VO(hu:X.A.units+1150<cLine):yn X (compareOp .NotEq) A6:=by
 rintro ae s σ H x y v u Q I rx ry ⟨aa,ab,F,st,τ,pa,pb,p,e,R,ba,bb,k⟩
 obtain⟨b,e',rfl⟩:=bz e;obtain⟨ta,tb,e1,e2,rfl⟩:=A7 e';have hd:=yu _ _ _ _ e1;exact(yr ta tb X.A v u (R.tree I _ _ _ _ _ e1 ba rx) (R.tree I _ _ _ _ _ e2 bb ry) (by unfold eY at hd;lia)).2 X.prog X.w X.xe _ ⟨.bl _,H,I,rfl,k _ H F R (Gr.refl F) (cf.mpr rfl)⟩
def PD{K:W.Frag}(b:bQ K F p x):decide (x=.b9)=pY p:=by
 cases p with
 | b9=>rw[dD.mp b];rfl
 | bl _=>rw[cf.mp b];rfl
 | int _=>rw[aI.mp b];rfl
 | str _=>rw[cZ.mp b];rfl
 | ref _=>obtain⟨_,_,rfl⟩:=d8.mp b;rfl
 | fn _=>obtain⟨_,rfl,_⟩:=tM.mp b;rfl
 | nd _ _=>obtain⟨_,_,rfl,_⟩:=jJ.mp b;rfl
def VP:yn X (compareOp .Is) X9:=by
 rintro ae s σ H x y v u Q I rx ry ⟨aa,ab,F,st,τ,pa,pb,p,e,R,ba,bb,k⟩
 unfold X9 at e;split at e
 ·cases e;exact U0 ae s σ H x y v u Q I rx ry ⟨dD.mp bb,k _ H F R (Gr.refl F) (cf.mpr (by rw[PD ba]))⟩
 ·cases e
open Classical in
noncomputable def m6 (s:Shared) (p:Tr) (u:Value):Bool:=if h:∃q,dG s q u then eqT h.choose p else false
def Gu(b:dG s q u):m6 s p u=eqT q p:=by
 have h:∃q,dG s q u:=⟨q,b⟩
 unfold m6;rw[dif_pos h,dG.inj h.choose_spec b]
theorem yv:∀{ts:List Tr} {us:List Value},cw s ts us->us.any (m6 s p)=ts.any λy=>eqT y p
 | [],_,b=>by simp only[cw]at b;subst b;rfl
 | q::ts,_,b=>by
  simp only[cw]at b;obtain⟨u,r,rfl,c1,d1⟩:=b;rw[gp,gp,Gu c1,yv d1]
theorem yw(bp:dG s p w):∀{ts:List Tr} {us:List Value},cw s ts us->A.units+lg ts<cLine->∀u∈us,SeqAt.EqAt A s u w (m6 s p u)
 | [],_,b,_=>λu hu=>by simp only[cw]at b;subst b;cases hu
 | q::ts,_,b,hz=>λu hu=>by
  simp only[cw]at b;obtain⟨u',r,rfl,c1,d1⟩:=b;simp only[lg]at hz;rcases aV.mp hu with rfl | hu
  ·rw[Gu c1];exact VM c1 bp (by lia)
  ·exact yw bp d1 (by lia) u hu
theorem Rep.trees{st:dq}(R:Rep X.K aa ab F st τ H)(I:Inv X ae σ H s)(n:Nat):∀(ps:List PV) (ts:List Tr) (vs:List V) (us:List Value),cL (toT st.h n) ps=some ts->aF X.K F ps vs->Vals vs us->cw s ts us/\lg ts<=n
 | [],ts,vs,us,z,b,r=>by cases z;rw[b.cU]at r;cases r;simp[cw,lg]
 | p::ps,ts,vs,us,z,b,r=>by
  obtain⟨y,q,h1,h2,rfl⟩:=gw z;obtain⟨v,w,rfl,b1,b2⟩:=b.cq;cases r with
  | cons ra rr =>
   obtain⟨h3,h4⟩:=R.trees I n ps q w _ h2 b2 rr;have:=yu _ _ _ _ h1;simp only[lg];exact⟨⟨_,_,rfl,R.tree I n p y v _ h1 b1 ra,h3⟩,by lia⟩
def LF(e:Ip h p ps=some b):∃x ys,toT h eY p=some x/\cL (toT h eY) ps=some ys/\b=ys.any λy=>eqT y x:=by
 obtain⟨x,e1,e⟩:=bf e;obtain⟨y,e2,e3⟩:=bz e;exact⟨x,y,e1,e2,e3.symm⟩
def LG(hu:X.A.units+1150<cLine){st:dq}(I:Inv X ae σ H s)(rx:RelV x v)(ry:RelV y u)(R:Rep X.K aa ab F st τ H)(ba:bQ X.K F pa x)(bb:bQ X.K F pb y)
  (es:Es st.h pb=some ps) (eb:Ip st.h pa ps=some b) :
  (Q (.bl b) H->wpAny (model X.prog X.w) X.A (compareOp .In v u) (EP X ae σ Q) X.xe s)/\(Q (.bl !b) H->wpAny (model X.prog X.w) X.A (compareOp .NotIn v u) (EP X ae σ Q) X.xe s):=by
 obtain⟨t,ts,e1,e2,rfl⟩:=LF eb;obtain⟨a,vs,rfl,hs,hb⟩:=R.seq es bb;have tp:=R.tree I _ _ _ _ _ e1 ba rx;cases ry;rcases hs with hs | hs
 ·obtain⟨aG,r,pl,_⟩:=I.tuple hs;obtain⟨h1,h2⟩:=R.trees I _ _ _ _ _ e2 hb r;have ml:=λw (hw:w∈aG.toArray)=>yw (A:=X.A.in1) tp h1 (by rw[xA];unfold eY at h2;lia) w (by grind)
  have ea:aG.toArray.any (m6 s t)=ts.any λy=>eqT y t:=by rw[show aG.toArray.any (m6 s t)=aG.any (m6 s t) by simp,yv h1]
  exact⟨λq=>SeqAt.in_tupleAt (m6 s t) pl ml ⟨.bl _,H,I,rfl,by grind⟩,λq=>SeqAt.notIn_tupleAt (m6 s t) pl ml ⟨.bl _,H,I,rfl,by grind⟩⟩
 ·obtain⟨aG,r,pl,_⟩:=I.list hs.sq;obtain⟨h1,h2⟩:=R.trees I _ _ _ _ _ e2 hb r;have ml:=λw (hw:w∈aG.toArray)=>yw (A:=X.A.in1) tp h1 (by rw[xA];unfold eY at h2;lia) w (by grind)
  have ea:aG.toArray.any (m6 s t)=ts.any λy=>eqT y t:=by rw[show aG.toArray.any (m6 s t)=aG.any (m6 s t) by simp,yv h1]
  exact⟨λq=>SeqAt.in_listAt (m6 s t) pl.isList ml ⟨.bl _,H,I,rfl,by grind⟩,λq=>SeqAt.notIn_listAt (m6 s t) pl.isList ml ⟨.bl _,H,I,rfl,by grind⟩⟩
end
section
variable {K:W.Frag} {F:Fz}
def aF.mh{ps:List PV}{vs:List V}{i:Int}{p:PV}(h:aF K F ps vs)(e:L2.mh ps i=some p):∃v,L2.mh vs i=some v/\bQ K F p v:=by
 unfold L2.mh at e ⊢;rw[<-h.length];cases z:O9 ps.length i with
 | none=>rw[z]at e;cases e
 | some j =>
  rw[z]at e;exact h.get e
def lj(xs:List PV)(lo hi:Option Int):List PV:=(xs.drop (HT.eZ xs.length 0 lo)).take (HT.eZ xs.length xs.length hi-HT.eZ xs.length 0 lo)
def aF.cut{ps:List PV}{vs:List V}(h:aF K F ps vs)(lo hi:Option Int):aF K F (lj ps lo hi) (AH vs lo hi):=by
 unfold lj AH;rw[h.length];exact(h.drop _).take _
def d9{p:PV}{vs:List V}(b:aF K F [p] vs):∃v,vs=[v]/\bQ K F p v:=by
 obtain⟨v,r,rfl,c,d⟩:=b.cq;rw[d.cU];exact⟨v,rfl,c⟩
def rj{p q:PV}{vs:List V}(b:aF K F [p,q] vs):∃v w,vs=[v,w]/\bQ K F p v/\bQ K F q w:=by
 obtain⟨v,r,rfl,c,d⟩:=b.cq;obtain⟨w,rfl,e⟩:=d9 d;exact⟨v,w,rfl,c,e⟩
end
def m7{prog:Program}{w:World}{A:Around}{E:Value->Shared->Prop}{s:Shared}{t sl:Addr}{aG:Array Value}{vl vu:Value}{lo hi:Option Int}{Q:Value->Shared->Prop}(ht:IsTup s.heap t aG)(hs:s.heap.IsSliceOf sl vl vu .none)(pl:IsPart vl lo)(pu:IsPart vu hi)
  (h0:HT.eZ aG.size 0 lo=0) (h1:HT.eZ aG.size aG.size hi=aG.size) (h:Q (.ref t) s):wpAny (model prog w) A (getItem (.ref t) (.ref sl)) Q E s:=by
 obtain⟨os,N4,O4,Y7⟩:=id hs;have hT:s.TypeIs (.ref sl) "slice":=⟨os,N4,O4⟩;unfold getItem
 try with_reducible refine eS ?_
 first | refine af (aj ?_) | skip
 refine af (wpAny_sequenceKey ht.typeIs (by decide) ?_)
 refine af (j8 ht.typeIs om (ig om ht.typeIs entry_tuple_getitem ?_ (args_tuple_getitem _ _)));show wpAny _ _ (Builtin.Tuple.tupleItemsOf (.ref t) >>= _) _ _ s;refine af (tupleItemsOf_ ht (af (oJ hT ?_)));refine af (HT.jr hs pl pu ?_);have hc:(((HT.eZ aG.size 0 lo:Nat):Int)==0&&(1:Int)==1&&(HT.eZ aG.size aG.size hi-HT.eZ aG.size 0 lo)==aG.size)=true:=by
  rw[h0,h1];simp
 show wpAny _ _ (if(((HT.eZ aG.size 0 lo:Nat):Int)==0&&1==1&&(HT.eZ aG.size aG.size hi-HT.eZ aG.size 0 lo)==aG.size)=true then _ else _) _ _ s
 rw[if_pos hc];unfold Builtin.Tuple.tupleIsExact;refine af (af (oJ ht.typeIs (aj ?_)));exact af (gu (aj ⟨_,rfl,aj h⟩))
def LH(h:List aB)(lo hi:Option Int)(p:PV):Option PV:=match cH h p with
 | some (.lst,ps)=>some (.lst (lj ps lo hi))
 | some (.ao,ps)=>some (.ao (lj ps lo hi))
 | _=>none
section
variable {X:Cx} {aa:Hp} {ab:Fz} {a b e:Expr} {es:List Expr} {fa fb:Gx PV} {ts:Gx (List PV)} {pos p1 p2:Pos} {lo hi:Option Expr}
def rSl(K:W.Frag):V->Option Int->Option Int->Hp->VK->Prop:=λx lo hi H Q=>∃aa ab F st τ pa p,LH st.h lo hi pa=some p/\Rep K aa ab F st τ H/\bQ K F pa x/\∀v H' F',Rep K aa ab F' st τ H'->Gr F F'->bQ K F' p v->Q v H'
def slT:SlR X (rSl X.K):=by
 rintro ae s σ H x v vl vu lo hi sl Q I rx hs pl pu ⟨aa,ab,F,st,τ,pa,p,e,R,ba,k⟩
 unfold LH at e;split at e
 ·rename_i z;cases e;obtain⟨a,vs,rfl,ha,jQ⟩:=R.at z ba;refine Pb ae s σ H _ v vl vu lo hi sl Q I rx hs pl pu ⟨a,vs,rfl,kP.sq ha,λq hq=>?_⟩
  obtain⟨R2,s2⟩:=R.laid (.lst (AH vs lo hi)) hq;exact k _ _ _ R2 s2 (gB.mpr ⟨q,_,rfl,kP.of aH,(jQ.cut lo hi).mono s2⟩)
 ·rename_i ps z;cases e;cases pa with
  | nd kk pp =>
   cases z;obtain⟨a,vs,rfl,ha,jQ⟩:=cS.mp ba;by_cases hw:HT.eZ vs.length 0 lo=0/\HT.eZ vs.length vs.length hi=vs.length
   ·cases rx;obtain⟨aG,r,ht,hz⟩:=I.tuple (bL R.sub ha);have eF:aG.toArray.size=vs.length:=by rw[fw];exact r.length.symm
    refine⟨"tuple",_,om.lookup,ht.typeIs,?_⟩;refine m7 ht hs pl pu (by grind) (by grind) ⟨.ref a,H,I,rfl,k _ H F R (Gr.refl F) ?_⟩
    have hc:lj ps lo hi=ps:=by
     unfold lj;rw[jQ.length,hw.1,hw.2,xK,Nat.sub_zero,<-jQ.length,List.take_length]
    rw[hc];exact ba
   ·refine U8 ae s σ H _ v vl vu lo hi sl Q I rx hs pl pu ⟨a,vs,rfl,bL R.sub ha,hw,λq hq=>?_⟩
    obtain⟨R2,s2⟩:=R.laid (.ao (AH vs lo hi)) hq;exact k _ _ _ R2 s2 (cS.mpr ⟨q,_,rfl,jm.of aH,(jQ.cut lo hi).mono s2⟩)
  | ref n =>
   obtain⟨c,e1,e2⟩:=bf z;obtain⟨hl,e3⟩:=aJ e2;have hk:c.k=.ao:=by grind
   unfold live at hl;rw[hk]at hl;cases hl
  | _=>cases z
 ·cases e
abbrev VQ(X:Cx)(aa:Hp)(ab:Fz)(f:Gx (Option Int)):TO:=tX X aa ab (λ_ a b=>a=b) f
def _root_.L2.PO.imp{X:Cx}{e:Option Expr}{t t':TO}(h:PO X e t)(hi:∀σ H Q,t' σ H Q->t σ H Q):PO X e t':=λae s σ H Q I hw=>h ae s σ H Q I (hi _ _ _ hw)
def m8:PV->Option Int | .int i=>some i | _=>none
def gy{p:PV}{i:Int}(h:m8 p=some i):p=.int i:=by
 cases p<;>first | (cases h;rfl) | cases h
def m9(fe:Gx PV):Gx (Option Int):=bnd fe λp=>lb ((m8 p).map some)
def VR:PO X none (VQ X aa ab (aN none)):=O6.imp λσ H Q h=>yp h λ_=>rfl
def VS(h:PE X e (tE X aa ab fa)):PO X (some e) (VQ X aa ab (m9 fa)):=(O7 h).imp λσ H Q ⟨F,st,R,h⟩=>⟨F,st,R,h.bnd λp v F1 bA H1 R1 g1 b1 h1=>by
 obtain⟨o,e,z⟩:=h1.lb;obtain⟨i,e1,rfl⟩:=bz e;rw[gy e1]at b1;exact⟨i,aI.mp b1,z _ H1 F1 R1 (Gr.refl _) rfl⟩⟩
def cutE(fa:Gx PV)(fl fh:Gx (Option Int)):Gx PV:=bnd fa λp=>bnd fl λl=>bnd fh λr=>hp λh=>LH h l r p
def ZS{fl fh:Gx (Option Int)}(ha:PE X e (tE X aa ab fa))(hl:PO X lo (VQ X aa ab fl))(hh:PO X hi (VQ X aa ab fh)):PE X (.Subscript e (.Slice lo hi none p2) pos) (tE X aa ab (cutE fa fl fh)):=(Lf slT ha hl hh).imp λσ H Q ⟨F,st,R,h⟩ =>
 ⟨F,st,R,h.bnd λp v F1 bA H1 R1 g1 b1 h1=>⟨F1,bA,R1,h1.bnd λl l' F2 st2 H2 R2 g2 b2 h2=>⟨F2,st2,R2,h2.bnd λr r' F3 vO H3 R3 g3 b3 h3=>by
  cases b2;cases b3;obtain⟨o,e,z⟩:=h3.hp;exact⟨aa,ab,F3,vO,σ,p,o,e,R3,b1.mono (g2.trans g3),z⟩⟩⟩⟩
abbrev GC:=List aB->List PV->Option PV
def rC(K:W.Frag)(g:GC):List V->Hp->VK->Prop:=λxs H Q=>∃aa ab F st τ ps p,g st.h ps=some p/\Rep K aa ab F st τ H/\aF K F ps xs/\∀v H' F',Rep K aa ab F' st τ H'->Gr F F'->bQ K F' p v->Q v H'
abbrev Iq(X:Cx)(f:Value)(g:GC):Prop:=mQ X f (rC X.K g)
def fX(g:GC)(ts:Gx (List PV)):Gx PV:=bnd ts λps=>hp λh=>g h ps
def kU{g:GC}{σ:St}{H:Hp}{Q:VK}(h:tE X aa ab (fX g ts) σ H Q):tCB (rC X.K g) (tA X aa ab ts) σ H Q:=by
 obtain⟨F,st,R,h⟩:=h;refine⟨F,st,R,h.bnd λps vs F1 bA H1 R1 g1 b1 h1=>?_⟩
 obtain⟨o,e,z⟩:=h1.hp;exact⟨aa,ab,F1,bA,σ,ps,o,e,R1,b1,z⟩
def ZT(h:List aB)(p:PV):Option Nat:=match cH h p with
 | some (.ao,ps)=>some ps.length
 | some (.lst,ps)=>some ps.length
 | some (.gU _ ks,_)=>some ks.length
 | _=>none
def fB:GC:=λh ps=>match ps with
 | [.str z]=>if z.length<=gF then some (.int z.length)else none
 | [p]=>(ZT h p).map λn=>.int n
 | _=>none
def Ir:GC:=λh ps=>match ps with
 | [.nd .ao qs]=>some (.ao qs)
 | [p]=>(A4 h p).map λqs=>.ao qs
 | _=>none
noncomputable def Iu:GC:=λ_ ps=>match ps with
 | [.int i]=>some (.int i)
 | [.bl b]=>some (.int (if b then 1 else 0))
 | _=>none
noncomputable def Iv:GC:=λ_ ps=>match ps with
 | [.int i]=>if 0<=i/\i<1000 then some (.str (toString i))else none
 | _=>none
def lF(ps:List PV):Option (List Int):=cL m8 ps
def Iw:GC:=λh ps=>match ps with
 | [p]=>(A4 h p).bind λqs=>(lF qs).map λns=>.int ns.sum
 | _=>none
def A8{A:Around}{E:Value->Shared->Prop}{s:Shared}{d:Addr}{o:Obj}{es:Array DictEntry}{ep n:Nat}{Q:Value->Shared->Prop}(hd:(d==sysModules)=false)(ho:s.heap.get? d=some o)(hc:o.ExactDict)(Eu:o.data=.dict es ep)(hn:es.size=n)(ah7:(n:Int)<2^63)
  (h:Q (.int n (s.toks+1)) {s with toks:=s.toks+1+1}):wpAny (model X.prog X.w) A (call (.builtin "len") [.ref d]) Q E s:=by
 have ty:s.TypeIs (.ref d) "dict":=⟨o,ho,hc.1⟩;have hm:MeetsIn X.prog X.w (Builtin.«dict.__len__» ⟨[.ref d],[]⟩) (λ_ R s'=>s'.heap.get? d=some o/\R (.ok (.ret (.int n s'.toks))) {s' with toks:=s'.toks+1}):=.of_wp <| by
  rintro A R s' ⟨oh,hR⟩
  show wpAny _ _ (dictSize d >>= _) _ _ s';refine af (af (wpAny_dictEntries oh Eu (aj ?_)));refine af (wpAny_pendingCount_other hd ?_);refine wpAny_ret_mkInt ?_;rw[oK,hn];exact hR
 refine Dq kind_len plain_len entry_len (args_len1 _) ?_;refine af (aj ?_);refine af (j8 ty F.slot_dict_len (call_meetsIn F.slot_dict_len ty F.entry_dict_len (F.args_dict_len_1 _) hm ⟨ho,?_⟩));show wpAny _ _ _ _ _ {s with toks:=s.toks+1}
 refine af (eS (aj ?_));refine af (wpAny_letGo ?_);show wpAny _ _ (if((n:Nat):Int)>=2^63 then _ else _) _ _ _
 rw[if_neg (by lia)]
 exact af (wpAny_mkInt (aj ⟨_,rfl,h⟩))
def Gv{n:Nat}(h:n<=sizeLine):(n:Int)<2^63:=by
 have h1:n<=2^62:=br h (by decide)
 have h62:2^62=4611686018427387904:=by decide
 lia
def PF{ae:List (Addr×Obj)}{s:Shared}{σ:St}{H:Hp}{a:Addr}{t:Bool}{ks:List (List bK)}{vs:List V}{us:List Value}{Q:VK}{F:Hp}(I:Inv X ae σ H s)(rs:Vals [V.ref a] us)(h:qz X.K F H a false (.gU t ks) vs)(q:Q (.int ks.length) H):wpAny (model X.prog X.w) X.A (call (.builtin "len") us) (λu s'=>∃v H',Inv X ae σ H' s'/\RelV v u/\Q v H') X.xe s:=by
 obtain⟨u,rfl,ru⟩:=jY rs;cases ru;cases t with
 | false =>
  obtain⟨kvs,h1,h2,h3⟩:=h;obtain⟨z,y,ws,hk,o,es,ep,g1,g2,g3,g4,g5,g6⟩:=(I.hok a _ h1);have hl:ks.length=kvs.length:=by grind
  have hn:es.size=ks.length:=by rw[hl,oI hk,<-g5.length,cY]
  exact A8 y g1 g2 g3 hn (Gv (by grind)) ⟨.int ks.length,H,I.tok _,⟨_,rfl⟩,q⟩
 | true =>
  obtain⟨xs,h1,_,h2,_⟩:=h;obtain⟨z,y,o,es,ep,g1,g2,g3,g4,g5⟩:=(I.hok a _ h1);have hl:ks.length=xs.length:=by grind
  exact A8 y g1 g2 g3 (by rw[<-cY,g4,aD,hl]) (Gv (by grind)) ⟨.int ks.length,H,I.tok _,⟨_,rfl⟩,q⟩
def Iy:Iq X (.builtin "len") fB:=by
 rintro ae s σ H xs us Q I rs ⟨aa,ab,F,st,τ,ps,p,e,R,bs,k⟩
 unfold fB at e;split at e
 ·obtain⟨hz,rfl⟩:=aJ e;obtain⟨v,rfl,b⟩:=d9 bs;rw[cZ.mp b]at rs;exact yf ae s σ H _ us Q I rs ⟨_,rfl,fV hz,k _ H F R (Gr.refl F) (aI.mpr rfl)⟩
 ·obtain⟨n,e1,rfl⟩:=bz e;obtain⟨v,rfl,b⟩:=d9 bs;unfold ZT at e1;split at e1
  ·rename_i z;cases e1;obtain⟨a,vs,rfl,ha,jQ⟩:=R.at z b;exact mV ae s σ H _ us Q I rs ⟨a,vs,rfl,.inr ha.2,k _ H F R (Gr.refl F) (aI.mpr (by rw[jQ.length]))⟩
  ·rename_i z;cases e1;obtain⟨a,vs,rfl,ha,jQ⟩:=R.at z b;exact mV ae s σ H _ us Q I rs ⟨a,vs,rfl,.inl (kP.sq ha),k _ H F R (Gr.refl F) (aI.mpr (by rw[jQ.length]))⟩
  ·rename_i z;cases e1;obtain⟨a,vs,rfl,ha,jQ⟩:=R.at z b;exact PF I rs ha (k _ H F R (Gr.refl F) (aI.mpr rfl))
  ·cases e1
 ·cases e
def Iz:Iq X (.type "tuple") Ir:=by
 rintro ae s σ H xs us Q I rs ⟨aa,ab,F,st,τ,ps,p,e,R,bs,k⟩
 unfold Ir at e;split at e
 ·cases e;obtain⟨v,rfl,b⟩:=d9 bs;obtain⟨a,vs,rfl,ha,jQ⟩:=cS.mp b;exact lA ae s σ H _ us Q I rs ⟨a,vs,rfl,.inr ⟨bL R.sub ha,k _ H F R (Gr.refl F) b⟩⟩
 ·obtain⟨qs,e1,rfl⟩:=bz e;obtain⟨v,rfl,b⟩:=d9 bs;obtain⟨a,vs,rfl,ha,jQ⟩:=R.at (hJ e1) b;refine lA ae s σ H _ us Q I rs ⟨a,vs,rfl,.inl ⟨kP.sq ha,λq hq=>?_⟩⟩
  obtain⟨R2,s2⟩:=R.laid (.ao vs) hq;exact k _ _ _ R2 s2 (cS.mpr ⟨q,_,rfl,jm.of aH,jQ.mono s2⟩)
 ·cases e
def IA:Iq X (.type "int") Iu:=by
 rintro ae s σ H xs us Q I rs ⟨aa,ab,F,st,τ,ps,p,e,R,bs,k⟩
 unfold Iu at e;split at e
 ·cases e;obtain⟨v,rfl,b⟩:=d9 bs;rw[aI.mp b]at rs;exact vP ae s σ H _ us Q I rs (.inl ⟨_,rfl,k _ H F R (Gr.refl F) (aI.mpr rfl)⟩)
 ·cases e;obtain⟨v,rfl,b⟩:=d9 bs;rw[cf.mp b]at rs;exact vP ae s σ H _ us Q I rs (.inr ⟨_,rfl,k _ H F R (Gr.refl F) (aI.mpr rfl)⟩)
 ·cases e
def IB:Iq X (.type "str") Iv:=by
 rintro ae s σ H xs us Q I rs ⟨aa,ab,F,st,τ,ps,p,e,R,bs,k⟩
 unfold Iv at e;split at e
 ·rename_i i;obtain⟨⟨h0,h1⟩,rfl⟩:=aJ e;obtain⟨v,rfl,b⟩:=d9 bs;rw[aI.mp b]at rs;exact ya ae s σ H _ us Q I rs ⟨i,rfl,(by
   by_cases h:i.natAbs=0
   ·simp_all
   ·exact iQ (Nat.log2_le_self _) (by lia)),k _ H F R (Gr.refl F) (cZ.mpr rfl)⟩
 ·cases e
theorem ng{K:W.Frag}{F:Fz}:∀{ps:List PV} {ns:List Int} {vs:List V},lF ps=some ns->aF K F ps vs->vs=ns.map V.int
 | [],ns,vs,h,b=>by cases h;exact b.cU
 | p::r,ns,vs,h,b=>by
  obtain⟨i,ms,h1,h2,rfl⟩:=gw h;obtain⟨v,vr,rfl,c,d⟩:=b.cq;rw[gy h1]at c;rw[aI.mp c,ng h2 d];rfl
def PH{ae:List (Addr×Obj)}{σ:St}{H:Hp}{s:Shared}{F:Fz}(I:Inv X ae σ H s){a:Addr}{vs:List V}{ps:List PV}{ns:List Int}(hn:lF ps=some ns)(ha:kP X.K H a vs)(jQ:aF X.K F ps vs) :
  ∃xs:Array (Int×Tok),s.heap.IsList a (intItems xs)/\ns=xs.toList.map (·.1):=by
 obtain⟨aG,r,pl,_⟩:=I.list ha.sq;have ev:=ng hn jQ;subst ev;have hi:=mf r;obtain⟨xs,ex⟩:=hi.allInts.items;exact⟨xs,by rw[<-ex];exact pl.isList,by rw[<-hi.numsOf,<-nums_intItems,<-ex]⟩
def IC(hc:X.A.handled=none):Iq X (.builtin "sum") Iw:=by
 rintro ae s σ H xs us Q I rs ⟨aa,ab,F,st,τ,ps,p,e,R,bs,k⟩
 unfold Iw at e;split at e
 ·obtain⟨qs,e1,e⟩:=bf e;obtain⟨ns,e2,rfl⟩:=bz e;obtain⟨v,rfl,b⟩:=d9 bs;obtain⟨a,vs,rfl,ha,jQ⟩:=R.at (hJ e1) b;obtain⟨xs,hl,hn⟩:=PH I e2 ha jQ;obtain⟨u,rfl,ru⟩:=jY rs;cases ru;refine sum_intListG hc hl λh' tk t' hk=>⟨.int ns.sum,H,I.kept hk,⟨t',?_⟩,k _ H F R (Gr.refl F) (aI.mpr rfl)⟩
  rw[preSum_eq,xg (by simp),hn]
 ·cases e
inductive Ty where
 | int | str | bool | tuple | list
noncomputable def Ty.nm:Ty->String
 | .int=>"int" | .str=>"str" | .bool=>"bool" | .tuple=>"tuple" | .list=>"list"
def ZU(h:List aB):PV->Option String
 | .b9=>some "NoneType"
 | .bl _=>some "bool"
 | .int _=>some "int"
 | .str _=>some "str"
 | p=>match cH h p with
  | some (.ao,_)=>some "tuple"
  | some (.lst,_)=>some "list"
  | _=>none
def VT(t:Ty)(y:String):Bool:=y==t.nm || (t.nm=="int"&&y=="bool")
def isV(t:Ty)(fa:Gx PV):Gx PV:=bnd fa λp=>hp λh=>(ZU h p).map λy=>.bl (VT t y)
def rIs(K:W.Frag)(t:Ty):List V->Hp->VK->Prop:=λxs H Q=>∃aa ab F st τ p x y,xs=[x,.ty t.nm]/\Rep K aa ab F st τ H/\bQ K F p x/\ZU st.h p=some y/\Q (.bl (VT t y)) H
def PJ(t:Ty):mQ X (.builtin "isinstance") (rIs X.K t):=by
 rintro ae s σ H xs us Q I rs ⟨aa,ab,F,st,τ,p,x,y,ex,R,b,ey,q⟩
 subst ex;obtain⟨u,w,rfl,ru,U9⟩:=So rs;cases U9;have fin:∀tk,EP X ae σ Q (.bool (VT t y)) {s with toks:=tk}:=λtk=>⟨.bl _,H,I.tok tk,rfl,q⟩
 have more:(match cH st.h p with
  | some (.ao,_)=>some "tuple"
  | some (.lst,_)=>some "list"
  | _=>none)=some y->wpAny (model X.prog X.w) X.A (call (.builtin "isinstance") [u,.type t.nm]) (EP X ae σ Q) X.xe s:=λey=>by
  split at ey
  ·rename_i z;cases ey;obtain⟨a,vs,rfl,h2,h3⟩:=R.at z b;cases ru;obtain⟨aG,_,⟨o,h1,h2,_⟩,_⟩:=I.tuple h2.2;exact W.kia_one W.kitx_tuple I.sX ⟨o,h1,h2⟩ (by cases t<;>kernel_rfl) (λz=>nomatch z) fin
  ·rename_i z;cases ey;obtain⟨a,vs,rfl,h2,h3⟩:=R.at z b;cases ru;obtain⟨aG,n,_,h1,_⟩:=I.Gn h2;exact W.kia_one W.kitx_list I.sX ⟨_,h1,rfl⟩ (by cases t<;>kernel_rfl) (λz=>nomatch z) fin
  ·cases ey
 cases p with
 | b9 =>
  cases ey;rw[dD.mp b]at ru;cases ru;exact W.kia_one W.kitx_none I.sX True.intro (by cases t<;>kernel_rfl) (λz=>nomatch z) fin
 | bl y =>
  cases ey;rw[cf.mp b]at ru;cases ru;exact W.kia_one W.kitx_bool I.sX True.intro (by cases t<;>kernel_rfl) (λz=>nomatch z) fin
 | int i =>
  cases ey;rw[aI.mp b]at ru;obtain⟨tk,rfl⟩:=ru;exact W.kia_one W.kitx_int I.sX True.intro (by cases t<;>kernel_rfl) (λz=>nomatch z) fin
 | str y =>
  cases ey;rw[cZ.mp b]at ru;obtain⟨tk,rfl⟩:=ru;exact W.kia_one W.kitx_str I.sX True.intro (by cases t<;>kernel_rfl) (λz=>nomatch z) fin
 | ref n=>exact more ey
 | fn x=>exact more ey
 | nd k ps=>exact more ey
def qH:bootBuiltins "isinstance"=some (.builtin "isinstance"):=by kernel_rfl
def nh(t:Ty):bootBuiltins (Str.ofString t.nm)=some (.type t.nm):=by cases t<;>kernel_rfl
noncomputable def tys:List Ty:=[.int,.str,.bool,.tuple,.list]
def Gw(x:Str):Option Ty:=tys.find? λt=>x==Str.ofString t.nm
def LI{x:Str}{t:Ty}(h:Gw x=some t):x=Str.ofString t.nm:=by
 have:=List.find?_some h;exact aY this
def aec{x:Str}{t:Ty}(ht:Gw x=some t)(hg:Gl X "isinstance")(hm:X.mg "isinstance"=none)(hg2:Gl X x)(hm2:X.mg x=none)(ha:PE X a (tE X aa ab fa))(hs:∀es,starEach (a::es) X.env=(false,eval a X.env)::starEach es X.env) :
  PE X (.Call (.Name "isinstance" p1) [a,.Name x p2] [] pos) (tE X aa ab (isV t fa)):=by
 have hx:=LI ht;subst hx;refine(mR (PJ t) hg hm qH (jN ha (jN (Oy (v:=.ty t.nm) hg2 hm2 (nh t) rfl (by cases t<;>decide) (by cases t<;>decide)) tf rfl) (hs _)) (by decide) (by decide) (hs _)).imp λσ H Q ⟨F,st,R,h⟩=>?_
 refine⟨F,st,R,h.bnd λp v F1 bA H1 R1 g1 b1 h1=>?_⟩
 obtain⟨o,e,z⟩:=h1.hp;obtain⟨y,e1,rfl⟩:=bz e;exact⟨aa,ab,F1,bA,σ,p,v,y,rfl,R1,b1,e1,z _ H1 F1 R1 (Gr.refl _) (cf.mpr rfl)⟩
def A9(fa:Gx PV):Gx PV:=bnd fa λp=>lb ((m8 p).map λi=>.int (-i))
def ZV(ha:PE X a (tE X aa ab fa)):PE X (.UnaryOp .USub a pos) (tE X aa ab (A9 fa)):=(YY UY ha).imp λσ H Q ⟨F,st,R,h⟩=>⟨F,st,R,h.bnd λp v F1 bA H1 R1 g1 b1 h1=>by
 obtain⟨o,e,z⟩:=h1.lb;obtain⟨i,e1,rfl⟩:=bz e;rw[gy e1]at b1;exact⟨i,aI.mp b1,z _ H1 F1 R1 (Gr.refl _) (aI.mpr rfl)⟩⟩
end
noncomputable def Ba:PV->Option bK
 | .int i=>some (.inl i)
 | .str x=>some (.inr x)
 | _=>none
def j0:Bool->PV->Option (List bK)
 | false,p=>(Ba p).map λk=>[k]
 | true,.nd .ao ps=>if ps.length<1000 then cL Ba ps else none
 | true,_=>none
noncomputable def ll(k:List bK)(ks:List (List bK)):Bool:=ks.any λj=>decide (j=k)
noncomputable def gR(k:List bK):List (List bK)->List PV->Option PV
 | j::ks,p::ps=>if j=k then some p else gR k ks ps
 | _,_=>none
noncomputable def Bb(k:List bK)(q:PV):List (List bK)->List PV->List PV
 | j::ks,p::ps=>(if j=k then q else p)::Bb k q ks ps
 | _,ps=>ps
def Bc:Bb k q [] ps=ps:=by cases ps<;>rfl
def qI(t:Bool)(k:List bK)(q:PV)(ks:List (List bK))(ps:List PV):aB:=if ll k ks=true then⟨.gU t ks,Bb k q ks ps⟩else⟨.gU t (ks++[k]),ps++[q]⟩
section
variable {K:W.Frag} {F:Fz}
def tZ(h:Ba p=some k)(b:bQ K F p v):v=kV k:=by
 cases p<;>cases h
 ·exact aI.mp b
 ·exact cZ.mp b
theorem wc:∀{ps:List PV} {ks:List bK} {vs:List V},cL Ba ps=some ks->aF K F ps vs->vs=ks.map kV
 | [],_,_,h,b=>by cases h;exact b.cU
 | _::_,_,_,h,b=>by
  obtain⟨k,r,h1,h2,rfl⟩:=gw h;obtain⟨v,w,rfl,b1,b2⟩:=b.cq;rw[tZ h1 b1,wc h2 b2];rfl
def kx(h:j0 false p=some k)(b:bQ K F p v):∃j,k=[j]/\v=kV j:=by
 obtain⟨j,e,rfl⟩:=bz h;exact⟨j,rfl,tZ e b⟩
def ni(h:j0 true p=some k)(b:bQ K F p v):∃c,v=.ref c/\jm K F.F c (k.map kV):=by
 unfold j0 at h;split at h
 ·grind
 ·obtain⟨_,h⟩:=bR h;obtain⟨c,vs,rfl,hs,hb⟩:=cS.mp b;rw[wc h hb]at hs;exact⟨c,rfl,hs⟩
 ·cases h
theorem oZ(j:bK):∀kvs:List (bK×V),ll [j] (kvs.map λy=>[y.1])=(j5 kvs j).isSome
 | []=>rfl
 | (i,v)::r=>by
  have ih:=oZ j r;unfold ll at ih ⊢;rw[aE,gp,ih];by_cases h:i=j
  ·subst h;rw[mX rfl];simp
  ·rw[mY h];simp[h]
theorem yx:∀{kvs:List (bK×V)} {ps:List PV} {p:PV},gR [j] (kvs.map λy=>[y.1]) ps=some p->aF K F ps (kvs.map (·.2))->∃v,j5 kvs j=some v/\bQ K F p v
 | [],_,_,h,_=>by cases h
 | (i,v)::r,[],_,h,_=>by cases h
 | (i,v)::r,q::ps,p,h,b=>by
  obtain⟨v',w,e,b1,b2⟩:=b.cq;cases e;have h:(if [i]=[j]then some q else gR [j] (r.map λy=>[y.1]) ps)=some p:=h
  by_cases hi:i=j
  ·subst hi;rw[if_pos rfl]at h;cases h;exact⟨v,mX rfl,b1⟩
  ·rw[if_neg (by grind)]at h
   rw[mY hi];exact yx h b2
def LJ(bq:bQ K F q v)(b:aF K F ps (kvs.map (·.2))) :
  ∃Af Di,qI false [j] q (kvs.map λy=>[y.1]) ps=⟨.gU false Af,Di⟩/\(putK kvs j v).map (λy=>[y.1])=Af/\aF K F Di ((putK kvs j v).map (·.2)):=by
 unfold qI putK;rw[oZ,tF];cases e:(j5 kvs j).isSome with
 | false=>exact⟨_,_,rfl,by simp,by simpa using b.append (.cons bq .nil)⟩
 | true =>
  refine⟨_,_,rfl,?_,?_⟩
  ·rw[if_pos rfl,b6];exact xj λy _=>by grind
  ·rw[if_pos rfl];clear e;induction kvs generalizing ps with
   | nil=>rw[oM,Bc];exact b
   | cons y r ih =>
    cases ps with
    | nil=>have:=b.length;simp at this
    | cons p ps =>
     obtain⟨v',w,e,b1,b2⟩:=b.cq;simp only[aE,DT]at e;obtain⟨rfl,rfl⟩:=e;have ih:=ih b2;by_cases hy:y.1=j
     ·simpa only[aE,Bb,hy,iZ]using aF.cons bq ih
     ·have:¬ [y.1]=[j]:=by grind
      simpa only[aE,Bb,hy,this,jH]using aF.cons b1 ih
def Ew(k:List bK)(xs:List (List bK×Addr×Value)):ll k (xs.map (·.1))=(atKey xs k).isSome:=(Il xs k).symm
theorem Gy:∀{xs:List (List bK×Addr×Value)} {ps:List PV} {vs:List V} {p:PV},gR k (xs.map (·.1)) ps=some p->aF K F ps vs->Vals vs (xs.map (·.2.2))->∃a r v,atKey xs k=some (a,r)/\RelV v r/\bQ K F p v
 | [],_,_,_,h,_,_=>by cases h
 | x::r,[],_,_,h,_,_=>by cases h
 | x::r,q::ps,vs,p,h,b,rv=>by
  obtain⟨v',w,rfl,b1,b2⟩:=b.cq;cases rv with
  | cons r1 r2 =>
   have h:(if x.1=k then some q else gR k (r.map (·.1)) ps)=some p:=h
   by_cases hi:x.1=k
   ·rw[if_pos hi]at h;cases h;exact⟨x.2.1,x.2.2,v',by simp[atKey,hi],r1,b1⟩
   ·rw[if_neg hi]at h;obtain⟨a,r',v,h1,h2,h3⟩:=Gy h b2 r2;exact⟨a,r',v,by unfold atKey at h1 ⊢;rw[sJ,iV hi];exact h1,h2,h3⟩
def VU(bq:bQ K F q v)(rq:RelV v r)(hc:jm K F.F c (k.map kV))(hk:gK K F.F xs)(b:aF K F ps vs)(rv:Vals vs (xs.map (·.2.2))) :
  ∃Af Di ym,qI true k q (xs.map (·.1)) ps=⟨.gU true Af,Di⟩/\(storedH xs k c r).map (·.1)=Af/\gK K F.F (storedH xs k c r)/\aF K F Di ym/\Vals ym ((storedH xs k c r).map (·.2.2)):=by
 unfold qI storedH;rw[Ew];cases e:(atKey xs k).isSome with
 | false =>
  refine⟨_,_,vs++[v],rfl,by simp,λx hx=>?_,b.append (.cons bq .nil),by simpa using rv.append (.cons rq .nil)⟩
  simp only[sx,jH,bD,bt]at hx;rcases hx with hx | rfl
  ·exact hk x hx
  ·exact hc
 | true =>
  simp only[iZ];have hm:(xs.map (putAt k r)).map (·.1)=xs.map (·.1):=by
   rw[b6];exact xj λy _=>by simp only[Function.comp,putAt];split<;>rfl
  have key:gK K F.F (xs.map (putAt k r)):=λx hx=>by
   obtain⟨y,hy,rfl⟩:=aA.mp hx;have:=hk y hy;unfold putAt;split<;>exact this
  suffices h:∃ym,aF K F (Bb k q (xs.map (·.1)) ps) ym/\Vals ym ((xs.map (putAt k r)).map (·.2.2)) by
   obtain⟨ym,h1,h2⟩:=h;exact⟨_,_,ym,rfl,hm,key,h1,h2⟩
  clear e hk hm key;induction xs generalizing ps vs with
  | nil=>exact⟨vs,by rw[oM,Bc];exact b,rv⟩
  | cons x xs ih =>
   cases ps with
   | nil=>rw[b.cU]at rv;cases rv
   | cons p ps =>
    obtain⟨v',w,rfl,b1,b2⟩:=b.cq;cases rv with
    | cons r1 r2 =>
     obtain⟨ym,h1,h2⟩:=ih b2 r2;by_cases hx:x.1=k
     ·exact⟨v::ym,by simpa only[aE,Bb,hx,iZ]using aF.cons bq h1,by simpa only[aE,putAt,hx,iZ]using Paired.cons rq h2⟩
     ·exact⟨v'::ym,by simpa only[aE,Bb,hx,jH]using aF.cons b1 h1,by simpa only[aE,putAt,hx,jH]using Paired.cons r1 h2⟩
end
def aZ:G2:=λh p q=>match p with
 | .str z=>(m8 q).bind λi=>if z.length<=gF then(mh z.cps.toList i).map λc=>.str ⟨#[c]⟩else none
 | p=>match cH h p with
  | some (.ao,ps)=>(m8 q).bind (mh ps)
  | some (.lst,ps)=>(m8 q).bind (mh ps)
  | some (.gU t ks,ps)=>(j0 t q).bind λk=>gR k ks ps
  | _=>none
section
variable {X:Cx} {aa:Hp} {ab:Fz} {a b e:Expr} {fa fb:Gx PV} {pos:Pos}
def ixT(hu:X.A.units+1150<cLine):X3 X (rT X.K aZ):=by
 rintro value slice ae s σ H x y v u Q I rx ry ⟨aa,ab,F,st,τ,pa,pb,p,e,R,ba,bb,k⟩ hs
 have more:(match cH st.h pa with
  | some (.ao,ps)=>(m8 pb).bind (mh ps)
  | some (.lst,ps)=>(m8 pb).bind (mh ps)
  | some (.gU t ks,ps)=>(j0 t pb).bind λk=>gR k ks ps
  | _=>none)=some p->wpAny (model X.prog X.w) X.A (subscriptTail value slice v u) (EP X ae σ Q) X.xe s:=λe=>by
  split at e
  ·rename_i z;obtain⟨i,e1,e2⟩:=bf e;rw[gy e1]at bb;rw[aI.mp bb]at ry;obtain⟨a,vs,rfl,ha,jQ⟩:=R.at z ba;obtain⟨w,hw,bw⟩:=jQ.mh e2;exact Va value slice ae s σ H _ _ v u Q I rx ry ⟨a,vs,_,w,rfl,rfl,ha.2,hw,k _ H F R (Gr.refl F) bw⟩ hs
  ·rename_i z;obtain⟨i,e1,e2⟩:=bf e;rw[gy e1]at bb;rw[aI.mp bb]at ry;obtain⟨a,vs,rfl,ha,jQ⟩:=R.at z ba;obtain⟨w,hw,bw⟩:=jQ.mh e2;exact Pa value slice ae s σ H _ _ v u Q I rx ry ⟨a,vs,_,w,rfl,rfl,kP.sq ha,hw,k _ H F R (Gr.refl F) bw⟩ hs
  ·rename_i t ks ps z;obtain⟨kk,e1,e2⟩:=bf e;obtain⟨a,vs,rfl,ha,jQ⟩:=R.at z ba;cases rx;cases t with
   | false =>
    obtain⟨kvs,g1,g2,g3⟩:=ha;obtain⟨j,rfl,rfl⟩:=kx e1 bb;subst g2 g3;obtain⟨w,hw,bw⟩:=yx e2 jQ;obtain⟨_,hd,us,ID,dd⟩:=Gi I.hok (.inl g1);have hr:=ID.val j;rw[hw]at hr;cases hv:valueAt us j with
    | none=>rw[hv]at hr;exact hr.elim
    | some u' =>
     rw[hv]at hr;exact tail_any dd.typeIs PySem.F.slot_dict_getitem.lookup (wpAny_getItem_of (tH ry) dd.mapOf hv ⟨w,H,I.tok _,hr,k _ H F R (Gr.refl F) bw⟩) hs
   | true =>
    obtain⟨xs,g1,g2,g3,g4⟩:=ha;obtain⟨c,rfl,hc⟩:=ni e1 bb;cases ry;subst g3;obtain⟨ad,r,w,hw,U9,bw⟩:=Gy e2 jQ g4;obtain⟨_,hd,dd⟩:=AX I (.inl g1) (λz hz=>bL R.sub (g2 z hz))
    obtain⟨o,_,_,ho,hx,_⟩:=id dd;refine tail_any ⟨o,ho,hx.1⟩ PySem.F.slot_dict_getitem.lookup (Zp (by lia) I (.inl g1) (λz hz=>bL R.sub (g2 z hz)) (bL R.sub hc) hw λs' I'=>⟨w,H,I',U9,k _ H F R (Gr.refl F) bw⟩) hs
  ·cases e
 cases pa with
 | str z =>
  obtain⟨i,e1,e2⟩:=bf e;rw[gy e1]at bb;obtain⟨hz,e2⟩:=bR e2;obtain⟨c,e3,rfl⟩:=bz e2;rw[cZ.mp ba]at rx;rw[aI.mp bb]at ry;exact Vb value slice ae s σ H _ _ v u Q I rx ry ⟨z,i,c,rfl,rfl,fV hz,e3,k _ H F R (Gr.refl F) (cZ.mpr rfl)⟩ hs
 | b9=>exact more e
 | bl _=>exact more e
 | int _=>exact more e
 | ref _=>exact more e
 | fn _=>exact more e
 | nd _ _=>exact more e
def aed(hu:X.A.units+1150<cLine)(ha:PE X a (tE X aa ab fa))(hb:PE X b (tE X aa ab fb))(hs:q8 b):PE X (.Subscript a b pos) (tE X aa ab (op2 aZ fa fb)):=(Sv (ixT hu) ha hb hs).imp λ_ _ _ h=>rh h
def mK(n:Bool):G2:=λh p q=>match cH h q with
 | some (.gU t ks,_)=>(j0 t p).map λk=>.bl (if n=true then !ll k ks else ll k ks)
 | _=>(Es h q).bind λqs=>(Ip h p qs).map λb=>.bl (if n=true then !b else b)
def VV(hu:X.A.units+1150<cLine):yn X (compareOp .In) (mK false):=by
 rintro ae s σ H x y v u Q I rx ry ⟨aa,ab,F,st,τ,pa,pb,p,e,R,ba,bb,k⟩
 unfold mK at e;split at e
 ·rename_i t ks ps z;obtain⟨kk,e1,rfl⟩:=bz e;obtain⟨a,vs,rfl,ha,jQ⟩:=R.at z bb;cases ry;cases t with
  | false =>
   obtain⟨kvs,g1,g2,g3⟩:=ha;obtain⟨j,rfl,rfl⟩:=kx e1 ba;obtain⟨_,hd,us,ID,dd⟩:=Gi I.hok (.inl g1);refine wpAny_in_of (tH rx) hd dd.mapOf ⟨.bl (j5 kvs j).isSome,H,I.tok _,?_,k _ H F R (Gr.refl F) (cf.mpr ?_)⟩
   ·rw[(ID.val j).vY];rfl
   ·rw[<-g2,oZ];rfl
  | true =>
   obtain⟨xs,g1,g2,g3,g4⟩:=ha;obtain⟨c,rfl,hc⟩:=ni e1 ba;cases rx;exact Zn (by lia) I (.inl g1) (λz hz=>bL R.sub (g2 z hz)) (bL R.sub hc) λs' I'=>⟨.bl _,H,I',rfl,k _ H F R (Gr.refl F) (cf.mpr (by rw[<-g3,Ew];rfl))⟩
 ·obtain⟨qs,e1,e⟩:=bf e;obtain⟨b,e2,rfl⟩:=bz e;exact(LG hu I rx ry R ba bb e1 e2).1 (k _ H F R (Gr.refl F) (cf.mpr rfl))
def IE(hu:X.A.units+1150<cLine):yn X (compareOp .NotIn) (mK true):=by
 rintro ae s σ H x y v u Q I rx ry ⟨aa,ab,F,st,τ,pa,pb,p,e,R,ba,bb,k⟩
 unfold mK at e;split at e
 ·rename_i t ks ps z;obtain⟨kk,e1,rfl⟩:=bz e;obtain⟨a,vs,rfl,ha,jQ⟩:=R.at z bb;cases ry;cases t with
  | false =>
   obtain⟨kvs,g1,g2,g3⟩:=ha;obtain⟨j,rfl,rfl⟩:=kx e1 ba;obtain⟨_,hd,us,ID,dd⟩:=Gi I.hok (.inl g1);refine wpAny_notIn_of (tH rx) hd dd.mapOf ⟨.bl (!(j5 kvs j).isSome),H,I.tok _,?_,k _ H F R (Gr.refl F) (cf.mpr ?_)⟩
   ·rw[(ID.val j).vY];rfl
   ·rw[<-g2,oZ];rfl
  | true =>
   obtain⟨xs,g1,g2,g3,g4⟩:=ha;obtain⟨c,rfl,hc⟩:=ni e1 ba;cases rx;exact Zo (by lia) I (.inl g1) (λz hz=>bL R.sub (g2 z hz)) (bL R.sub hc) λs' I'=>⟨.bl _,H,I',rfl,k _ H F R (Gr.refl F) (cf.mpr (by rw[<-g3,Ew];rfl))⟩
 ·obtain⟨qs,e1,e⟩:=bf e;obtain⟨b,e2,rfl⟩:=bz e;exact(LG hu I rx ry R ba bb e1 e2).2 (k _ H F R (Gr.refl F) (cf.mpr rfl))
end
def Ex:CmpOp->Option G2
 | .Eq=>some jv
 | .NotEq=>some A6
 | .Lt=>some Et
 | .LtE=>some VH
 | .GtE=>some VI
 | .Is=>some X9
 | .In=>some (mK false)
 | .NotIn=>some (mK true)
 | _=>none
def kW(hu:X.A.units+1150<cLine)(h:Ex op=some g):yn X (compareOp op) g:=by
 have nn:∀i j:Int,(λ_ _=>true) i j=true->(λ_ _=>True) i j:=by grind
 cases op<;>cases h
 ·exact VN hu
 ·exact VO hu
 ·exact gX (A5 YZ) nn λ_ _ _=>cf.mpr rfl
 ·exact gX (A5 Y0) nn λ_ _ _=>cf.mpr rfl
 ·exact gX (A5 Y1) nn λ_ _ _=>cf.mpr rfl
 ·exact VP
 ·exact VV hu
 ·exact IE hu
end L2.U
namespace L2
open PySem PySem.Spec PyProof.Rows
section
variable {X:Cx}
def LM:PE X (.Dict [] [] pos) (SD (.dK [])):=λae s σ H Q I h =>
 wpAny_Dict_empty ⟨.ref s.heap.objs.size,_,I.laid (o:=.dK []) (λ_ _ q=>bj _ q) (aq _)
  ⟨dm _,jF.mpr (dU (bG (tJ I))),[],.nil,Heap.DictOf.new s.heap⟩,rfl,h _ (I.hok.fresh (aq _))⟩
def ZW:V->List V->Hp->VK->Prop:=λx vs H Q=>∃a kvs k y,x=.ref a/\vs=[kV k,y]/\H a=some (.dK kvs)/\kvs.length<sizeLine/\(∀v,j5 kvs k=some v->Q v H)/\(j5 kvs k=none->Q y (c5 H a (.dK (kvs++[(k,y)]))))
def VW:MtR X "dict.setdefault" ZW:=by
 intro ae s σ H x xs v us Q I rx rv h;obtain⟨a,kvs,k,y,rfl,rfl,e,hl,h1,h2⟩:=h;cases rx;obtain⟨u1,u2,rfl,r1,r2⟩:=rv.two;obtain⟨z,hd,vs,ID,dd⟩:=SA I.hok e;refine call_meetsIn Kb dd.typeIs PySem.F.entry_dict_setdefault (PySem.F.args_dict_setdefault_3 _ _ _) (kt_meets_setdefault (dZ X.prog X.w) a (tH r1) hd u2) ⟨vs,dd,by rw[<-ID.length];exact z,λw hw=>?_,λhn h' Vo hs=>?_⟩
 ·have rk:=ID.val k;rw[hw]at rk;cases hv:j5 kvs k with
  | none=>rw[hv]at rk;exact rk.elim
  | some v0=>rw[hv]at rk;exact⟨v0,H,I.tok _,rk,h1 v0 hv⟩
 ·have rk:=ID.val k;rw[hn]at rk;have hv:j5 kvs k=none:=by
   cases hv:j5 kvs k with
   | none=>rfl
   | some v0=>rw[hv]at rk;exact rk.elim
  have PK:=ID.put k r2;rw[Lw y hv]at PK;have he:∃q,h'.get? a=some q:=let ⟨q,_,_,hq,_⟩:=Vo;⟨q,hq⟩
  exact⟨y,_,I.write (o:=.dK (kvs++[(k,y)])) (by rw[e];exact True.intro) (.inl rfl) (λc q' hc z=>(hs.2 c hc).trans z) he ⟨by rw[bJ];exact hl,hd,_,PK,Vo⟩,r2,h2 hv⟩
def Gz:V->List V->Hp->VK->Prop:=λx vs H Q=>∃(l:Addr) (xs:List V) (i:Int) (y:V),x=.ref l/\vs=[.int i,y]/\H l=some (.lst xs)/\xs.length<sizeLine/\0<=i/\i<=1000000/\Q .b9 (c5 H l (.lst (xs.take i.toNat++y::xs.drop i.toNat)))
def VX(h0:0<=i)(hi:i<=1000000):¬(!Builtin.List.listFitsIndex i)=true:=by
 unfold Builtin.List.listFitsIndex;have h1:decide (-(2^63:Int)<=i)=true:=by grind
 have h2:decide (i<2^63)=true:=by grind
 rw[h1,h2];simp
noncomputable def ZX(i:Int)(u:Value):Array Value->Array Value:=λxs=>have k:=if i<0 then(i+((xs.size:Nat):Int)).toNat else min i.toNat xs.size;(xs.extract 0 k).push u++xs.extract k
def PL(h0:0<=i)(aG:List Value)(u:Value):ZX i u aG.toArray=(aG.take i.toNat++u::aG.drop i.toNat).toArray:=by
 unfold ZX;have h1:¬i<0:=by lia
 simp only[h1,fw];apply Array.ext';simp only[List.extract_eq_drop_take];by_cases hb:i.toNat<=aG.length
 ·rw[Nat.min_eq_left hb];have h2:List.take (aG.length-i.toNat) (List.drop i.toNat aG)=List.drop i.toNat aG:=xg (by grind)
  simp[h2]
 ·grind
def IF:MtM X "list.insert" Gz:=by
 intro ae s σ H x vs v us Q I rx rv h;obtain⟨l,xs,i,y,rfl,rfl,hH,hz,h0,hi,q⟩:=h;cases rx;obtain⟨u1,u2,rfl,⟨t,rfl⟩,r2⟩:=rv.two;obtain⟨z,aG,n,r,hl,e⟩:=I.i8 hH;have vX:=r.length;have J:=I.Pc (t':=s.toks) hH e (PL h0 aG u2) ((r.take i.toNat).append (.cons r2 (r.drop i.toNat))) (by grind)
 exact l8 F.slot_list_insert ⟨_,e,rfl⟩ F.entry_list_insert (F.args_list_insert_3 _ _ _) (@PySem.AutoListH.list_insert_list_int_val_1 l aG.toArray n i t u2 (VX h0 hi) (by grind)) ⟨e,.b9,_,J,rfl,q⟩
def VY(K:W.Frag):V->List V->Hp->VK->Prop:=λx vs H Q=>∃l b xs zs,x=.ref l/\vs=[.ref b]/\H l=some (.lst xs)/\(jm K H b zs\/kP K H b zs)/\xs.length+zs.length<=sizeLine/\Q .b9 (c5 H l (.lst (xs++zs)))
def yy(l:Addr)(aG:Array Value)(n:Nat)(b:Addr)(more:Array Value)(n2:Nat)(dd:Option Addr)(sl:Array (Option Value))(h0:¬(!aG.isEmpty&&Builtin.List.listTooLong (aG.size+more.size))=true)(h1:aG.size<=sizeLine)(h2:aG.size+more.size<=sizeLine+1) :
  Meets (Builtin.«list.extend» ⟨[.ref l,.ref b],[]⟩) (λ_ R s=>s.heap.get? l=some {cls:=.type "list",dict:=none,data:=.seq aG n,slots:=#[]}/\s.heap.get? b=some {cls:=.type "tuple",dict:=dd,data:=.seq more n2,slots:=sl} /\
   R (.ok (.ret Value.none)) {s with heap:=s.heap.update l (Obj.mapSeq λx=>x++more),toks:=s.toks}) :=
 .of_wp λprog w A R s h=>by
  obtain⟨hp,g,d,tk,os⟩:=s;obtain⟨hl,hb,h⟩:=h;have f1:=AutoSeq1.idx_int;have f2:=AutoSeq1.sub_tuple_tuple;have f3:=AutoSeq1.sub_list_list;have f4:=AutoSeq1.sub_tuple_list;have f5:=AutoSeq1.sub_list_tuple
  wp_walk using (wpAny_updateSeq hl rfl (_hz':=(by rw[Array.size_append];exact h2))),j7 hl,j7 hb
  exact⟨_,rfl,h⟩
def VZ:MtM X "list.extend" (VY X.K):=by
 intro ae s σ H x vs v us Q I rx rv h;obtain⟨l,b,xs,zs,rfl,rfl,hH,hB,hz,q⟩:=h;cases rx;obtain⟨u,rfl,ru⟩:=rv.one;cases ru;obtain⟨z,aG,n,r,hl,e⟩:=I.i8 hH;have go:∀il,Vals zs il->(¬(!aG.toArray.isEmpty&&Builtin.List.listTooLong (aG.toArray.size+il.toArray.size))=true/\aG.toArray.size<=sizeLine/\aG.toArray.size+il.toArray.size<=sizeLine+1) /\
   EP X ae σ Q Value.none {s with heap:=s.heap.update l (Obj.mapSeq λx=>x++il.toArray),toks:=s.toks}:=λil r2=>by
  have N7:=r2.length;have hsz:aG.toArray.size+il.toArray.size<=sizeLine:=by grind
  refine⟨⟨?_,by grind,(eJ ‹_›)⟩,.b9,_,I.Pc hH e (by simp) (r.append r2) (by grind),rfl,q⟩
  rw[Lj hsz,Bool.and_false];exact dc
 rcases hB with hB | hB
 ·obtain⟨il,r2,⟨⟨cls,dd,dat,sl⟩,e2,hc,n2,hd⟩,_⟩:=I.tuple hB;simp only at hc hd;subst hc hd;obtain⟨⟨g1,g2,g3⟩,g4⟩:=go il r2;exact l8 F.slot_list_extend ⟨_,e,rfl⟩ F.entry_list_extend (F.args_list_extend_2 _ _) (yy l aG.toArray n b il.toArray n2 dd sl g1 g2 g3) ⟨e,e2,g4⟩
 ·obtain⟨il,n2,r2,e2,_⟩:=I.Gn hB;obtain⟨⟨g1,g2,g3⟩,g4⟩:=go il r2;exact l8 F.slot_list_extend ⟨_,e,rfl⟩ F.entry_list_extend (F.args_list_extend_2 _ _) (AutoSeq1.list_extend_list_list_0 l aG.toArray n b il.toArray n2 g1 g2 g3) ⟨e,e2,g4⟩
def GA(kvs:List (bK×V))(k:bK)(v:V):(putK kvs k v).length<=kvs.length+1:=by
 unfold putK;split
 ·grind
 ·grind
def ZY:KO:=λo i v H Q=>∃a kvs k,o=.ref a/\i=kV k/\H a=some (.dK kvs)/\kvs.length<sizeLine/\Q (c5 H a (.dK (putK kvs k v)))
def V0:KP X ZY:=by
 rintro ae s σ H o i v ov iv u Q I ro ri rv ⟨a,kvs,k,ex,ey,e1,e2,q⟩
 subst ex ey;cases ro;obtain⟨z,hd,vs,ID,dd⟩:=SA I.hok e1;refine wpAny_setItem_pairs (tH ri) dd (λh' Vo ZZ=>?_) (by rw[<-ID.length];exact z)
 have PK:=ID.put k rv;have he:∃q,h'.get? a=some q:=let ⟨q,_,_,hq,_⟩:=Vo;⟨q,hq⟩
 exact⟨_,I.write (o:=.dK (putK kvs k v)) (by rw[e1];exact True.intro) (.inl rfl) (λc q' hc z=>(ZZ.2 c hc).trans z) he ⟨by have:=GA kvs k v;lia,hd,_,PK,Vo⟩,q⟩
def Z0(K:W.Frag):KO:=λo i v H Q=>∃a b xs k,o=.ref a/\i=.ref b/\H a=some (.dT xs)/\gK K H xs/\jm K H b (k.map kV)/\xs.length<sizeLine/\∀r,RelV v r->Q (c5 H a (.dT (storedH xs k b r)))
def V1(hu:X.A.units+1<cLine):KP X (Z0 X.K):=by
 rintro ae s σ H o i v ov iv u Q I ro ri rv ⟨a,b,xs,k,ex,ey,e1,e2,e3,e4,q⟩
 subst ex ey;cases ro;cases ri;exact Vn hu I e1 e2 e3 e4 λs4 I4=>⟨_,I4,q u rv⟩
end
end L2
namespace L2.U
open PySem PySem.Spec PyProof.Rows
abbrev MG:=aB->List PV->Option (aB×PV)
def yz(h:List aB):PV->Option (Nat×aB)
 | .ref n=>(h[n]?).bind λc=>if live c=true then some (n,c)else none
 | _=>none
def kX(e:yz h p=some (n,c)):p=.ref n/\h[n]?=some c/\live c=true:=by
 cases p with
 | ref m =>
  obtain⟨d,e1,e2⟩:=bf e;obtain⟨hl,e3⟩:=aJ e2;cases e3;exact⟨rfl,e1,hl⟩
 | _=>cases e
def mq(g:MG)(p:PV)(as:List PV):Gx PV:=λst=>(yz st.h p).bind λc=>(g c.2 as).map λr=>(.ok r.2,⟨st.ρ,st.h.set c.1 r.1⟩)
section
variable {X:Cx} {aa H:Hp} {ab F:Fz} {st:dq} {σ:St}
def Ey(K:W.Frag)(r:V->List V->Hp->VK->Prop)(g:MG):Prop:=∀(aa H:Hp) (ab F:Fz) (st:dq) (σ:St) (n:Nat) (c c':aB) (a:Addr) (as:List PV) (ws:List V) (q:PV) (Q:VK),
 Rep K aa ab F st σ H->st.h[n]?=some c->live c=true->F.μ[n]?=some a->g c as=some (c',q)->aF K F as ws->(∀v F' H',Rep K aa ab F' ⟨st.ρ,st.h.set n c'⟩ σ H'->Gr F F'->bQ K F' q v->Q v H')->r (.ref a) ws H Q
def Rep.put(R:Rep X.K aa ab F st σ H){c d:aB}(hc:st.h[n]?=some c)(hl:live c=true)(ha:F.μ[n]?=some a)(hn:qz X.K F.F (c5 H a o) a true d.k vs)(hb:aF X.K F d.ps vs) :
  Rep X.K aa ab F ⟨st.ρ,st.h.set n d⟩ σ (c5 H a o):=⟨R.c.write hc hl ha hn hb,R.l⟩
noncomputable def i8(f:List PV->List PV->Option (List PV)):MG:=λc as=>match c.k with
 | .lst=>(f c.ps as).map λqs=>(⟨.lst,qs⟩,.b9)
 | _=>none
def yA
  (h:∀(H:Hp) (F:Fz) (ps as qs:List PV) (vs ws:List V) (a:Addr) (Q:VK) (h:List aB),cP F.F H->f ps as=some qs->H a=some (.lst vs)->aF X.K F ps vs->aF X.K F as ws->(∀ym,aF X.K F qs ym->Q .b9 (c5 H a (.lst ym)))->r (.ref a) ws H Q):Ey X.K r (i8 f):=by
 intro aa H ab F st σ n c c' a as ws q Q R hc hl ha hg hb k;unfold i8 at hg;split at hg
 ·rename_i hk;obtain⟨qs,e1,e2⟩:=bz hg;cases e2;obtain⟨_,vs,h2,h3⟩:=R.c.cell n c a hc ha hl;rw[hk]at h2;exact h H F c.ps as qs vs ws a Q st.h R.sub e1 h2 h3 hb λym b'=>k _ F _ (R.put hc hl ha aH b') (Gr.refl _) (dD.mpr rfl)
 ·cases hg
def Be:List PV->List PV->Option (List PV):=λps as=>match as with | [p]=>if ps.length<gF then some (ps++[p])else none | _=>none
def PM:Ey X.K Gf (i8 Be):=yA λH F ps as qs vs ws a Q h hs hf ha bp ba k=>by
 unfold Be at hf;split at hf
 ·obtain⟨hl,rfl⟩:=aJ hf;obtain⟨v,rfl,b⟩:=d9 ba;exact⟨a,vs,v,rfl,rfl,ha,by rw[<-bp.length];exact bW hl (fV (aq _)),k _ (bp.append ba)⟩
 ·cases hf
def PN:List PV->List PV->Option (List PV):=λps as=>match as with | []=>some ps.reverse | _=>none
def PQ:Ey X.K AI (i8 PN):=yA λH F ps as qs vs ws a Q h hs hf ha bp ba k=>by
 unfold PN at hf;split at hf
 ·cases hf;exact⟨a,vs,rfl,ba.cU,ha,k _ bp.reverse⟩
 ·cases hf
def LN:List PV->List PV->Option (List PV):=λps as=>match as with
 | [.int i,p]=>if(0<=i/\i<=1000000/\ps.length<gF)then some (ps.take i.toNat++p::ps.drop i.toNat)else none
 | _=>none
def PR:Ey X.K Gz (i8 LN):=yA λH F ps as qs vs ws a Q h hs hf ha bp ba k=>by
 unfold LN at hf;split at hf
 ·obtain⟨⟨h1,h2,h3⟩,rfl⟩:=aJ hf;obtain⟨w1,w2,rfl,b1,b2⟩:=rj ba;rw[aI.mp b1];exact⟨a,vs,_,w2,rfl,rfl,ha,bW (by rw[<-bp.length];exact h3) (fV (aq _)),h1,h2,k _ ((bp.take _).append (.cons b2 (bp.drop _)))⟩
 ·cases hf
def yB(p:PV)(as:List PV):Gx PV:=λst=>match as with
 | [q]=>(Es st.h q).bind λrs=>mq (i8 λps _=>if ps.length+rs.length<=gF then some (ps++rs)else none) p [] st
 | _=>none
def IG:MG:=λc as=>match c.k,as with
 | .gU false ks,[kp,y]=>(j0 false kp).bind λk=>if ks.length<gF then(if ll k ks=true then(gR k ks c.ps).map λp=>(c,p)else some (⟨.gU false (ks++[k]),c.ps++[y]⟩,y))else none
 | _,_=>none
def PU:Ey X.K ZW IG:=by
 intro aa H ab F st σ n c c' a as ws q Q R hc hl ha hg hb k;unfold IG at hg;split at hg
 ·rename_i ks kp y hk;obtain⟨kk,e1,e2⟩:=bf hg;obtain⟨hz,e2⟩:=bR e2;obtain⟨w1,w2,rfl,b1,b2⟩:=rj hb;obtain⟨j,rfl,rfl⟩:=kx e1 b1;obtain⟨_,vs,h2,h3⟩:=R.c.cell n c a hc ha hl;have Z1:=h2;rw[hk]at h2;obtain⟨kvs,g1,g2,g3⟩:=h2;rw[<-g3]at h3;refine⟨a,kvs,j,w2,rfl,rfl,g1,(by
   have:ks.length=kvs.length:=by grind
   exact bW (by grind) (fV (aq _))),λv hv=>?_,λhv=>?_⟩
  ·rw[if_pos (by rw[<-g2,oZ,hv];rfl)]at e2
   obtain⟨p,e3,e4⟩:=bz e2;cases e4;rw[<-g2]at e3;obtain⟨v',hv',bv⟩:=yx e3 h3;rw[hv]at hv';cases hv';have e:st.h.set n c=st.h:=by
    apply List.ext_getElem?;intro i;by_cases hi:n=i
    ·grind
    ·grind
   rw[e]at k;exact k v F H R (Gr.refl _) bv
  ·rw[if_neg (by rw[<-g2,oZ,hv];simp)]at e2
   cases e2;refine k w2 F _ (R.put (vs:=kvs.map (·.2)++[w2]) hc hl ha ⟨kvs++[(j,w2)],aH,by grind⟩ ?_) (Gr.refl _) b2
   exact h3.append (.cons b2 .nil)
 ·cases hg
def Tx.mut(hg:Ey X.K r g)(h:Tx X aa ab (bQ X.K) F st (mq g p as) σ Q)(R:Rep X.K aa ab F st σ H)(bp:bQ X.K F p v)(ba:aF X.K F as ws):r v ws H Q:=by
 obtain⟨q,h1,h2⟩:=h;obtain⟨⟨n,c⟩,e1,e2⟩:=bf h1;obtain⟨⟨c',x⟩,e3,e4⟩:=bz e2;subst e4;obtain⟨rfl,hc,hl⟩:=kX e1;obtain⟨a,ha,rfl⟩:=d8.mp bp;exact hg aa H ab F st σ n c c' a as ws x Q R hc hl ha e3 ba λv F' H' R' g' b'=>h2 v H' F' R' g' b'
def Tx.ext{Q:VK}(h:Tx X aa ab (bQ X.K) F st (yB p as) σ Q)(R:Rep X.K aa ab F st σ H)(bp:bQ X.K F p v)(ba:aF X.K F as ws):VY X.K v ws H Q:=by
 obtain⟨x,h1,h2⟩:=h;unfold yB at h1;split at h1
 ·rename_i q;obtain⟨rs,e0,h1⟩:=bf h1;obtain⟨w,rfl,bw⟩:=d9 ba;obtain⟨b,zs,rfl,hs,hb⟩:=R.seq e0 bw;obtain⟨⟨n,c⟩,e1,e2⟩:=bf h1;obtain⟨⟨c',y⟩,e3,e4⟩:=bz e2;subst e4;obtain⟨rfl,hc,hl⟩:=kX e1;obtain⟨a,ha,rfl⟩:=d8.mp bp;unfold i8 at e3;split at e3
  ·rename_i hk;obtain⟨qs,e5,e6⟩:=bz e3;cases e6;obtain⟨hz,rfl⟩:=aJ e5;obtain⟨_,vs,g2,g3⟩:=R.c.cell n c a hc ha hl;rw[hk]at g2;exact⟨a,b,vs,zs,rfl,rfl,g2,hs,by rw[<-g3.length,<-hb.length];exact fV hz,h2 .b9 _ F (R.put hc hl ha aH (g3.append hb)) (Gr.refl _) (dD.mpr rfl)⟩
  ·cases e3
 ·cases h1
end
section
variable {prog:Program} {w:World} {A:Around} {R:Result->Shared->Prop} {s:Shared}
abbrev nb(prog:Program)(w:World)(A:Around)(env:Env)(R:Result->Shared->Prop):Value->Shared->Prop:=notedBy (model prog w) A env λe s'=>R (.error e) s'
noncomputable abbrev GB(ifs:List Expr)(env:Env):Sem Bool:=forIn ifs true λc r=>if r=true then do let ok <-isTrue c env (eval c env);pure (ForInStep.yield ok)else pure (ForInStep.yield r)
def IH(I:Nat->Shared->Prop)
  (mP:∀n s,I n s->wpAny (model prog w) A (pyNext it) (λr s1=>match r with
   | none=>R (.ok .next) s1
   | some v=>wpAny (model prog w) A (letOwnedTupleGo tg it v) (λ_ Z2=>wpAny (model prog w) A (assign tg env v) (λ_ s2=>wpAny (model prog w) A (GB ifs env) (λok s3 =>
      if ok=true then wpAny (model prog w) A (eval elt env) (λx s4=>wpAny (model prog w) A (call (.builtin "list.append") [acc,x]) (λ_ s5=>∃m,m<n/\I m s5) (nb prog w A env R) s4) (nb prog w A env R) s3
      else ∃m,m<n/\I m s3) (nb prog w A env R) s2) (nb prog w A env R) Z2) (nb prog w A env R) s1) (nb prog w A env R) s)
  (n:Nat) (h:I n s):codeAny (model prog w) A (.compLoop (.ListComp elt [⟨tg,iter,ifs,0⟩] scope pos) 0 it acc env) R s:=by
 refine codeAny_loop rfl I (λn s hI=>?_) n h
 refine wpAny_noted ?_;rw[compTurn_list];refine af (wpAny_standAt (af (thn (mP n s hI) λr s1 h1=>?_)))
 cases r with
 | none=>exact aj h1
 | some v =>
  refine af (thn h1 λ_ Z2 h1'=>af (thn h1' λ_ s2 h2=>af (thn h2 λok s3 h3=>?_)))
  cases ok with
  | false=>exact aj ⟨rfl,h3⟩
  | true=>exact af (af (thn h3 λx s4 h4=>af (thn h4 λ_ s5 h5=>aj (aj ⟨rfl,h5⟩))))
end
noncomputable def kz(env:Env):List (Str×NameKind)->List (Str×Addr)->List (Str×Addr)
 | [],cs=>cs
 | (n,k)::r,cs=>kz env r (if k==.free then(match env.cells.lookup n with | some c=>(n,c)::cs | none=>cs)else cs)
def t7(h:∀y∈scope.names,y.2=.free->∃c,env.cells.lookup y.1=some c):closureFor scope env=pure (kz env scope.names []):=by
 have all:∀(l:List (Str×NameKind)) (cs:List (Str×Addr)),(∀y∈l,y.2=.free->∃c,env.cells.lookup y.1=some c) ->
   (forIn l cs λx r=>(match x with | (name,kind)=>if(kind==NameKind.free)=true then do let a <-cellOf env name;pure (ForInStep.yield ((name,a)::r))else pure (ForInStep.yield r):Sem (ForInStep (List (Str×Addr)))))=pure (kz env l cs):=by
  intro l;induction l with
  | nil=>intro cs _;rfl
  | cons y l ih =>
   intro cs hl;obtain⟨n,k⟩:=y;rw[List.forIn_cons];by_cases hk:k=.free
   ·subst hk;obtain⟨c,hc⟩:=hl (n,.free) bg rfl;have J1:=hc;have e1:cellOf env n=pure c:=by unfold cellOf;rw[J1]
    simp only[e1,kz,J1];exact ih _ λy hy=>hl y (aU _ hy)
   ·have hb:(k==NameKind.free)=false:=by simpa using hk
    simp only[hb,kz];exact ih _ λy hy=>hl y (aU _ hy)
 unfold closureFor;have:=all scope.names [] h;simp only[bind_pure]at this ⊢;exact this
theorem Bf:∀(l:List (Str×NameKind)) (cs:List (Str×Addr)) (p:Str×Addr),p∈kz env l cs->p∈cs\/env.cells.lookup p.1=some p.2
 | [],_,_,h=>.inl h
 | (n,k)::r,cs,p,h=>by
  unfold kz at h;rcases Bf r _ p h with q | q
  ·grind
  ·grind
def cb(h:(kz env l []).lookup x=some c):env.cells.lookup x=some c:=by
 rcases Bf l [] (x,c) (eK h)with q | q
 ·cases q
 ·exact q
theorem we:∀(l:List (Str×NameKind)) (cs:List (Str×Addr)),(∃c,(x,c)∈cs)->∃c,(x,c)∈kz env l cs
 | [],_,h=>h
 | (n,k)::r,cs,⟨c,h⟩=>by
  unfold kz;refine we r _ ⟨c,?_⟩;split
  ·grind
  ·exact h
theorem kA:∀(l:List (Str×NameKind)) (cs:List (Str×Addr)),(x,NameKind.free)∈l->(∃c,env.cells.lookup x=some c)->∃c,(x,c)∈kz env l cs
 | [],_,h,_=>by cases h
 | (n,k)::r,cs,h,hc=>by
  unfold kz;rcases aV.mp h with z | z
  ·cases z;obtain⟨c,e⟩:=hc;refine we r _ ⟨c,?_⟩;simp[e]
  ·exact kA r _ z hc
theorem jc:∀{l:List (Str×Addr)},(x,c)∈l->∃c',l.lookup x=some c'
 | [],h=>by cases h
 | (n,d)::r,h=>by
  rw[kc];cases hx:x==n with
  | true=>exact⟨d,rfl⟩
  | false =>
   rcases aV.mp h with z | z
   ·grind
   ·exact jc z
def cO(X:Cx)(N:List Str)(scope:Scope)(C:Addr)(s:Shared)(H:Hp)(fp:List Addr):Cx where
 prog:=X.prog
 w:=X.w
 K:=X.K
 mg:=X.mg
 base:=X.base
 A:=X.A
 N:=N
 s₀:=s
 aa:=H
 env:=compEnvC scope (kz X.env scope.names []) C X.env
 ay:=X.stack
 stack:=X.stack
 ex:=fp
 fn:=λ_=>false
 calm:=X.calm
 pn:=[]
 xe:=λ_ _=>False
theorem ir{env:Env}:∀(names:List (Str×NameKind)) (x:Str),(names.map fun(n,k)=>if(k==NameKind.free&&env.scope.kind==.function&&env.kindOf n==some .cell)then(n,NameKind.cell)else(n,k)).lookup x =
  (names.lookup x).map λk=>if(k==NameKind.free&&env.scope.kind==.function&&env.kindOf x==some .cell)then NameKind.cell else k
 | [],_=>rfl
 | (n,j)::r,x=>by
  have e:(if(j==NameKind.free&&env.scope.kind==.function&&env.kindOf n==some .cell)=true then(n,NameKind.cell)else(n,j))=(n,if(j==NameKind.free&&env.scope.kind==.function&&env.kindOf n==some .cell)=true then NameKind.cell else j):=by split<;>rfl
  show List.lookup x ((if(j==NameKind.free&&env.scope.kind==.function&&env.kindOf n==some .cell)=true then(n,NameKind.cell)else(n,j))::_)=_
  rw[e,kc,kc];cases hx:x==n with
  | true =>
   have Er:=aY hx;subst Er;rfl
  | false=>exact ir r x
def nj{env:Env}{names:List (Str×NameKind)}(h:(names.map fun(n,k)=>if(k==NameKind.free&&env.scope.kind==.function&&env.kindOf n==some .cell)then(n,NameKind.cell)else(n,k)).lookup x=some k) :
  names.lookup x=some k\/(k=.cell/\names.lookup x=some .free):=by
 rw[ir]at h;cases z:names.lookup x with
 | none=>rw[z]at h;cases h
 | some j =>
  rw[z]at h;have h:(if(j==NameKind.free&&env.scope.kind==.function&&env.kindOf x==some .cell)=true then NameKind.cell else j)=k:=by grind
  split at h
  ·grind
  ·grind
def yC{env:Env}{names:List (Str×NameKind)}(h:names.lookup x=some .free) :
  (names.map fun(n,k)=>if(k==NameKind.free&&env.scope.kind==.function&&env.kindOf n==some .cell)then(n,NameKind.cell)else(n,k)).lookup x=some .cell \/
  (names.map fun(n,k)=>if(k==NameKind.free&&env.scope.kind==.function&&env.kindOf n==some .cell)then(n,NameKind.cell)else(n,k)).lookup x=some .free:=by
 rw[ir,h];show some (if _ then _ else _)=_\/some (if _ then _ else _)=_
 split
 ·grind
 ·grind
structure jw (X:Cx) (N:List Str) (link:List (Option Nat)) (scope:Scope):Prop where
 kind:scope.kind=.function
 cell:∀y∈scope.names,y.2≠.cell
 names:∀y∈scope.names,y.2=.local->scope.names.lookup y.1=some .local
 free:∀y∈scope.names,y.2=.free->(X.env.kindOf y.1=some .cell\/X.env.kindOf y.1=some .free)
 len:link.length=N.length
 link:∀(i j:Nat) (x:Str),link[i]?=some (some j)->N[i]?=some x->X.N[j]?=some x/\scope.names.lookup x=some .free
noncomputable def gS(link:List (Option Nat))(σ:St):St:=link.map λo=>o.bind λj=>(σ[j]?).join
section
variable {X:Cx} {ae:List (Addr×Obj)} {σ:St} {H:Hp} {s:Shared}
def Inv.adopt(I:Inv X ae σ H s)(hn:H D=none)(h1:X.s₀.heap.objs.size<=D)(h2:D≠X.env.locals)(h3:∀x c,X.env.cells.lookup x=some c->c≠D)(h4:∀p∈X.pn++ae,p.1≠D)
  (ho:gj X.prog X.w (c5 H D o) s.heap D o):Inv X ae σ (c5 H D o) s:=by
 have ne:∀b u,H b=some u->b≠D:=λb u e z=>by rw[z,hn]at e;cases e
 refine I.step (ch:=[D]) (λb hb=>?_) (λb u _ _ _ e _=>e) (λb u _ _ _ e _=>⟨u.slots,e⟩) (λb u hc _ n=>?_) (λb u _ e=>⟨u,e⟩)
  (λb xs e=>by rw[aR (ne b _ e)];exact e) (λb u xs e=>by rw[aR (ne b _ e)];exact e) (λb ps e=>by rw[aR (ne b _ e)];exact e) (λm hm=>hm) (λb u e=>?_) I.bare
 ·have e:b=D:=by simpa using hb
  subst e;exact⟨.inr h1,h2,h3,h4⟩
 ·rw[aR (λz=>hc (by simp[z]))];exact n
 ·by_cases hb:b=D
  ·subst hb;rw[aH]at e;cases e;exact ho
  ·rw[aR hb]at e;exact(I.hok b u e).xV (λ_ _ _ q=>q) (λc q=>by rw[aR (ne c _ q)];exact q) (λc xs q=>by rw[aR (ne c _ q)];exact q) λc ob v q=>by rw[aR (ne c _ q)];exact q
def Ez{N:List Str}{link:List (Option Nat)}(S:jw X N link scope)(I:Inv X ae σ H s)(hfp:∀b∈fp,xZ X ae H b)
  (hC:s.heap.objs.size<=C) (ns:h.Ns C λ_=>none) (hk:∀b o,s.heap.get? b=some o->h.get? b=some o) (hex:∀b∈fp,∃o,s.heap.get? b=some o) :
  Inv (cO X N scope C s H fp) [] (gS link σ) H {s with heap:=h,toks:=tk}:=by
 have Az:∀y∈scope.names,y.2=.free->∃c,X.env.cells.lookup y.1=some c:=λy hy hf=>I.ok.has y.1 (S.free y hy hf)
 have aef:∀x c,X.env.cells.lookup x=some c->c<s.heap.objs.size:=λx c e=>let ⟨v,o,ho,_⟩:=I.cell x c e;aW ho
 refine⟨⟨I.ok.mod,S.kind,I.ok.glob,I.ok.blt,hC,λx y c h1 h2=>I.ok.inj x y c (cb h1) (cb h2),λx hx=>?_,λx c hx=>(by cases hx),I.ok.hd,I.ok.frames,.inl rfl,λb hb=>⟨?_,λx c e=>(hfp b hb).2.2.2.2.1 x c (cb e)⟩,I.bs,br I.ok.bsz I.sz,
  λb o e hb=>?_,λb hb z=>?_,I.stack,I.xX,I.tabs⟩,rfl,I.bare,Un.kept hk,⟨_,ns,λi x v e1 e2 e3=>?_⟩,λx c e=>?_,I.hok.fresh hC,λx c e=>I.freeC x c (cb e),λp hp=>(by cases hp),I.hok.kept hk,by unfold gS;rw[aD];exact S.len⟩
 ·-- Oi cells are there
  have Er:=hx;have hf:scope.names.lookup x=some .free:=by
   rcases Er with h1 | h1
   ·rcases nj h1 with q | ⟨_,q⟩
    ·exact absurd rfl (S.cell _ (eK q))
    ·exact q
   ·rcases nj h1 with q | ⟨z,_⟩
    ·exact q
    ·cases z
  have hm:=eK hf;obtain⟨c,hc⟩:=kA scope.names [] hm (Az _ hm rfl);exact jc hc
 ·intro z;obtain⟨o,ho⟩:=hex b hb;exact absurd (bW (aW ho) (br hC (gJ z.symm))) (gI _)
 ·rcases(hfp b hb).2.2.2.1 with z | z
  ·exact I.ok.noex b o e z
  ·exact absurd (bW (aW e) (br I.ok.bsz z)) (gI _)
 ·rcases aV.mp (I.xW b z)with q | q
  ·exact(hfp b hb).2.1 q
  ·exact(hfp b hb).2.2.1 q
 ·-- a slot: afZ aif from Oi aeg
  have hi:i<link.length:=by
   have:=(cz.mp e2).1;unfold gS at this
   rwa [aD]at this
  unfold gS at e2;rw[bZ,bU hi]at e2;have e2:=cC e2;cases z:link[i]with
  | none=>rw[z]at e2;cases e2
  | some j =>
   rw[z]at e2;have e2:(σ[j]?).join=some v:=e2;obtain⟨hX,hf⟩:=S.link i j x (by rw[bU hi,z]) e1
   have hm:=eK hf;have hk2:=S.free _ hm rfl;obtain⟨m,hn,hl⟩:=I.loc;obtain⟨u,r,l⟩:=hl j x v hX (by
    cases q:σ[j]? with
    | none=>rw[q]at e2;cases e2
    | some q'=>rw[q]at e2;cases q' with
     | none=>cases e2
     | some v'=>cases e2;rfl) (by rcases hk2 with q | q;exact .inr (.inl q);exact .inr (.inr q))
   refine⟨u,r,.inr ⟨yC hf,?_⟩⟩;obtain⟨c,hc⟩:=kA scope.names [] hm (Az _ hm rfl);obtain⟨c',J1⟩:=jc hc;refine⟨c',J1,?_⟩;rcases l with⟨lk,_⟩ | ⟨_,d,hd,kn⟩
   ·rcases hk2 with q | q<;>(rw[show X.env.kindOf x=some .local from lk]at q;cases q)
   ·have:=cb J1;rw[hd]at this;cases this;exact kn.keeps hk
 ·obtain⟨v,o,ho,hd⟩:=I.cell x c (cb e);exact⟨v,o,hk _ _ ho,hd⟩
end
abbrev TB:=V->St->Hp->(Option V->St->Hp->Prop)->Prop
def PB(X:Cx)(tg:Expr)(ifs:List Expr)(elt:Expr)(tb:TB):Prop :=
 ∀(ae:List (Addr×Obj)) (s:Shared) (σ:St) (H:Hp) (v:V) (u:Value) (Q:Option V->St->Hp->Prop),Inv X ae σ H s->RelV v u->tb v σ H Q ->
  wpAny (model X.prog X.w) X.A (assign tg X.env u) (λ_ s2=>wpAny (model X.prog X.w) X.A (GB ifs X.env) (λok s3 =>
   if ok=true then wpAny (model X.prog X.w) X.A (eval elt X.env) (λy s4=>∃v' bM H',Inv X ae bM H' s4/\RelV v' y/\Q (some v') bM H') X.xe s3
   else ∃bM H',Inv X ae bM H' s3/\Q none bM H') X.xe s2) X.xe s
def LO(hg:PG X tg g)(he:PE X elt te):PB X tg [] elt (λv σ H Q=>g v σ H λjL H1=>te jL H1 λy H2=>Q (some y) jL H2):=by
 intro ae s σ H v u Q I r h;refine thn (hg ae s σ H v u _ I r h) λ_ s2 ⟨jL,H1,I1,q1⟩=>aj ?_
 rw[if_pos rfl];exact thn (he ae s2 jL H1 _ I1 q1) (by rintro y s4 ⟨v',H2,I2,r2,q2⟩;exact⟨v',jL,H2,I2,r2,q2⟩)
def PX(hg:PG X tg g)(hc:PT X c tc)(he:PE X elt te) :
  PB X tg [c] elt (λv σ H Q=>g v σ H λjL H1=>tc jL H1 λb H2=>if b=true then te jL H2 λy H3=>Q (some y) jL H3 else Q none jL H2):=by
 intro ae s σ H v u Q I r h;refine thn (hg ae s σ H v u _ I r h) λ_ s2 ⟨jL,H1,I1,q1⟩=>?_
 refine wpAny_tests_one (thn (hc ae s2 jL H1 _ I1 q1) λb s3 ⟨H2,I2,q2⟩=>?_)
 cases b with
 | true =>
  rw[if_pos rfl]at q2 ⊢;exact thn (he ae s3 jL H2 _ I2 q2) (by rintro y s4 ⟨v',H3,I3,r3,q3⟩;exact⟨v',jL,H3,I3,r3,q3⟩)
 | false =>
  rw[if_neg dc]at q2 ⊢;exact⟨jL,H2,I2,q2⟩
def wj(link:List (Option Nat))(wi:TI)(tb:TB):TE:=λσ H Q=>wi σ H λJ H1=>∃W:Nat->Nat->List V->St->Hp->Prop,(∃m,W 0 m [] (gS link σ) H1)/\∀i m acc bM H',W i m acc bM H' ->
 (J.stop i H'/\acc.length<=sizeLine/\∀D,H' D=none->Q (.ref D) (c5 H' D (.lst acc))) \/
 (J.go i H'/\acc.length<sizeLine/\∀x H2,J.yld i H' x H2->tb x bM H2 λo qC H3=>∃m',m'<m/\W (i+1) m' (acc++o.toList) qC H3)
structure aeh (X:Cx) (ae:List (Addr×Obj)) (H:Hp) (C:Addr):Prop where
 free:H C=none
 above:X.s₀.heap.objs.size<=C
 loc:C≠X.env.locals
 cell:∀x c,X.env.cells.lookup x=some c->c≠C
 pin:∀p∈X.pn++ae,p.1≠C
def wm(hc:X.calm=true)(S:jw X N link scope)(hi:PI X tg iter wi)
  (hb:∀(C:Addr) (s:Shared) (H:Hp) (fp:List Addr),PB (cO X N scope C s H fp) tg ifs elt tb) (hs:∀x,foldedSetIterable iter X.env x=pure x) (I:Inv X ae σ H s) (h:wj link wi tb σ H Q)
  (aei:∀(s5:Shared) (D C:Addr) (H5:Hp) (m:Str->Option Value),Inv X ae σ H5 s5->Q (.ref D) H5->s5.heap.Ns C m->aeh X ae H5 C->compPost (model X.prog X.w) X.A X.xe use Q' (.ref D) C (.ok .next) s5) :
  wpAny (model X.prog X.w) X.A (comprehension (.ListComp elt [⟨tg,iter,ifs,0⟩] scope pos) scope X.env vi (newList []) false (eval iter X.env) use) Q' X.xe s:=by
 have Az:∀y∈scope.names,y.2=.free->∃c,X.env.cells.lookup y.1=some c:=λy hy hf=>I.ok.has y.1 (S.free y hy hf)
 refine wpAny_comprehension_free rfl hs (t7 Az) S.kind S.names (thn (hi ae s σ H _ I h) λv s1 h1=>thn h1 λitv s2 h2=>?_)
 obtain⟨it,fp,tn,J,H2,rfl,I2,T,st2,f2,W,⟨m0,w0⟩,mP⟩:=h2;refine iS (wpAny_newFunctionEnv S.cell (by grind) (λIm ns sb=>?_) S.kind)
 dsimp only at ns sb ⊢
 generalize hD:s2.heap.push {cls:=.type "list",dict:=none,data:=.seq [].toArray}=HD at ns sb ⊢
 have hC:HD.objs.size=s2.heap.objs.size+1:=by rw[<-hD,oH]
 have hDC:s2.heap.objs.size≠HD.objs.size:=by grind
 have LP:s2.heap.objs.size<=HD.objs.size:=by grind
 have old:∀b o,s2.heap.get? b=some o->Im.get? b=some o:=λb o e=>by
  have fL:=aW e;exact sb.extBut b o (bG (bW fL LP)) (bj _ (by rw[<-hD];exact bj _ e))
 have aej:Im.get? s2.heap.objs.size=some {cls:=.type "list",data:=.seq [].toArray} :=
  sb.extBut _ _ hDC (bj _ (by rw[<-hD];exact cJ _ rfl))
 generalize eD:s2.heap.objs.size=D at *
 generalize eC:HD.objs.size=C at *
 have exO:∀b∈fp,∃o,s2.heap.get? b=some o:=λb k9=>let ⟨o,e,_⟩:=T.obj _ _ st2 b k9;⟨o,e⟩
 have I3:∀tk,Inv (cO X N scope C s2 H2 fp) [] (gS link σ) H2 {s2 with heap:=Im,toks:=tk}:=λtk =>
  Ez S I2 f2 (by rw[eD];exact LP) ns old exO
 have fpD:∀b∈fp,b≠D:=λb k9 z=>by
  obtain⟨o,e⟩:=exO b k9;have:=aW e;rw[z,<-eD]at this;exact gI _ this
 have D3:∀{H':Hp} {pl:List (Addr×Obj)},(∀b∈fp,H' b=none)->(∀p∈pl,p.1=D)->∀b∈fp,xZ (cO X N scope C s2 H2 fp) pl H' b:=λ{H' pl} hn hp b k9=>by
  have K0:=(I3 0).ok.exf b k9;exact⟨hn b k9,K0.1,(I3 0).ok.exfs b k9,.inl k9,K0.2,λp El z=>fpD b k9 (z▸hp p (by simpa[cO]using El))⟩
 have Z3:∀x c,(cO X N scope C s2 H2 fp).env.cells.lookup x=some c->c≠D:=λx c e z=>by
  obtain⟨v,o,ho,_⟩:=I2.cell x c (cb e);have:=aW ho;rw[z,<-eD]at this;exact gI _ this
 have fsD:D∉(cO X N scope C s2 H2 fp).fs:=λz=>by
  obtain⟨_,o,ho,_⟩:=I2.stack.mem z;have:=aW ho;rw[<-eD]at this;exact gI _ this
 have loop:∀s3:Shared,s3={s2 with heap:=Im,toks:=s2.toks+([]:List (Str×Value)).length} ->
   codeAny (model X.prog X.w) X.A (.compLoop (.ListComp elt [⟨tg,iter,ifs,0⟩] scope pos) 0 (.ref it) (.ref D) (cO X N scope C s2 H2 fp).env) (compPost (model X.prog X.w) X.A X.xe use Q' (.ref D) C) s3:=by
  rintro s3 rfl
  refine IH (λn s'=>∃i acc bM H' aG nn,Inv (cO X N scope C s2 H2 fp) [] bM H' s'/\tn i s'.heap/\(∀b∈fp,H' b=none)/\H' D=none/\s'.heap.get? D=some {cls:=.type "list",data:=.seq aG.toArray nn}/\Vals acc aG/\W i n acc bM H') ?_ m0
   ⟨0,[],_,H2,[],0,I3 _,T.keep _ _ _ st2 λb k9 o e=>old b o e,λb k9=>(f2 b k9).1,I2.hok.fresh (gJ eD),aej,.nil,w0⟩
  rintro n s4 ⟨i,acc,SK,H4,aG,nn,I4,kR,fr4,hD4,Lk,hv,w4⟩
  have Z4:Inv (cO X N scope C s2 H2 fp) [(D,{cls:=.type "list",data:=.seq aG.toArray nn})] SK H4 s4:=I4.mN λp hp=>by
   have e:p=(D,{cls:=.type "list",data:=.seq aG.toArray nn}):=by simpa using hp
   subst e;exact⟨Lk,hD4,hDC,fsD,λv=>by simp⟩
  have LQ:∀p∈[(D,({cls:=.type "list",data:=.seq aG.toArray nn}:Obj))],p.1=D:=λp hp=>by
   have e:p=(D,{cls:=.type "list",data:=.seq aG.toArray nn}):=by simpa using hp
   rw[e]
  rcases mP i n acc SK H4 w4 with⟨stop,hz,q⟩ | ⟨go,hz,step⟩
  ·refine thn (T.done (cO X N scope C s2 H2 fp) rfl rfl rfl hc i _ s4 SK H4 _ Z4 (D3 fr4 LQ) kR stop) λr s5 ⟨hr,I5⟩=>?_
   subst hr;obtain⟨m,hn,_⟩:=I5.loc;have pD:=I5.pin (D,{cls:=.type "list",data:=.seq aG.toArray nn}) (dO _ (bt.mpr rfl))
   have lt2:∀b o,s2.heap.get? b=some o->b≠D/\b≠C:=λb o e=>by
    have:=aW e;rw[eD]at this;exact⟨bG this,bG (bW this LP)⟩
   have SN:X.env.locals≠D/\X.env.locals≠C:=by
    have:=I2.lt;rw[eD]at this;exact⟨bG this,bG (bW this LP)⟩
   have I6:=I2.Sk I5.os I5.base I5.hok I5.bare λb k9=>⟨(f2 b k9).2.2.2.1,(f2 b k9).2.1,(f2 b k9).2.2.2.2.1,(f2 b k9).2.2.2.2.2⟩
   have I7:=Inv.adopt (o:=.lst acc) I6 pD.2.1 (br I2.sz (gJ eD)) (dU SN.1) (λx c e=>let ⟨v,o,ho,_⟩:=I2.cell x c e;(lt2 c o ho).1)
    (λp hp=>(lt2 p.1 p.2 (I2.pin p hp).1).1) ⟨hz,aG,nn,hv,pD.1⟩
   exact aei s5 D C _ m I7 (q D pD.2.1) hn ⟨by rw[aR (dU hDC)];exact I5.free,br (br I2.sz (gJ eD)) LP,dU SN.2,λx c e=>let ⟨v,o,ho,_⟩:=I2.cell x c e;(lt2 c o ho).2,λp hp=>(lt2 p.1 p.2 (I2.pin p hp).1).2⟩
  ·refine thn (T.item (cO X N scope C s2 H2 fp) rfl rfl rfl hc i _ s4 SK H4 _ Z4 (D3 fr4 LQ) kR go) λr s5 ⟨u,hr,h5⟩=>?_
   subst hr;refine thn h5 λ_ s5' z9=>?_
   obtain⟨x,H5,I5,r5,y5,UO,fr5⟩:=z9;have I5':=I5.pinned (D3 fr5 LQ) (T.obj _ _ UO);have fin:∀{o:Option V} {σ6:St} {H6:Hp} {s6:Shared},Inv (cO X N scope C s2 H2 fp) ([(D,{cls:=.type "list",data:=.seq aG.toArray nn})]++sZ fp s5'.heap) σ6 H6 s6 ->
     tn (i+1) s6.heap/\(∀b∈fp,H6 b=none)/\H6 D=none/\s6.heap.get? D=some {cls:=.type "list",data:=.seq aG.toArray nn}:=λ{o σ6 H6 s6} I6=>by
    have pD:=I6.pin (D,_) (dO _ (gG _ (bt.mpr rfl)));refine⟨T.keep _ _ _ UO λb k9 o e=>(I6.pin (b,o) (dO _ (dO _ (jM k9 e)))).1,λb k9=>?_,pD.2.1,pD.1⟩
    obtain⟨o,e,d⟩:=T.obj _ _ UO b k9;exact(I6.pin (b,o) (dO _ (dO _ (jM k9 e)))).2.1
   refine kl (hb C s2 H2 fp _ s5' SK H5 x u _ I5' r5 (step x H5 y5)) (λ_ s6 h6=>kl h6 (λok s7 h7=>?_) λ_ _ z=>False.elim z) λ_ _ z=>False.elim z
   cases ok with
   | false =>
    rw[if_neg dc]at h7 ⊢;obtain⟨σ8,H8,I8,m',hm',w8⟩:=h7;obtain⟨a1,a2,a3,a4⟩:=fin (o:=none) I8;exact⟨m',hm',i+1,_,σ8,H8,aG,nn,I8.mN (λp hp=>by cases hp),a1,a2,a3,a4,by simpa using hv,w8⟩
   | true =>
    rw[if_pos rfl]at h7 ⊢;refine kl h7 (λy s8 z9=>?_) λ_ _ z=>False.elim z
    obtain⟨v8,σ8,H8,I8,r8,m',hm',w8⟩:=z9;obtain⟨a1,a2,a3,a4⟩:=fin (o:=some v8) I8;have hl:=hv.length;refine l8 F.slot_list_append ⟨_,a4,rfl⟩ F.entry_list_append (F.args_list_append_2 _ _) (PySem.list_append D aG.toArray nn y (by rw[fw];lia)) ⟨a4,?_⟩
    have I9:Inv (cO X N scope C s2 H2 fp) [] σ8 H8 s8:=I8.mN (λp hp=>by cases hp)
    have qq:=PySem.IsL.update a4 λz=>z.push y
    have hp:aG.toArray.push y=(aG++[y]).toArray:=by simp
    rw[hp]at qq;refine⟨m',hm',i+1,_,σ8,H8,aG++[y],_,I9.turned (λb o hne e=>(xh _ _ (dU hne)).trans e) a3 hDC (.inr (gJ eD)) Z3 (λp hp=>by simp[cO]at hp),T.keep _ _ _ a1 λb k9 o e=>(xh _ _ (dU (fpD b k9))).trans e,a2,a3,qq,hv.append (.cons r8 .nil),w8⟩
 exact codeAny_compStart_list (loop _ rfl) (T.self _ 0 _ _ _ (T.keep _ _ _ st2 λb k9 o e=>old b o e) (loop _ rfl))
def GD(hc:X.calm=true)(S:jw X N link scope)(hi:PI X tg iter wi)
  (hb:∀(C:Addr) (s:Shared) (H:Hp) (fp:List Addr),PB (cO X N scope C s H fp) tg ifs elt tb) (hs:∀x,foldedSetIterable iter X.env x=pure x:=by intro _;rfl) :
  PE X (.ListComp elt [⟨tg,iter,ifs,0⟩] scope pos) (wj link wi tb):=by
 intro ae s σ H Q I h;rw[eval_ListComp];refine wm hc S hi hb hs I h λs5 D C H5 m I5 q hn L=>⟨m,hn,λh' sb=>?_⟩
 exact⟨.ref D,H5,I5.turned (λb o hne e=>(sb.2 b hne).trans e) L.free L.loc (.inr L.above) L.cell L.pin,rfl,q⟩
def GF(hc:X.calm=true)(hN:X.N.Nodup)(hx:X.N[i]?=some x)(hl:X.env.scope.names.lookup x=some .local)(S:jw X N link scope)(hi:PI X tg iter wi)
  (hb:∀(C:Addr) (s:Shared) (H:Hp) (fp:List Addr),PB (cO X N scope C s H fp) tg ifs elt tb) (hw:swapsWith (.ListComp elt [⟨tg,iter,ifs,0⟩] scope pos) (some (.Name x vi)) II.line X.env=pure true) (hs:∀x,foldedSetIterable iter X.env x=pure x:=by intro _;rfl) :
  PS X (.Assign [.Name x vi] (.ListComp elt [⟨tg,iter,ifs,0⟩] scope pos) II) (OI (wj link wi tb) (gName i)):=by
 intro ae s σ H D I h;rw[exec_Assign_Name_used _ _ _ _ hw];refine af (wpAny_standAt (af ?_));refine af (thn (wm hc S hi hb hs I h λs5 a C H5 m I5 q hn L=>?_) λ_ s' q=>aj (aj q))
 refine wpAny_assign_Name (store_ok2 (v:=.ref a) I5 hN hx (.inl hl) rfl (λs6 I6 k=>?_) (.inr hl))
 refine⟨m,?_,λh' sb=>?_⟩
 ·obtain⟨o,es,ep,ho,r⟩:=hn;obtain⟨b,sb1,hor⟩:=k;have ne:C≠b:=λz=>by
   rcases hor with w | w
   ·exact L.loc (z.trans w)
   ·exact L.cell x b w z.symm
  exact⟨o,es,ep,(sb1.2 C ne).trans ho,r⟩
 ·exact⟨_,H5,I6.turned (λb o hne e=>(sb.2 b hne).trans e) L.free L.loc (.inr L.above) L.cell L.pin,q⟩
noncomputable def bE(link:List (Option Nat))(ρ:List (Option PV)):List (Option PV):=link.map λo=>o.bind λj=>(ρ[j]?).join
def KG(L:List Nat)(g:Tg):Prop:=∀p st bA,g p st=some bA->bA.ρ.length=st.ρ.length/\∀j:Nat,j∉L->bA.ρ[j]?=st.ρ[j]?
def Z5(L:List Nat)(g:X8):Prop:=∀p st bA,g p st=some bA->bA.ρ.length=st.ρ.length/\∀j:Nat,j∉L->bA.ρ[j]?=st.ρ[j]?
def PY(i:Nat):KG [i] (aX i):=λp st bA h=>by
 obtain⟨_,rfl⟩:=aJ h;exact⟨xE,λj hj=>oy (λz=>hj (by simp[z]))⟩
def PZ:Z5 [] tP:=λp st bA h=>by
 cases p with
 | nil=>cases h;exact⟨rfl,λ_ _=>rfl⟩
 | cons _ _=>cases h
def LR(h1:KG L g)(h2:Z5 M r):Z5 (L++M) (dM g r):=λp st bA h=>by
 cases p with
 | nil=>cases h
 | cons p ps =>
  obtain⟨st2,e1,e2⟩:=bf h;obtain⟨l1,k1⟩:=h1 p st st2 e1;obtain⟨l2,k2⟩:=h2 ps st2 bA e2;exact⟨l2.trans l1,λj hj=>(k2 j λz=>hj (dO _ z)).trans (k1 j λz=>hj (gG _ z))⟩
def V2(h:Z5 L r):KG L (gW n r):=λp st bA e=>by
 unfold gW at e;split at e
 ·obtain⟨_,e⟩:=bR e;exact h _ st bA e
 ·cases e
section
variable {K:W.Frag} {F:Fz} {ρ:List (Option PV)} {σ:St}
def Lc.gS(L:Lc K F ρ σ)(link:List (Option Nat)):Lc K F (bE link ρ) (gS link σ) where
 av:=λi p e=>by
  unfold bE at e;rw[bZ]at e;cases z:link[i]? with
  | none=>rw[z]at e;cases e
  | some o =>
   rw[z]at e;cases o with
   | none=>cases e
   | some j =>
    have e:(ρ[j]?).join=some p:=cC e;cases w:ρ[j]? with
    | none=>rw[w]at e;cases e
    | some q =>
     rw[w]at e;cases e;obtain⟨v,h1,h2⟩:=L.av j p w;refine⟨v,?_,h2⟩;unfold L2.U.gS;rw[bZ,z];show some ((σ[j]?).join)=_;rw[h1];rfl
 len:=by unfold bE L2.U.gS;rw[aD,aD]
def Lc.back{L:List Nat}(R:Lc K F Ag σ)(hl:P0.length=σ.length)(h0:P0=bE link ρ)(hk:∀j:Nat,j∉L->Ag[j]?=P0[j]?)(hL:∀i∈L,link[i]?=some none):Lc K F P0 σ where
 av:=λi p e=>by
  refine R.av i p ?_;rw[hk i λhi=>?_]
  ·exact e
  ·rw[h0]at e;unfold bE at e;rw[bZ,hL i hi]at e;cases e
 len:=hl
end
noncomputable def okR{α:Type}:Rs α×dq->Option (α×List aB)
 | (.ok a,st)=>some (a,st.h)
 | _=>none
abbrev Bd:=List (Option PV)->PV->List aB->Option (Option PV×List aB)
def lq(g:Tg)(fe:Gx PV):Bd:=λρ p h=>(g p ⟨ρ,h⟩).bind λbA=>(fe bA).bind λr=>(okR r).map λx=>(some x.1,x.2)
def nk(g:Tg)(ft:Gx Bool)(fe:Gx PV):Bd:=λρ p h=>(g p ⟨ρ,h⟩).bind λbA=>(ft bA).bind λr=>match r with
 | (.ok b,st2)=>if b=true then(fe st2).bind λr=>(okR r).map λx=>(some x.1,x.2)else some (none,st2.h)
 | _=>none
noncomputable def fH(bd:PV->List aB->Option (Option PV×List aB)):List PV->List aB->Option (List PV×List aB)
 | [],h=>some ([],h)
 | p::ps,h=>(bd p h).bind λr=>(fH bd ps r.2).map λs=>(r.1.toList++s.1,s.2)
section
variable {X:Cx} {aa:Hp} {ab:Fz} {N:List Str} {link:List (Option Nat)} {scope:Scope} {tg iter elt c:Expr} {pos:Pos} {fi:Gx (List PV)} {g:Tg} {fe:Gx PV} {ft:Gx Bool} {L:List Nat} {cl:Bool}
def Bg(e:okR r=some (a,h)):∃st,r=(.ok a,st)/\st.h=h:=by
 obtain⟨r,st⟩:=r;cases r with
 | ok x=>cases e;exact⟨st,rfl,rfl⟩
 | ex m C=>cases e
def _root_.L2.U.PB.imp(h:PB Y tg ifs elt tb)(i:∀v σ H Q,tb' v σ H Q->tb v σ H Q):PB Y tg ifs elt tb':=λae s σ H v u Q I r w=>h ae s σ H v u Q I r (i _ _ _ _ w)
def tb1(X:Cx)(aa:Hp)(ab:Fz)(g:Tg)(fe:Gx PV):TB:=λv σ H Q=>tG X.K aa ab g v σ H λjL H1=>∀Y:Cx,Y.K=X.K->tE Y aa ab fe jL H1 λy H2=>Q (some y) jL H2
def tb2(X:Cx)(aa:Hp)(ab:Fz)(g:Tg)(ft:Gx Bool)(fe:Gx PV):TB:=λv σ H Q=>tG X.K aa ab g v σ H λjL H1=>∀Y:Cx,Y.K=X.K->tT Y aa ab ft jL H1 λt H2=>if t=true then tE Y aa ab fe jL H2 λy H3=>Q (some y) jL H3 else Q none jL H2
section
variable (ht:∀(C:Addr) (s:Shared) (H:Hp) (fp:List Addr),PG (cO X N scope C s H fp) tg (tG X.K aa ab g)) (he:∀(C:Addr) (s:Shared) (H:Hp) (fp:List Addr),PE (cO X N scope C s H fp) elt (tE (cO X N scope C s H fp) aa ab fe))
include ht he
def pb1(C:Addr)(s:Shared)(H:Hp)(fp:List Addr):PB (cO X N scope C s H fp) tg [] elt (tb1 X aa ab g fe) :=
 (LO (ht C s H fp) (he C s H fp)).imp (by rintro v σ H Q ⟨F,st,p,az,R,b,e,q⟩;exact⟨F,st,p,az,R,b,e,λbM H' F' R' g'=>q bM H' F' R' g' _ rfl⟩)
def pb2(hw:∀(C:Addr) (s:Shared) (H:Hp) (fp:List Addr),PT (cO X N scope C s H fp) c (tT (cO X N scope C s H fp) aa ab ft))(C:Addr)(s:Shared)(H:Hp)(fp:List Addr):PB (cO X N scope C s H fp) tg [c] elt (tb2 X aa ab g ft fe) :=
 (PX (ht C s H fp) (hw C s H fp) (he C s H fp)).imp (by rintro v σ H Q ⟨F,st,p,az,R,b,e,q⟩;exact⟨F,st,p,az,R,b,e,λbM H' F' R' g'=>q bM H' F' R' g' _ rfl⟩)
end
def rm(h:tS X aa ab (c6 fe (aX i)) D σ H):tE X aa ab fe σ H λv H1=>D.nx (σ.set i (some v)) H1:=by
 obtain⟨F,st,R,h⟩:=h;refine⟨F,st,R,h.bnd λp v F1 bA H1 R1 g1 b1 h1=>?_⟩
 obtain⟨az,e,z⟩:=h1.stp;obtain⟨hi,rfl⟩:=aJ e;exact z F1 _ H1 ⟨R1.c,R1.l.set hi b1⟩ (Gr.refl _)
end
def SI(h:Heap)(it l:Addr)(k:Nat)(xs:Array Value):Prop:=(h.IsListIter it l k/\h.IsList l xs)\/(h.IsTupleIter it l k/\h.IsTuple l xs)
def SI.at{h h':Heap}{it l:Addr}{k:Nat}{xs:Array Value}(x:SI h it l k xs)(h1:∀o,h.get? it=some o->h'.get? it=some o)(h2:∀o,h.get? l=some o->h'.get? l=some o):SI h' it l k xs:=by
 rcases x with⟨⟨o,e,r⟩,⟨o',e',r'⟩⟩ | ⟨⟨o,e,r⟩,⟨o',e',r'⟩⟩
 ·exact .inl ⟨⟨o,h1 o e,r⟩,⟨o',h2 o' e',r'⟩⟩
 ·exact .inr ⟨⟨o,h1 o e,r⟩,⟨o',h2 o' e',r'⟩⟩
def SI.SO{h:Heap}{it l:Addr}{k:Nat}{xs:Array Value}(x:SI h it l k xs):∃o,h.get? it=some o/\∃vs,o.data=.fields vs:=by
 rcases x with⟨⟨o,e,_,d⟩,_⟩ | ⟨⟨o,e,_,d⟩,_⟩
 ·grind
 ·grind
def SI.sq{h:Heap}{it l:Addr}{k:Nat}{xs:Array Value}(x:SI h it l k xs):∃o n,h.get? l=some o/\o.data=.seq xs n:=by
 rcases x with⟨_,⟨o,e,_,n,d⟩⟩ | ⟨_,⟨o,e,_,n,d⟩⟩
 ·grind
 ·grind
def SI.ne{h:Heap}{it l:Addr}{k:Nat}{xs:Array Value}(x:SI h it l k xs):l≠it:=λz=>by
 obtain⟨o,e,vs,d⟩:=x.SO;obtain⟨o',n,e',d'⟩:=x.sq;subst z;rw[e]at e';cases e';rw[d]at d';cases d'
section
variable {prog:Program} {w:World} {A:Around} {E:Value->Shared->Prop} {s:Shared}
def EA{it t:Addr}{i:Nat}{aG:Array Value}{x:Value}{Q:Value->Shared->Prop}(yD:s.heap.IsTupleIter it t i)(ht:s.heap.IsTuple t aG)(hx:aG[i]?=some x)
  (hQ:∀h',h'.IsTupleIter it t (i+1)->Heap.SameBut it s.heap h'->Q x {s with heap:=h'}):wpAny (model prog w) A (Builtin.SmallTypes.nextOf (.ref it)) Q E s:=by
 obtain⟨o,ho,hc,hd⟩:=id yD;obtain⟨ol,Yb,_,nl,SQ⟩:=ht;refine af (j8 yD.typeIs xb (ig xb yD.typeIs Ke (by
  show wpAny _ _ (field (.ref it) 0 >>= _) _ _ s;refine af (kj ho hd rfl ?_);show wpAny _ _ (if(Value.ref t==Value.none)=true then _ else _) _ _ s
  rw[if_neg (show ¬((Value.ref t==Value.none)=true)from dc)]
  show wpAny _ _ (field (.ref it) 1 >>= _) _ _ s;refine af (kj ho hd (x:=.int i 0) rfl ?_);show wpAny _ _ (seqItems? (.ref t) >>= _) _ _ s;refine af (wpAny_seqItems Yb SQ ?_);simp only[ei,hx];refine af (sL ho hd (by simp) (aj ⟨x,rfl,aj (hQ _ ⟨_,sg _ ho (Dz (oC hd _)),(DI ..).trans hc,by rw[oC hd];simp[rawInt]⟩ (oA ..))⟩))) (Kc _)))
def EB{it t:Addr}{i:Nat}{aG:Array Value}{Q:Value->Shared->Prop}(hh:A.handled=none)(yD:s.heap.IsTupleIter it t i)(ht:s.heap.IsTuple t aG)(hx:aG[i]?=none)
  (hE:∀h' e,Heap.ExtBut it s.heap h'->(∃o,h'.get? e=some o/\o.cls=.type "StopIteration")->E (.ref e) {s with heap:=h'}):wpAny (model prog w) A (Builtin.SmallTypes.nextOf (.ref it)) Q E s:=by
 obtain⟨o,ho,hc,hd⟩:=id yD;obtain⟨ol,Yb,_,nl,SQ⟩:=ht;refine af (j8 yD.typeIs xb (ig xb yD.typeIs Ke (by
  show wpAny _ _ (field (.ref it) 0 >>= _) _ _ s;refine af (kj ho hd rfl ?_);refine af (kj ho hd (x:=.int i 0) rfl ?_);show wpAny _ _ (seqItems? (.ref t) >>= _) _ _ s;refine af (wpAny_seqItems Yb SQ ?_);simp only[ei,hx];refine af (gu (af (sL ho hd (by simp) ?_)))
  show wpAny _ _ (newExc (.type "StopIteration") [] >>= _) _ _ _;refine af ?_;simp only[newExc,newTuple];refine af (iS ?_ (by size_fits))
  refine af (m:=firstArgMember _ _) (wpAny_of_eq (a:=Value.none) (by first | rfl | (simp only[firstArgMember];rfl)) ?_)
  refine iS ?_ (by size_fits)
  simp only[raiseNew];refine af (wpAny_handled ?_)
  first | rw[show A.in1.handled=none from hh] | rw[hh]
  exact af (aj (wpAny_throw (hE _ _ (((oA ..).extBut.push _).push _) ⟨_,cJ _ rfl,rfl⟩)))) (Kc _)))
def SI.next{it l:Addr}{k:Nat}{xs:Array Value}{x:Value}{Q:Value->Shared->Prop}(hi:SI s.heap it l k xs)(hx:xs[k]?=some x)(hQ:∀h',SI h' it l (k+1) xs->Heap.SameBut it s.heap h'->Q x {s with heap:=h'}) :
  wpAny (model prog w) A (Builtin.SmallTypes.nextOf (.ref it)) Q E s:=by
 have ne:=hi.ne;rcases hi with⟨h1,h2⟩ | ⟨h1,h2⟩
 ·exact wpAny_nextOf_list_item h1 h2 hx λh' a b=>hQ h' (.inl ⟨a,h2.extBut b.extBut ne⟩) b
 ·exact EA h1 h2 hx λh' a b=>hQ h' (.inr ⟨a,h2.extBut b.extBut ne⟩) b
def SI.stop{it l:Addr}{k:Nat}{xs:Array Value}{Q:Value->Shared->Prop}(hh:A.handled=none)(hi:SI s.heap it l k xs)(hx:xs[k]?=none)
  (hE:∀h' e,Heap.ExtBut it s.heap h'->(∃o,h'.get? e=some o/\o.cls=.type "StopIteration")->E (.ref e) {s with heap:=h'}):wpAny (model prog w) A (Builtin.SmallTypes.nextOf (.ref it)) Q E s:=by
 rcases hi with⟨h1,h2⟩ | ⟨h1,h2⟩
 ·exact wpAny_nextOf_list_end hh h1 h2 hx hE
 ·exact EB hh h1 h2 hx hE
end
section
variable {prog:Program} {w:World} {A:Around} {E:Value->Shared->Prop} {s:Shared} {z TI TO i1 i2 l1 l2:Nat} {k:Nat} {xs ys:Array Value}
def wq(h:Heap)(l:Addr)(xs:Array Value)(c:String):Prop:=(c="list_iterator"/\h.IsList l xs)\/(c="tuple_iterator"/\h.IsTuple l xs)
def rn{l:Addr}{xs:Array Value}{c:String}{Q:Value->Shared->Prop}(h:wq s.heap l xs c)(hQ:Q (.ref s.heap.objs.size) {s with heap:=s.heap.push {cls:=.type c,data:=.fields #[.ref l,.int 0 0]}}):wpAny (model prog w) A (pyIter (.ref l)) Q E s:=by
 rcases h with⟨rfl,h⟩ | ⟨rfl,h⟩
 ·exact DG h hQ
 ·exact DC h hQ
end
def J3(K:W.Frag)(H:Hp)(c:Bool)(l:Addr)(vs:List V):Prop:=if c=true then xY K H l vs else jm K H l vs
def P1(h:Heap)(c:Bool)(it l:Addr)(k:Nat):Prop:=if c=true then h.IsListIter it l k else h.IsTupleIter it l k
def LU(c:Bool):String:=if c=true then "list_iterator" else "tuple_iterator"
section
variable {X:Cx} {ae:List (Addr×Obj)} {σ:St} {H:Hp} {s:Shared}
def J3.get(I:Inv X ae σ H s){c:Bool}{l:Addr}{vs:List V}(h:J3 X.K H c l vs):∃aG:List Value,Vals vs aG/\wq s.heap l aG.toArray (LU c):=by
 unfold LU;cases c with
 | true =>
  obtain⟨aG,r,pl,_⟩:=I.list (h);exact⟨aG,r,.inl ⟨rfl,pl.isList⟩⟩
 | false =>
  obtain⟨aG,r,pl,_⟩:=I.tuple (h);exact⟨aG,r,.inr ⟨rfl,pl⟩⟩
def J3.inj(I:Inv X ae σ H s){c:Bool}{l:Addr}{vs ws:List V}(h:J3 X.K H c l vs)(h':J3 X.K H c l ws):vs=ws:=by
 cases c with
 | true=>exact I.mO h h'
 | false=>exact I.kQ h h'
def SR{h:Heap}{c:Bool}{it l:Addr}{k:Nat}{xs:Array Value}(h1:P1 h c it l k)(h2:wq h l xs (LU c)):SI h it l k xs:=by
 cases c with
 | true =>
  rcases h2 with⟨_,q⟩ | ⟨q,_⟩
  ·exact .inl ⟨h1,q⟩
  ·exact absurd q (by decide)
 | false =>
  rcases h2 with⟨q,_⟩ | ⟨_,q⟩
  ·exact absurd q (by decide)
  ·exact .inr ⟨h1,q⟩
def P4{h:Heap}{c:Bool}{it l:Addr}{k k':Nat}{xs:Array Value}{h0:Heap}(h1:SI h it l k xs)(h2:wq h0 l xs (LU c))(kp:∀o,h0.get? l=some o->h.get? l=some o):P1 h c it l k:=by
 cases c with
 | true =>
  rcases h2 with⟨_,⟨o,e,hc,_⟩⟩ | ⟨q,_⟩
  ·rcases h1 with⟨a,_⟩ | ⟨_,⟨o',e',J1,_⟩⟩
   ·exact a
   ·grind
  ·exact absurd q (by decide)
 | false =>
  rcases h2 with⟨q,_⟩ | ⟨_,⟨o,e,hc,_⟩⟩
  ·exact absurd q (by decide)
  ·rcases h1 with⟨_,⟨o',e',J1,_⟩⟩ | ⟨a,_⟩
   ·grind
   ·exact a
def Inv.turns{t':Nat}{h':Heap}{ch:List Addr}(I:Inv X ae σ H s)(hf:∀b∈ch,xZ X ae H b)(kp:∀b o,b∉ch->s.heap.get? b=some o->h'.get? b=some o):Inv X ae σ H {s with heap:=h',toks:=t'}:=by
 have YI:∀b u,H b=some u->b∉ch:=λb u e z=>by rw[(hf b z).1]at e;cases e
 refine I.step (λb hb=>⟨(hf b hb).2.2.2.1,(hf b hb).2.1,(hf b hb).2.2.2.2.1,(hf b hb).2.2.2.2.2⟩) (λb o _ _ hc e _=>kp b o hc e) (λb o _ _ hc e _=>⟨o.slots,kp b o hc e⟩) (λ_ _ _ _ n=>n)
  (λb o hc e=>⟨o,kp b o hc e⟩) (λ_ _ e=>e) (λ_ _ _ e=>e) (λ_ _ e=>e) (λm hm=>?_) (λb u e=>?_) I.bare
 ·obtain⟨o,es,ep,ho,r⟩:=hm;exact⟨o,es,ep,kp _ o (λz=>(hf _ z).2.1 rfl) ho,r⟩
 ·refine(I.hok b u e).xV (λc v hc q=>kp c v ?_ q) (λ_ q=>q) (λ_ _ q=>q) λ_ _ _ q=>q
  rcases hc with z | z
  ·rw[z];exact YI b u e
  ·exact YI c _ z
end
def P1.at{h h':Heap}{c:Bool}{it l:Addr}{k:Nat}(x:P1 h c it l k)(h1:∀o,h.get? it=some o->h'.get? it=some o):P1 h' c it l k:=by
 cases c with
 | true =>
  obtain⟨o,e,r⟩:=(x);exact(⟨o,h1 o e,r⟩)
 | false =>
  obtain⟨o,e,r⟩:=(x);exact(⟨o,h1 o e,r⟩)
def P1.obj{h:Heap}{c:Bool}{it l:Addr}{k:Nat}(x:P1 h c it l k):∃o,h.get? it=some o/\∀v,o.data≠.cell v:=by
 unfold P1 at x;split at x
 ·obtain⟨o,e,_,d⟩:=x;exact⟨o,e,λv=>by grind⟩
 ·obtain⟨o,e,_,d⟩:=x;exact⟨o,e,λv=>by grind⟩
def LV{prog:Program}{w:World}{A:Around}{it l:Addr}{xs:Array Value}(hh:A.handled=none):Draws prog w A it [it,l] xs.size (λi x=>xs[i]?=some x) (λi h=>SI h it l i xs) where
 live:=λi h st=>by
  obtain⟨o,e,_⟩:=st.SO;exact⟨o,e⟩
 frame:=λi h h' st k=>st.at (λo e=>k it (by simp) o e) (λo e=>k l (by simp) o e)
 item:=λi s Q E hi st hQ=>SI.next st (rY hi) λh' a b=>hQ _ h' s.toks (rY hi) a b
 done:=λs Q E st hE=>SI.stop hh st (Array.getElem?_eq_none (aq _)) hE
set_option maxHeartbeats 2000000 in
theorem LW(l:Addr)(xs:Array Value)(c:String)(part:Obj) :
  Meets (Builtin.«enumerate.__new__» ⟨[.type "enumerate",.ref l],[]⟩) (λ_ R s=>wq s.heap l xs c/\s.heap.get? l=some part /\
   ∀h1 h2:Heap,h1=s.heap.push {cls:=.type c,data:=.fields #[.ref l,.int 0 0]}->h2=h1.push {cls:=.type "enumerate",data:=.fields #[.none,.bool false,.ref s.heap.objs.size,rawInt 0,.none,.none]}->R (.ok (.ret (.ref h1.objs.size))) {s with heap:=h2}) :=
 .of_wp λprog w A R s h=>by
  obtain⟨hp,g,d,tk,os⟩:=s;obtain⟨hl,hpt,h⟩:=h;have hL:wq (Shared.heap ⟨hp,g,d,tk,os⟩) l xs c:=hl;have Bh:=sub_enumerate;rcases hl with⟨rfl,⟨o,e,hc,n,hd⟩⟩ | ⟨rfl,⟨o,e,hc,n,hd⟩⟩
  ·obtain⟨oc,od,odt,U6⟩:=o;replace hc:oc=.type "list":=hc;replace hd:odt=.seq xs n:=hd
   wp_walk using j7 e
   refine wpAny_stack_any λst=>aj ?_
   split
   ·rename_i c' _ _ _ _ _;cases(c'==Value.type "enumerate")<;>(wp_walk using j7 e,rn hL)<;>exact⟨_,rfl,h _ _ rfl rfl⟩
   ·wp_walk using j7 e,rn hL
    exact⟨_,rfl,h _ _ rfl rfl⟩
  ·obtain⟨oc,od,odt,U6⟩:=o;replace hc:oc=.type "tuple":=hc;replace hd:odt=.seq xs n:=hd
   wp_walk using j7 e
   refine wpAny_stack_any λst=>aj ?_
   split
   ·rename_i c' _ _ _ _ _;cases(c'==Value.type "enumerate")<;>(wp_walk using j7 e,rn hL)<;>exact⟨_,rfl,h _ _ rfl rfl⟩
   ·wp_walk using j7 e,rn hL
    exact⟨_,rfl,h _ _ rfl rfl⟩
def P5{prog:Program}{w:World}{A:Around}{E:Value->Shared->Prop}{s:Shared}{e it l:Addr}{k:Nat}{i:Int}{xs:Array Value}{old:Value}{Q:Option Value->Shared->Prop}(hh:A.handled=none)(a1:IsEnum s.heap e it i old)(st:SI s.heap it l k xs)(hx:xs[k]?=none)(hQ:∀h',Heap.ExtBut it s.heap h'->Q none {s with heap:=h'}):wpAny (model prog w) A (pyNext (.ref e)) Q E s:=by
 have ty:s.TypeIs (.ref e) "enumerate":=⟨_,a1,rfl⟩;unfold pyNext;refine af (xM (j8 ty F.slot_enumerate_next (ig F.slot_enumerate_next ty F.entry_enumerate_next (by
  show wpAny _ _ (field (.ref e) 2 >>= _) _ _ _;refine af (kj a1 rfl rfl (af (SI.stop hh st hx λh' y sb ⟨o,ho,hc⟩=>?_)))
  exact af (DL ⟨o,ho,hc⟩ isSubtype_stop (aj (hQ _ sb)))) (F.args_enumerate_next_1 _))))
def Ien(K:W.Frag)(c:Bool)(l:Addr):It where
 go:=λi H=>∃vs v,J3 K H c l vs/\vs[i]?=some v
 yld:=λi H x H'=>∃T v,H T=none/\x=.ref T/\H'=c5 H T (.ao [.int i,v])/\∀vs,J3 K H c l vs->vs[i]?=some v
 stop:=λi H=>∃vs,J3 K H c l vs/\vs.length<=i
def eTn(e it l:Nat)(c:Bool)(i:Nat)(h:Heap):Prop:=(∃old,IsEnum h e it i old)/\P1 h c it l i
def P6{P:Program}{w:World}{K:W.Frag}{elts:List Expr}{x1:Nat}{U2:Pos}{e it l:Nat}{c:Bool}(ord:it<e)(o1:l<it) :
  Turn P w K (.Tuple elts x1 U2) (Ien K c l) [e,it] e (eTn e it l c) where
 mem:=bg
 obj:=by
  rintro i h ⟨⟨_,a1⟩,a2⟩ b hb
  simp only[aV,eQ,eU]at hb;rcases hb with rfl | rfl
  ·exact⟨_,a1,λv=>by simp⟩
  ·exact a2.obj
 keep:=(by rintro i h h' ⟨⟨old,a1⟩,a2⟩ k;exact⟨⟨old,k e (by simp) _ a1⟩,a2.at λo x=>k it (by simp) o x⟩)
 item:=by
  rintro X hP hw hK hc i ae s σ H E I hf ⟨⟨old,a1⟩,a2⟩ ⟨vs,v,hv,ev⟩
  subst hP hw hK;obtain⟨aG,r1,k1⟩:=hv.get I;obtain⟨x,ex,rx⟩:=r1.get ev;have ne:e≠it:=sN ord;have nel:e≠l:=sN (oN o1 ord);have SQ:X.A.in1.handled=none:=I.ok.hd hc;refine wpAny_pyNext_enum_itemD (LV (xs:=aG.toArray) (l:=l) SQ) a1 (SR a2 k1) (by
   have:=(cz.mp ex).1;simpa using this) ne (by simp[ne,nel]) λx' h' tk Er hO st hT ZZ kp=>⟨_,rfl,?_⟩
  have xe:x'=x:=by
   have e1:aG.toArray[i]?=some x:=by simpa using ex
   rw[e1]at Er;cases Er;rfl
  subst xe;refine wpAny_letOwnedTupleGo_enum hO λh'' aeo sb=>?_
  have big:∀b∈[e,it],b<s.heap.objs.size:=λb hb=>by
   simp only[aV,eQ,eU]at hb;have h1:e<s.heap.objs.size:=aW a1;rcases hb with rfl | rfl<;>lia
  have eT:e≠s.heap.objs.size:=bG (big e (by simp))
  have kp2:∀b o,b∉[e,it]->s.heap.get? b=some o->h''.get? b=some o:=λb o hb z=>by
   simp only[aV,eQ,eU,not_or]at hb;exact sb.extBut _ _ hb.1 (kp b o hb.1 hb.2 z)
  have I1:Inv X ae σ H {s with heap:=h'',toks:=tk+1}:=Inv.turns I hf kp2
  have hn:H s.heap.objs.size=none:=I.fresh;have fp0:=I.KW (H':=H) (aq _) hn;have pr:h''.get? s.heap.objs.size=some {cls:=.type "tuple",data:=.seq #[.int i tk,x']}:=sb.extBut _ _ (dU eT) hT
  have I2:=Inv.adopt (D:=s.heap.objs.size) (o:=.ao [.int i,v]) I1 hn (by
    rcases fp0.2.2.2.1 with q | q
    ·exact I.sz
    ·exact q) fp0.2.1 fp0.2.2.2.2.1 fp0.2.2.2.2.2 ⟨(by show 2<=sizeLine;decide),[.int i tk,x'],.cons ⟨tk,rfl⟩ (.cons rx .nil),⟨_,pr,rfl,0,rfl⟩⟩
  refine⟨.ref s.heap.objs.size,_,I2,rfl,⟨s.heap.objs.size,v,hn,rfl,rfl,λym h1=>?_⟩,⟨⟨_,aeo⟩,?_⟩,λb hb=>?_⟩
  ·rw[<-J3.inj I hv h1];exact ev
  ·have nli:l≠it:=bG o1;have q:=P4 (k':=i) st k1 λo z=>kp l o (dU nel) nli z
   exact q.at λo z=>sb.extBut _ _ (dU ne) z
  ·rw[aR (bG (big b hb))];exact(hf b hb).1
 done:=by
  rintro X hP hw hK hc i ae s σ H E I hf ⟨⟨old,a1⟩,a2⟩ ⟨vs,hv,he⟩
  subst hP hw hK;obtain⟨aG,r1,k1⟩:=hv.get I;have hz:aG.toArray[i]?=none:=Array.getElem?_eq_none (by rw[fw,<-r1.length];exact he)
  refine P5 (I.ok.hd hc) a1 (SR a2 k1) hz λh' sb=>⟨rfl,?_⟩
  exact Inv.turns (t':=s.toks) I hf λb o hb z=>by
   simp only[aV,eQ,eU,not_or]at hb;exact sb b o hb.2 z
 self:=(by rintro A i s Q E ⟨⟨_,a1⟩,_⟩ q;exact wpAny_pyIter_enum a1 q)
def SS:Expr->Bool
 | .Tuple _ _ _=>true
 | _=>false
def yE:PV->Option (List PV)
 | .nd .ao ps=>some ps
 | .nd .lst ps=>some ps
 | _=>none
def pZ(p q:PV):PV:=.ao [p,q]
def LX{K:W.Frag}(h:yE p=some ps)(b:bQ K F p x):∃c l vs,x=.ref l/\J3 K F.F c l vs/\aF K F ps vs/\∀F',cP F.F F'->J3 K F' c l vs:=by
 unfold yE at h;split at h
 ·cases h;obtain⟨l,vs,rfl,h1,h2⟩:=cS.mp b;exact⟨false,l,vs,rfl,h1,h2,λF' s=>bL s h1⟩
 ·cases h;obtain⟨l,vs,rfl,h1,h2⟩:=gB.mp b;exact⟨true,l,vs,rfl,h1.sq,h2,λF' s=>(AZ s h1).sq⟩
 ·cases h
def IJ{K:W.Frag}(hs:xY K F.F a vs)(hb:aF K F ps vs):Walk K F ps (Itl K a):=by
 intro aa ab F' st σ H R s i;have hq:=(s.s.trans R.sub).seq hs;refine⟨λp e=>?_,λe=>?_⟩
 ·obtain⟨v,e1,b1⟩:=hb.get e;refine⟨⟨vs,v,hq,e1⟩,λx H' ⟨hH,y⟩=>?_⟩
  subst hH;have:=y vs hq;rw[e1]at this;cases this;exact⟨F',R,Gr.refl _,b1.mono s⟩
 ·refine⟨vs,hq,?_⟩;rw[<-hb.length];exact oo.mp e
def LY{K:W.Frag}(hs:jm K F.F a vs)(hb:aF K F ps vs):Walk K F ps (Itt K a):=by
 intro aa ab F' st σ H R s i;have hq:=bL (s.s.trans R.sub) hs;refine⟨λp e=>?_,λe=>?_⟩
 ·obtain⟨v,e1,b1⟩:=hb.get e;refine⟨⟨vs,v,hq,e1⟩,λx H' ⟨hH,y⟩=>?_⟩
  subst hH;have:=y vs hq;rw[e1]at this;cases this;exact⟨F',R,Gr.refl _,b1.mono s⟩
 ·refine⟨vs,hq,?_⟩;rw[<-hb.length];exact oo.mp e
noncomputable def P7(lo:Int)(n:Nat):List PV:=(List.range n).map fun(i:Nat)=>.int (lo+i)
def EC{K:W.Frag}(lo:Int)(n:Nat):Walk K F (P7 lo n) (Itr lo n):=by
 intro aa ab F' st σ H R s i;unfold P7;refine⟨λp e=>?_,λe=>?_⟩
 ·rw[bZ]at e;by_cases hi:i<n
  ·rw[su hi]at e;cases e;exact⟨hi,λx H' ⟨hH,y⟩=>by subst hH y;exact⟨F',R,Gr.refl _,aI.mpr rfl⟩⟩
  ·rw[ou (by simpa using hi)]at e;cases e
 ·rw[bZ]at e;by_cases hi:i<n
  ·rw[su hi]at e;cases e
  ·exact oE hi
def dN:Nat->List PV->List PV
 | _,[]=>[]
 | k,p::r=>pZ (.int k) p::dN (k+1) r
theorem o8:∀(ps:List PV) (k i:Nat),(dN k ps)[i]?=ps[i]?.map λp=>pZ (.int ((k+i:Nat):Int)) p
 | [],k,i=>by simp[dN]
 | p::r,k,0=>by simp[dN]
 | p::r,k,i+1=>by
  simp only[dN,List.getElem?_cons_succ];rw[o8 r (k+1) i,show k+1+i=k+(i+1) by lia]
def P8{K:W.Frag}(k1:∀F',cP F.F F'->J3 K F' c l vs)(b1:aF K F ps vs):Walk K F (dN 0 ps) (Ien K c l):=by
 intro aa ab F' st σ H R s i;have h1:=k1 H (s.s.trans R.sub);refine⟨λp e=>?_,λe=>?_⟩
 ·rw[o8]at e;cases z1:ps[i]? with
  | none=>rw[z1]at e;cases e
  | some p1 =>
   rw[z1]at e;cases e;obtain⟨v,e1,c1'⟩:=b1.get z1;refine⟨⟨vs,v,h1,e1⟩,λx H' z9=>?_⟩
   obtain⟨T,v',hn,hx,hH,Ie⟩:=z9;have g1:=Ie vs h1;rw[e1]at g1;cases g1;subst hx hH;obtain⟨R2,s2⟩:=R.laid (.ao [.int i,v]) hn;refine⟨_,R2,s2,cS.mpr ⟨T,[.int i,v],rfl,jm.of aH,.cons ?_ (.cons (c1'.mono (s.trans s2)) .nil)⟩⟩;rw[dy];exact aI.mpr rfl
 ·refine⟨vs,h1,?_⟩;rw[o8]at e;cases z1:ps[i]? with
  | none =>
   have:=oo.mp z1;rw[b1.length]at this;exact this
  | some p1=>rw[z1]at e;cases e
section
variable {X:Cx} {aa:Hp} {ab:Fz} {a b e tg:Expr} {fa fb:Gx PV} {ts:Gx (List PV)} {pos p:Pos}
noncomputable def V3(i j:Int):Bool:=decide (-(2^62)<=i/\i<2^62 /\ -(2^62)<=j/\j<2^62)
def Bi:List PV->Option (List PV)
 | [.int j]=>if V3 0 j=true then some (P7 0 j.toNat)else none
 | _=>none
def ED(g:List PV->Option (List PV))(ts:Gx (List PV)):Gx (List PV):=bnd ts λps=>lb (g ps)
def LZ(hg:Gl X "range")(hm:X.mg "range"=none)(ha:PA X [a] (tA X aa ab ts))(hs:starEach [a] X.env=[(false,eval a X.env)]:=by rfl):PI X tg (.Call (.Name "range" p) [a] [] pos) (tI X aa ab (ED Bi ts)) :=
 (HX hg hm ha hs).imp λσ H Rr ⟨F,st,R,h⟩=>⟨F,st,R,h.bnd λps vs F1 bA H1 R1 g1 b1 h1=>by
  obtain⟨o,e,z⟩:=h1.lb;unfold Bi at e;split at e
  ·obtain⟨hr,rfl⟩:=aJ e;obtain⟨v,rfl,b⟩:=d9 b1;obtain⟨_,_,h3,h4⟩:=fy hr;rw[aI.mp b];exact⟨_,rfl,h3,h4,z _ H1 F1 R1 (Gr.refl _) (EC 0 _)⟩
  ·cases e⟩
def wt(fa:Gx PV):Gx (List PV):=bnd fa λp=>lb ((yE p).map λps=>dN 0 ps)
def aep(ht:SS tg=true)(hg:Gl X "enumerate")(hm:X.mg "enumerate"=none)(ha:PE X a (tE X aa ab fa))(hs:starEach [a] X.env=[(false,eval a X.env)]) :
  PI X tg (.Call (.Name "enumerate" p) [a] [] pos) (tI X aa ab (wt fa)):=by
 rintro ae s σ H R I ⟨F,st,Rp,h⟩
 have hA:=jN ha tf hs pos ae s σ H (λvs H'=>∃F' az x pa ps,vs=[x]/\Rep X.K aa ab F' az σ H'/\bQ X.K F' pa x/\yE pa=some ps/\∀b H'' VF,Rep X.K aa ab VF az σ H''->Gr F' VF->Walk X.K VF (dN 0 ps) b->R b H'') I
  ⟨F,st,Rp,h.bnd λp v F1 bA H1 R1 g1 b1 h1=>by
   obtain⟨o,e,z⟩:=h1.lb;obtain⟨ps,e1,rfl⟩:=bz e;exact⟨F1,bA,v,p,ps,rfl,R1,b1,e1,z⟩⟩
 refine Call_ (ld_blt I hg hm boot_enumerate (lV (thn hA λus s1 z9=>?_) hs rfl))
 obtain⟨vs,H1,I1,r1,F1,bA,x,pa,ps,ev,R1,b1,f3,q⟩:=z9;subst ev;obtain⟨u1,rfl,ru1⟩:=jY r1;obtain⟨c1,l1,vs1,rfl,q1,bl1,k1⟩:=LX f3 b1;cases ru1;obtain⟨aG,v1,kk1⟩:=(k1 H1 R1.sub).get I1;obtain⟨part,SU⟩:∃o,s1.heap.get? l1=some o:=by
  rcases kk1 with⟨_,⟨o,e,_⟩⟩ | ⟨_,⟨o,e,_⟩⟩
  ·grind
  ·grind
 have lt1:=aW SU;refine callType_new PySem.F.called_enumerate (by decide) (PySem.F.typeCall_enumerate_1 _) (PySem.F.newCall_enumerate_1 _) (λobj=>PySem.F.args_object_init_2 obj _) PySem.F.entry_enumerate_new (LW l1 aG.toArray (LU c1) part) ⟨kk1,SU,λh1 h2 e1 e2=>?_⟩
 have z1:h1.objs.size=s1.heap.objs.size+1:=by simp_all
 have p1:∀b o,s1.heap.get? b=some o->h1.get? b=some o:=λb o e=>by rw[e1];exact bj _ e
 have p2:∀b o,h1.get? b=some o->h2.get? b=some o:=λb o e=>by rw[e2];exact bj _ e
 have g2:IsEnum h2 h1.objs.size s1.heap.objs.size 0 .none:=by rw[e2];exact cJ _ rfl
 have g1:=p2 _ _ (by rw[e1];exact cJ _ rfl)
 have I2:Inv X ae σ H1 {s1 with heap:=h2,toks:=s1.toks}:=I1.kept λb o e=>p2 _ _ (p1 _ _ e)
 have oS:∀b,s1.heap.objs.size<=b->H1 b=none:=λb hb=>I1.hok.fresh hb
 refine⟨⟨_,g2,rfl⟩,?_⟩;show wpAny _ _ (pyIter (.ref h1.objs.size)) _ _ {s1 with heap:=h2,toks:=s1.toks}
 refine wpAny_pyIter_enum g2 ?_;cases tg with
 | Tuple elts x1 U2 =>
  refine⟨h1.objs.size,[h1.objs.size,s1.heap.objs.size],_,_,H1,rfl,I2,P6 (by lia) lt1,⟨⟨_,g2⟩,(by
   cases c1 with
   | true=>exact(⟨_,g1,rfl,rfl⟩)
   | false=>exact(⟨_,g1,rfl,rfl⟩))⟩,λb hb=>?_,q _ H1 F1 R1 (Gr.refl _) (P8 k1 bl1)⟩
  simp only[aV,eQ,eU]at hb;have Vs:s1.heap.objs.size<=b:=by rcases hb with rfl | rfl<;>lia
  exact I1.KW Vs (oS b Vs)
 | _=>cases ht
end
inductive EE where
 | sq (ps:List PV) | cl (n:Nat)
def Z6(K:W.Frag)(F:Fz):EE->It->Prop
 | .sq ps,J=>Walk K F ps J
 | .cl n,J=>∃a,F.μ[n]?=some a/\J=Itl K a
abbrev L0(X:Cx)(aa:Hp)(ab:Fz)(f:Gx EE):TI:=tX X aa ab (Z6 X.K) f
def L3(f:Gx (List PV)):Gx EE:=bnd f λps=>aN (.sq ps)
def GG(n:Nat)(h:List aB)(i:Nat):Option (Option PV):=match cH h (.ref n)with
 | some (.lst,ps)=>some ps[i]?
 | _=>none
def L4(h:List aB)(p:PV):Option EE:=match yE p with
 | some ps=>some (.sq ps)
 | none=>match p with
  | .ref n=>match cH h (.ref n)with
   | some (.lst,_)=>some (.cl n)
   | _=>none
  | _=>none
def iu(fe:Gx PV):Gx EE:=bnd fe λp=>hp λh=>L4 h p
def Bj(g:Tg)(body:Gx eX)(n:Nat):Nat->Nat->Gx eX
 | 0,_=>λ_=>none
 | f+1,i=>λst=>match GG n st.h i with
  | some (some p)=>bnd (stp (g p)) (λ_=>bnd body (wb (Bj g body n f (i+1)))) st
  | some none=>some (.ok .nx,st)
  | none=>none
def Z7(g:Tg)(body:Gx eX):EE->Gx eX
 | .sq ps=>fW g body ps
 | .cl n=>Bj g body n gF 0
def Bk(fi:Gx EE)(g:Tg)(body:Gx eX):Gx eX:=bnd fi (Z7 g body)
section
variable {X:Cx} {aa:Hp} {ab:Fz} {e tg iter:Expr} {fa:Gx PV} {fb:Gx eX} {body:List Stmt} {pos:Pos}
def Z8(h:PI X tg e (tI X aa ab f)):PI X tg e (L0 X aa ab (L3 f)):=(by rintro ae s σ H R I ⟨F,st,Rp,hh⟩;exact h ae s σ H R I ⟨F,st,Rp,hh.bnd λps J F1 bA H1 R1 g1 b1 h1=>h1.aN J H1 F1 R1 (Gr.refl _) b1⟩)
def L5{K:W.Frag}{st:dq}(R:Rep K aa ab F st σ H)(ha:F.μ[n]?=some a)(e:GG n st.h i=some o):∃ps vs,o=ps[i]?/\xY K H a vs/\aF K F ps vs:=by
 unfold GG at e;split at e
 ·rename_i ps z;cases e;obtain⟨a',vs,e1,h1,h2⟩:=R.at z (d8.mpr ⟨a,ha,rfl⟩);cases e1;exact⟨ps,vs,rfl,kP.sq h1,h2⟩
 ·cases e
def SV(he:PE X e (tE X aa ab fa)):PI X tg e (L0 X aa ab (iu fa)):=by
 rintro ae s σ H R I ⟨F,st,Rp,h⟩
 obtain⟨r,e1,e2⟩:=At.bnd h
 match r,e2 with
 | (.ex m C,bA),e2 =>
  exact KZ he ae s σ H R I ⟨F,st,Rp,_,e1,e2⟩
 | (.ok p,bA),e2 =>
  obtain⟨ps,e3,q⟩:=At.hp e2;unfold L4 at e3;split at e3
  ·rename_i qs e4;cases e3;unfold yE at e4;split at e4
   ·cases e4;refine KZ he ae s σ H R I ⟨F,st,Rp,_,e1,λv H1 F1 R1 s1 b1=>?_⟩
    obtain⟨a,vs,rfl,hs,hb⟩:=cS.mp b1;exact⟨a,rfl,⟨vs,bL R1.sub hs⟩,q _ H1 F1 R1 s1 (LY hs hb)⟩
   ·cases e4;refine F6 he ae s σ H R I ⟨F,st,Rp,_,e1,λv H1 F1 R1 s1 b1=>?_⟩
    obtain⟨a,vs,rfl,hs,hb⟩:=gB.mp b1;exact⟨a,rfl,⟨vs,(AZ R1.sub hs).sq⟩,q _ H1 F1 R1 s1 (IJ hs.sq hb)⟩
   ·cases e4
  ·split at e3
   ·rename_i n _;split at e3
    ·rename_i qs z;cases e3;refine F6 he ae s σ H R I ⟨F,st,Rp,_,e1,λv H1 F1 R1 s1 b1=>?_⟩
     obtain⟨a,vs,rfl,hs,hb⟩:=R1.at z b1;obtain⟨a',ha,e5⟩:=d8.mp b1;cases e5;exact⟨a,rfl,⟨vs,kP.sq hs⟩,q _ H1 F1 R1 s1 ⟨a,ha,rfl⟩⟩
    ·cases e3
   ·cases e3
def V4{fi:Gx EE}(hp:PassesOwn (model X.prog X.w) X.A X.env X.xe)(hc:X.calm=true)(hi:PI X tg iter (L0 X aa ab fi))(hg:PG X tg (tG X.K aa ab g))(hb:PSs X body (tS X aa ab fb))
  (hs:∀x,foldedSetIterable iter X.env x=pure x:=by intro _;rfl):PS X (.For tg iter body [] pos) (tS X aa ab (Bk fi g fb)):=(UN hp hc hi hg hb hs).imp <| by
 rintro D σ H ⟨F,st,R,h⟩
 refine⟨F,st,R,h.bnd λsr J F1 bA H1 R1 g1 wk h1=>?_⟩
 cases sr with
 | sq ps =>
  refine⟨λi m bM H'=>m=ps.length-i/\i<=ps.length/\∃F' az,Rep X.K aa ab F' az bM H'/\Gr F1 F'/\Sa X aa ab F' D az (fW g fb (ps.drop i)),⟨ps.length,by simp,dm _,F1,bA,R1,Gr.refl _,h1⟩,?_⟩
  rintro i m bM H' ⟨rfl,hi,F',az,R',s',hr⟩
  obtain⟨wg,wst⟩:=wk aa ab F' az bM H' R' s' i;by_cases fL:i<ps.length
  ·obtain⟨go,wy⟩:=wg ps[i] (bU fL);rw[rZ fL]at hr;refine .inr ⟨go,λF7 H2=>∃F2 st2,Rep X.K aa ab F2 st2 F7 H2/\Gr F1 F2/\Sa X aa ab F2 D st2 (fW g fb (ps.drop (i+1))),λF7 H2 n2=>⟨ps.length-(i+1),by lia,rfl,fL,n2⟩,λx H2 y=>?_⟩
   obtain⟨F2,R2,s2,b2⟩:=wy x H2 y;obtain⟨r,e1,e2⟩:=At.bnd hr;obtain⟨Z9,e3,e4⟩:=bz e1;subst e4;refine⟨F2,az,ps[i],Z9,R2,b2,e3,λqC H3 F3 R3 s3=>⟨F3,Z9,R3,?_⟩⟩
   exact Sa.mP _ (λF4 kR SK H4 R4 g4 z=>⟨F4,kR,R4,(s'.trans (s2.trans s3)).trans g4,z⟩) (Sa.mono (e2) (s2.trans s3))
  ·have e:i=ps.length:=by lia
   subst e;rw[xB]at hr;exact .inl ⟨wst (ou (aq _)),At.aN hr F' bM H' R' (Gr.refl _)⟩
 | cl n =>
  obtain⟨a,ha,rfl⟩:=wk;refine⟨λi m bM H'=>∃F' az,Rep X.K aa ab F' az bM H'/\Gr F1 F'/\Sa X aa ab F' D az (Bj g fb n m i),⟨gF,F1,bA,R1,Gr.refl _,h1⟩,?_⟩
  rintro i m bM H' ⟨F',az,R',s',hr⟩
  cases m with
  | zero=>obtain⟨r,e,_⟩:=hr;cases e
  | succ m =>
   obtain⟨r,e1,e2⟩:=hr;have e1:(match GG n az.h i with
    | some (some p)=>bnd (stp (g p)) (λ_=>bnd fb (wb (Bj g fb n m (i+1)))) az
    | some none=>some (.ok .nx,az)
    | none=>none)=some r:=e1
   cases z:GG n az.h i with
   | none=>rw[z]at e1;cases e1
   | some o =>
    obtain⟨ps,vs,ho,hq,Gk⟩:=L5 R' (s'.m n a ha) z;cases o with
    | none =>
     rw[z]at e1;cases e1;refine .inl ⟨⟨vs,hq,?_⟩,e2 F' bM H' R' (Gr.refl _)⟩;rw[<-Gk.length];exact oo.mp ho.symm
    | some p =>
     rw[z]at e1;obtain⟨v,hv,bv⟩:=Gk.get ho.symm;refine .inr ⟨⟨vs,v,hq,hv⟩,λF7 H2=>∃F2 st2,Rep X.K aa ab F2 st2 F7 H2/\Gr F1 F2/\Sa X aa ab F2 D st2 (Bj g fb n m (i+1)),λF7 H2 n2=>⟨m,sE m,n2⟩,λx H2 ⟨hH,y⟩=>?_⟩
     subst hH;have:=y vs hq;rw[hv]at this;cases this;obtain⟨r',q1,q2⟩:=At.bnd (⟨r,e1,e2⟩);obtain⟨Z9,e3,e4⟩:=bz q1;subst e4;refine⟨F',az,p,Z9,R',bv,e3,λqC H3 F3 R3 s3=>⟨F3,Z9,R3,?_⟩⟩
     exact Sa.mP _ (λF4 kR SK H4 R4 g4 z=>⟨F4,kR,R4,(s'.trans s3).trans g4,z⟩) (Sa.mono (q2) s3)
end
def p0(bd:PV->List aB->Option (Option PV×List aB))(n:Nat):Nat->Nat->List aB->Option (List PV×List aB)
 | 0,_,_=>none
 | f+1,i,h=>match GG n h i with
  | some (some p)=>(bd p h).bind λr=>(p0 bd n f (i+1) r.2).map λs=>(r.1.toList++s.1,s.2)
  | some none=>some ([],h)
  | none=>none
def aaa(bd:PV->List aB->Option (Option PV×List aB))(h:List aB):EE->Option (List PV×List aB)
 | .sq ps=>if ps.length<=gF then fH bd ps h else none
 | .cl n=>p0 bd n gF 0 h
def SW(c:Bool)(ρ:List (Option PV))(r:List PV×List aB):Option (Rs PV×dq):=if c=true then mj ⟨.lst,r.1⟩ ⟨ρ,r.2⟩else some (.ok (.lst r.1),⟨ρ,r.2⟩)
def di(c:Bool)(link:List (Option Nat))(fi:Gx EE)(bd:Bd):Gx PV:=bnd fi λs st=>(aaa (bd (bE link st.ρ)) st.h s).bind (SW c st.ρ)
section
variable {X:Cx} {aa:Hp} {ab:Fz} {N:List Str} {link:List (Option Nat)} {scope:Scope} {tg iter elt c:Expr} {pos:Pos} {fi:Gx EE} {g:Tg} {fe:Gx PV} {ft:Gx Bool} {L:List Nat} {cl:Bool}
def Bl{bA:dq}{Q:VK}(R':kT X.K aa ab F' hf H')(L1:Lc X.K F1 bA.ρ σ)(g':Gr F1 F')(Gk:aF X.K F' done acc)(hn:H' D=none)(e4:SW cl bA.ρ (done,hf)=some r)(e2:Lz X aa ab F1 (λa az=>∀b H' F',Rep X.K aa ab F' az σ H'->Gr F1 F'->bQ X.K F' a b->Q b H') r):Q (.ref D) (c5 H' D (.lst acc)):=by
 have Ro:Rep X.K aa ab F' ⟨bA.ρ,hf⟩ σ H':=⟨R',L1.mono g'⟩;cases cl with
 | true =>
  have e4:=e4;exact Tx.mj (Tx.mono ⟨r,e4,e2⟩ g' λ_ _ z=>z) Ro hn aH Gk
 | false =>
  have e4:=e4;cases e4;obtain⟨R2,s2⟩:=Ro.laid (.lst acc) hn;exact e2 _ _ _ R2 (g'.trans s2) (gB.mpr ⟨D,acc,rfl,kP.of aH,Gk.mono s2⟩)
def wu{Q:VK}
  (hb:∀(F2:Fz) (ρ:List (Option PV)) (p:PV) (h h':List aB) (o:Option PV) (x:V) (bM:St) (H2:Hp) (Q':Option V->St->Hp->Prop),bd (bE link ρ) p h=some (o,h')->Rep X.K aa ab F2 ⟨bE link ρ,h⟩ bM H2->bQ X.K F2 p x ->
   (∀o' qC H3 F3,Rep X.K aa ab F3 ⟨bE link ρ,h'⟩ qC H3->Gr F2 F3->aF X.K F3 o.toList (Option.toList o')->Q' o' qC H3)->tb x bM H2 Q')
  (h:tE X aa ab (di cl link fi bd) σ H Q):wj link (L0 X aa ab fi) tb σ H Q:=by
 obtain⟨F,st,R,h⟩:=h;refine⟨F,st,R,h.bnd λsr J F1 bA H1 R1 g1 wk h1=>?_⟩
 obtain⟨r,e1,e2⟩:=h1;obtain⟨⟨rs,hf⟩,e3,e4⟩:=bf e1;cases sr with
 | sq ps =>
  obtain⟨eF,e3⟩:=bR e3;refine⟨λi m acc bM H'=>m=ps.length-i/\i<=ps.length/\acc.length<=i/\∃F' h' done rest,Rep X.K aa ab F' ⟨bE link bA.ρ,h'⟩ bM H'/\Gr F1 F'/\fH (bd (bE link bA.ρ)) (ps.drop i) h'=some (rest,hf)/\done++rest=rs/\aF X.K F' done acc,
   ⟨ps.length,rfl,dm _,aq _,F1,bA.h,[],rs,⟨R1.c,R1.l.gS link⟩,Gr.refl _,e3,rfl,.nil⟩,?_⟩
  rintro i m acc bM H' ⟨rfl,hi,ha,F',h',done,rest,R',g',hr,hd,Gk⟩
  obtain⟨wg,wst⟩:=wk aa ab F' _ bM H' R' g' i;by_cases fL:i<ps.length
  ·rw[rZ fL]at hr;obtain⟨⟨o,h2⟩,e5,e6⟩:=bf hr;obtain⟨⟨r2,h3⟩,e7,e8⟩:=bz e6;cases e8;obtain⟨go,wy⟩:=wg ps[i] (bU fL);refine .inr ⟨go,iQ (br ha hi) (iQ eF (by decide)),λx H2 y=>?_⟩
   obtain⟨F2,R2,s2,b2⟩:=wy x H2 y;refine hb F2 bA.ρ ps[i] h' h2 o x bM H2 _ e5 R2 b2 λo' qC H3 F3 R3 s3 b3=>⟨ps.length-(i+1),by lia,rfl,fL,?_,F3,h2,done++o.toList,r2,R3,g'.trans (s2.trans s3),e7,by rw[<-hd,cj],(Gk.mono (s2.trans s3)).append b3⟩
   rw[bJ];cases o'<;>simp <;> lia
  ·have e:i=ps.length:=by lia
   subst e;rw[xB]at hr;cases hr;rw[fA]at hd;subst hd;exact .inl ⟨wst (ou (aq _)),br ha (fV eF),λD hn=>Bl R'.c R1.l g' Gk hn e4 e2⟩
 | cl n =>
  obtain⟨a,hna,rfl⟩:=wk;refine⟨λi m acc bM H'=>i+m=gF/\acc.length<=i/\∃F' h' done rest,Rep X.K aa ab F' ⟨bE link bA.ρ,h'⟩ bM H'/\Gr F1 F'/\p0 (bd (bE link bA.ρ)) n m i h'=some (rest,hf)/\done++rest=rs/\aF X.K F' done acc,
   ⟨gF,dy _,aq _,F1,bA.h,[],rs,⟨R1.c,R1.l.gS link⟩,Gr.refl _,e3,rfl,.nil⟩,?_⟩
  rintro i m acc bM H' ⟨hm,ha,F',h',done,rest,R',g',hr,hd,Gk⟩
  cases m with
  | zero=>cases hr
  | succ m =>
   have hr:(match GG n h' i with
    | some (some p)=>(bd (bE link bA.ρ) p h').bind λr=>(p0 (bd (bE link bA.ρ)) n m (i+1) r.2).map λs=>(r.1.toList++s.1,s.2)
    | some none=>some ([],h')
    | none=>none)=some (rest,hf):=hr
   have Pf:i<=gF:=by lia
   cases z:GG n h' i with
   | none=>rw[z]at hr;cases hr
   | some o =>
    obtain⟨ps,vs,ho,hq,hbq⟩:=L5 R' (g'.m n a hna) z;rw[z]at hr;cases o with
    | none =>
     cases hr;rw[fA]at hd;subst hd;refine .inl ⟨⟨vs,hq,?_⟩,br ha (fV Pf),λD hn=>Bl R'.c R1.l g' Gk hn e4 e2⟩
     rw[<-hbq.length];exact oo.mp ho.symm
    | some p =>
     obtain⟨⟨o,h2⟩,e5,e6⟩:=bf hr;obtain⟨⟨r2,h3⟩,e7,e8⟩:=bz e6;cases e8;obtain⟨v,hv,bv⟩:=hbq.get ho.symm;refine .inr ⟨⟨vs,v,hq,hv⟩,iQ (br ha Pf) (by decide),λx H2 ⟨hH,y⟩=>?_⟩
     subst hH;have:=y vs hq;rw[hv]at this;cases this;refine hb F' bA.ρ p h' h2 o v bM H2 _ e5 R' bv λo' qC H3 F3 R3 s3 b3=>⟨m,sE m,by lia,?_,F3,h2,done++o.toList,r2,R3,g'.trans s3,e7,by rw[<-hd,cj],(Gk.mono s3).append b3⟩
     rw[bJ];cases o'<;>simp <;> lia
def L6(hg:KG L g)(hL:∀i∈L,link[i]?=some none)(h:tE X aa ab (di cl link fi (lq g fe)) σ H Q):wj link (L0 X aa ab fi) (tb1 X aa ab g fe) σ H Q :=
 wu (λF2 ρ p h h' o x bM H2 Q' e R2 b2 k=>by
  obtain⟨bA,e1,e⟩:=bf e;obtain⟨r,e2,e⟩:=bf e;obtain⟨⟨a,hh⟩,e3,e4⟩:=bz e;cases e4;obtain⟨vO,rfl,rfl⟩:=Bg e3;obtain⟨l1,k1⟩:=hg _ _ _ e1;refine⟨F2,_,p,bA,R2,b2,e1,λqC H3 F3 R3 s3 Y hY=>⟨F3,bA,by grind,_,e2,λv H4 F4 R4 s4 b4=>?_⟩⟩
  rw[hY]at R4 b4;exact k (some v) qC H4 F4 ⟨R4.c,(R3.l.mono s4).back (l1.symm.trans R3.l.len) rfl k1 hL⟩ (s3.trans s4) (.cons b4 .nil)) h
def L7(hg:KG L g)(hL:∀i∈L,link[i]?=some none)(h:tE X aa ab (di cl link fi (nk g ft fe)) σ H Q):wj link (L0 X aa ab fi) (tb2 X aa ab g ft fe) σ H Q :=
 wu (λF2 ρ p h h' o x bM H2 Q' e R2 b2 k=>by
  obtain⟨bA,e1,e⟩:=bf e;obtain⟨r,e2,e⟩:=bf e;obtain⟨l1,k1⟩:=hg _ _ _ e1;refine⟨F2,_,p,bA,R2,b2,e1,λqC H3 F3 R3 s3 Y hY=>⟨F3,bA,by grind,r,e2,?_⟩⟩
  match r,e with
  | (.ok b,st2),e =>
   intro b' H4 F4 R4 s4 eb;cases eb;cases b with
   | true =>
    have e:=e;obtain⟨r,e5,e⟩:=bf e;obtain⟨⟨a,hh⟩,e6,e7⟩:=bz e;cases e7;obtain⟨vO,rfl,rfl⟩:=Bg e6;rw[if_pos rfl];refine⟨F4,st2,R4,_,e5,λv H5 F5 R5 s5 b5=>?_⟩
    rw[hY]at R5 b5;exact k (some v) qC H5 F5 ⟨R5.c,(R3.l.mono (s4.trans s5)).back (l1.symm.trans R3.l.len) rfl k1 hL⟩ (s3.trans (s4.trans s5)) (.cons b5 .nil)
   | false =>
    have e:=e;cases e;rw[hY]at R4;exact k none qC H4 F4 ⟨R4.c,(R3.l.mono s4).back (l1.symm.trans R3.l.len) rfl k1 hL⟩ (s3.trans s4) .nil) h
end
def GH{P:Program}{w:World}{H':Hp}{h1 h5 B:Heap}(x:l9 P w H' h1)(hB:∀b o,H' b=some o->∃ob,B.get? b=some ob)(k1:B.StaysIn h1)(k5:B.StaysIn h5):l9 P w H' h5:=λa o e=>by
 have keep:∀b u o',H' b=some o'->h1.get? b=some u->h5.get? b=some u:=λb u o' eb q=>by
  obtain⟨ob,hob⟩:=hB b o' eb;have:=k1 b ob hob;rw[q]at this;cases this;exact k5 b _ hob
 refine(x a o e).xV (λb u hb q=>?_) (λ_ q=>q) (λ_ _ q=>q) λ_ _ _ q=>q
 rcases hb with rfl | hb
 ·exact keep _ _ _ e q
 ·exact keep _ _ _ hb q
def L8{l:List Env}{H H':Hp}{h h1 h5 B B':Heap}(u:Un (oS l) [] H H' h h1)(sm:Dm H H')(hB:∀b o,H' b=some o->∃ob,B.get? b=some ob)(hU:∀b ob,h.get? b=some ob->H b=none->b∉oS l->B.get? b=some ob)
  (k5:B.StaysIn h5) (fr:h1.FunFrames B' l) (up:h1.UpToSlots h5):Un (oS l) [] H H' h h5:=by
 have slot:∀b o,h.get? b=some o->H b=none->b∈oS l->∃sl,h5.get? b=some {o with slots:=sl}:=λb o q n hb=>by
  obtain⟨sl,e⟩:=u.slot b o q n hb (by simp)
  obtain⟨_,o',oh,hd⟩:=fr.mem hb;rw[e]at oh;cases oh;obtain⟨YE,e'⟩:=up b _ e hd;exact⟨YE,e'⟩
 refine⟨λb o q n hb _=>k5 b o (hU b o q n hb),λb o q n hb _=>slot b o q n hb,u.free,λb o q hx=>?_,u.tups,u.frzs,u.tbls⟩
 cases z:H b with
 | none =>
  by_cases hb:b∈oS l
  ·grind
  ·exact⟨o,k5 b o (hU b o q z hb)⟩
 | some v =>
  obtain⟨v',z'⟩:=sm b v z;obtain⟨ob,hob⟩:=hB b v' z';exact⟨ob,k5 b ob hob⟩
def IK{P:Program}{w:World}{H:Hp}{h:Heap}{a:Addr}{o:HO}(x:gj P w H h a o):∃ob,h.get? a=some ob:=by
 cases o with
 | lst xs=>obtain⟨_,_,_,_,e⟩:=x;exact⟨_,e⟩
 | ao xs=>obtain⟨_,_,_,ob,e,_⟩:=x;exact⟨_,e⟩
 | dK kvs=>obtain⟨_,_,_,_,o,_,_,e,_⟩:=x;exact⟨_,e⟩
 | dT kvs=>obtain⟨_,_,o,_,_,e,_⟩:=x;exact⟨_,e⟩
 | set S n=>obtain⟨o,_,_,_,e,_⟩:=x;exact⟨_,e⟩
 | kO C dx fs=>obtain⟨_,_,_,e,_⟩:=x;exact⟨_,e⟩
 | own y=>obtain⟨_,e⟩:=x;exact⟨_,e⟩
 | xd fs=>obtain⟨_,⟨_,_,_,e,_⟩,_⟩:=x;exact⟨_,e⟩
 | rng lo hi=>obtain⟨_,_,_,e⟩:=x;exact⟨_,e⟩
 | pT ob u=>obtain⟨e,_⟩:=x;exact⟨_,e⟩
 | DU q=>obtain⟨_,e,_⟩:=x;exact⟨_,e⟩
 | met f y=>exact⟨_,show h.get? a=some _ from x⟩
 | ext φ=>obtain⟨_,⟨_,e⟩,_⟩:=x;exact⟨_,e⟩
section
variable {P:Program} {w:World} {K:W.Frag} {mg:Str->Option Value} {base:Heap} {N:List Str} {qual:Str} {scope:Scope} {f:Addr} {cd:Value} {A:Around} {ay:List Env} {s:Shared} {H:Hp} {E E1:XK} {ae:List (Addr×Obj)} {σ:St} {H1:Hp} {s1 s':Shared} {e:Value}
def GI(I:Inv (fK (jt P w) P w K mg base N qual scope f cd A ay s H E) ae σ H1 s1){b:Addr}{ob:Obj}(q:s.heap.get? b=some ob)(hb:b∉oS ay):b∉oS (envOfC qual scope s.heap.objs.size f cd::ay):=λhm=>by
 rcases aV.mp (I.xW b hm)with z | z
 ·exact absurd (aW q) (by rw[z];exact gI _)
 ·exact hb z
def Bm(I:Inv (fK (jt P w) P w K mg base N qual scope f cd A ay s H E) ae σ H1 s1)(h:jt P w (envOfC qual scope s.heap.objs.size f cd::ay) H1 s1 E1 e s')(hE:∀cls H2,E1 cls none H2->Dm H H2/\E cls none H2) :
  (fK (jt P w) P w K mg base N qual scope f cd A ay s H E).xe e s':=by
 obtain⟨a,cls,a0,B,H2,rfl,N4,hb,un,hok,sm,he,V5,hB,hU⟩:=h;obtain⟨smH,hE⟩:=hE cls H2 he;have I2:=I.Sk N4 un hok hb (λb z=>absurd z (by simp))
 refine wpAny_leaves_onW I.ok.frames rfl V5 λh' V6 up=>?_
 have hU':∀b ob,s.heap.get? b=some ob->H b=none->b∉oS ay->B.get? b=some ob:=λb ob q n hb=>hU b ob (I.base.keep b ob q n hb (by simp[fK])) (I.base.free b ob q n (by simp[fK])) (GI I q hb)
 exact⟨a,cls,a0,B,H2,rfl,N4.trans I.os,hb,L8 I2.base smH hB hU' V6.1 V5.2.2.1.2.2 up,GH hok hB V5.1 V6.1,smH,hE,V6,hB,hU'⟩
def GJ{h1:Heap}{a:Addr}{cls:Value}{vs:List Value}(I:Inv (fK (jt P w) P w K mg base N qual scope f cd A ay s H E) ae σ H1 s1)(hm:Heap.MadeExcOf s1.heap h1 a cls vs)(smH:Dm H H1)(hE:E cls none H1) :
  (fK (jt P w) P w K mg base N qual scope f cd A ay s H E).xe (.ref a) {s1 with heap:=h1}:=by
 have hB:∀b o,H1 b=some o->∃ob,(W.hideAll s1.heap (oS (envOfC qual scope s.heap.objs.size f cd::ay))).get? b=some ob:=λb o e=>by
  obtain⟨ob,q⟩:=IK (I.hok b o e);exact⟨ob,W.hideAll_get _ q λhb=>by
   have:=I.xX b hb;rw[e]at this;cases this⟩
 have hU:∀b ob,s.heap.get? b=some ob->H b=none->b∉oS ay->(W.hideAll s1.heap (oS (envOfC qual scope s.heap.objs.size f cd::ay))).get? b=some ob:=λb ob q n hb =>
  W.hideAll_get _ (I.base.keep b ob q n hb (by simp[fK])) (GI I q hb)
 refine wpAny_leaves_madeW I.ok.frames rfl (λb o q=>W.of_hideAll _ q) (W.funFrames_hide I.stack λenv he b hb=>sv.mpr ⟨env,he,hb⟩) hm λh' t V5 ao tn up=>?_
 refine⟨a,cls,.ref t,_,H1,rfl,I.os,I.bare,L8 (I.base.trans (Un.kept hm.keeps)) smH hB hU V5.1 (I.funs.of_keeps λb o q _=>⟨o,hm.keeps b o q,rfl⟩) up,GH (I.hok.kept hm.keeps) hB (λb o q=>hm.keeps b o (W.of_hideAll _ q)) V5.1,smH,hE,V5,hB,hU⟩
end
def EF(K:W.Frag)(f:Addr)(cW:Value):Prop:=∃oc od fd Ad,K.lookup f=some ⟨oc,od,.func fd,Ad⟩/\fd.code=cW
def P9{P:Program}{w:World}{K:W.Frag}{mg:Str->Option Value}{base:Heap}{x qual:Str}{st:Stmt}{f:Addr}{fd:FuncData}{N ps:List Str}{k:Nat}{sp:Sp}(F:DV K x qual st f fd)(S:dB N ps (au st))(len:∀vs H Q E,sp vs H Q E->vs.length=ps.length)
  (hbody:∀(cW:Value) (A:Around) (ay:List Env) (s:Shared) (H:Hp) (vs:List V) (Q:VK) (E:XK),EF K f cW->dJ k (A.deeper (envOfC qual (au st) s.heap.objs.size f cW))->sp vs H Q E ->
   ∃t,PSs (fK (jt P w) P w K mg base N qual (au st) f cW A ay s H E) (dk st) t/\t {nx:=λ_ H'=>Q .b9 H',rt:=Q} (start N vs) H):FnOk P w K mg base (jt P w) (k+1) f fd ps sp:=by
 obtain⟨oc,od,kV,doc,pm,an,cW,ct,Ad,rfl,lk,FX⟩:=F.ex;exact Ld lk FX S len λA ay s H vs Q E hr O3=>hbody cW A ay s H vs Q E ⟨oc,od,_,Ad,lk,rfl⟩ hr O3
def qJ(H:Hp)(μ:List Addr):Hp:=λb=>if b∈μ then none else H b
section
variable {K:W.Frag} {aa H H':Hp} {ab F F':Fz} {h h':List aB}
def IL{μ:List Addr}{b:Addr}{o:HO}(e:qJ H μ b=some o):H b=some o/\b∉μ:=by
 unfold qJ at e;split at e
 ·cases e
 ·grind
def IM{μ:List Addr}{b:Addr}(e:qJ H μ b=none):H b=none\/b∈μ:=by
 unfold qJ at e;split at e
 ·grind
 ·grind
def kT.enter(C:kT K aa ab F h H):kT K (qJ H F.μ) F F h H/\∀b o,H b=some o->qJ H F.μ b=some o\/∃n:Nat,F.μ[n]?=some b:=by
 refine⟨⟨C.sub,λb o e=>(IL e).1,Gr.refl F,λa o e=>.inl e,λn a e=>⟨if_pos (cB e),(C.new n a e).2⟩,C.hl,C.nd,C.cell⟩,λb o e=>?_⟩
 by_cases hb:b∈F.μ
 ·obtain⟨n,hn⟩:=oq.mp hb;exact .inr ⟨n,hn⟩
 ·exact .inl (by unfold qJ;rw[if_neg hb];exact e)
def kT.leave(C:kT K aa ab F h H)(D:kT K (qJ H F.μ) F F' h' H'):kT K aa ab F' h' H':=by
 have none_of:∀a,qJ H F.μ a=none->aa a=none:=λa e=>by
  rcases IM e with z | z
  ·exact C.keep.free z
  ·obtain⟨n,hn⟩:=oq.mp z;exact(C.new n a hn).1
 refine⟨D.sub,λb o e=>D.keep b o ?_,C.base.trans D.base,λa o e=>?_,λn a e=>⟨none_of a (D.new n a e).1,(D.new n a e).2⟩,D.hl,D.nd,D.cell⟩
 ·unfold qJ;rw[if_neg λhb=>?_]
  ·exact C.keep b o e
  ·obtain⟨n,hn⟩:=oq.mp hb;rw[(C.new n b hn).1]at e;cases e
 ·rcases D.fresh a o e with z | z
  ·exact C.fresh a o z
  ·grind
end
abbrev qK:=List PV->List aB->Option (Rs PV×List aB)
def V7(K:W.Frag)(aa:Hp)(F:Fz)(h':List aB)(Q:VK)(E:XK):Rs PV->Prop
 | .ok p=>∀v F' H',kT K aa F F' h' H'->bQ K F' p v->Q v H'
 | .ex _ C=>∀cls F' H',kT K aa F F' h' H'->ClsAt K C cls->E cls none H'
def IP(K:W.Frag)(n:Nat)(f:qK):Sp:=λvs H Q E=>∃aa F h ps r h',kT K aa F F h H/\(∀b o,H b=some o->aa b=some o\/∃n:Nat,F.μ[n]?=some b)/\aF K F ps vs/\ps.length=n/\f ps h=some (r,h')/\V7 K aa F h' Q E r
noncomputable def gz(n:Nat)(ps:List PV):List (Option PV):=ps.map some++List.replicate (n-ps.length) none
noncomputable def aac:Rs eX×dq->Option (Rs PV×List aB)
 | (.ok (.rt p),st)=>some (.ok p,st.h)
 | (.ok .nx,st)=>some (.ok .b9,st.h)
 | (.ex m C,st)=>some (.ex m C,st.h)
 | _=>none
def du(fb:Gx eX)(n:Nat):qK:=λps h=>(fb ⟨gz n ps,h⟩).bind aac
def Bn{K:W.Frag}{F:Fz}{ps:List PV}{vs:List V}{N:List Str}(b:aF K F ps vs):Lc K F (gz N.length ps) (start N vs) where
 av:=λi p e=>by
  unfold gz at e;unfold start;by_cases hi:i<ps.length
  ·rw[jD (by simpa using hi),bZ]at e
   cases z:ps[i]? with
   | none=>rw[z]at e;cases e
   | some q =>
    rw[z]at e;cases e;obtain⟨v,h1,h2⟩:=b.get z;refine⟨v,?_,h2⟩;rw[jD (by simpa using (b.length▸hi)),bZ,h1]
    rfl
  ·rw[rX (by simpa using hi),List.getElem?_replicate]at e
   split at e<;>cases e
 len:=by unfold gz start;simp[b.length]
def GL{K:W.Frag}{aa H H':Hp}{F F':Fz}{h':List aB}(full:∀b o,H b=some o->aa b=some o\/∃n:Nat,F.μ[n]?=some b)(D:kT K aa F F' h' H'):Dm H H':=λb o e=>by
 rcases full b o e with z | ⟨n,hn⟩
 ·exact⟨o,D.keep b o z⟩
 ·exact(D.new n b (D.base.m n b hn)).2
def L9{P:Program}{w:World}{K:W.Frag}{mg:Str->Option Value}{base:Heap}{x qual:Str}{st:Stmt}{f:Addr}{fd:FuncData}{N ps:List Str}{k:Nat}{fb:Gx eX}(F:DV K x qual st f fd)(S:dB N ps (au st))
  (hbody:∀(cW:Value) (A:Around) (ay:List Env) (s:Shared) (H:Hp) (E:XK),EF K f cW->dJ k (A.deeper (envOfC qual (au st) s.heap.objs.size f cW))->∀(aa:Hp) (ab:Fz),
   PSs (fK (jt P w) P w K mg base N qual (au st) f cW A ay s H E) (dk st) (tS (fK (jt P w) P w K mg base N qual (au st) f cW A ay s H E) aa ab fb)):FnOk P w K mg base (jt P w) (k+1) f fd ps (IP K ps.length (du fb N.length)):=by
 refine P9 F S (by rintro vs H Q E ⟨_,_,_,_,_,_,_,_,b,hl,_⟩;rw[<-b.length];exact hl) λcW A ay s H vs Q E Vp hr z9=>?_
 obtain⟨aa,F,h,as,r,h',C,full,b,hl,hf,res⟩:=z9;refine⟨_,hbody cW A ay s H E Vp hr aa F,F,⟨gz N.length as,h⟩,⟨C,Bn b⟩,?_⟩;obtain⟨q,e1,e2⟩:=bf hf;refine⟨q,e1,?_⟩;rcases q with⟨f | ⟨m,c⟩,st⟩
 ·cases f with
  | rt=>cases e2;exact λv F' H' C' g b'=>res v F' H' C' b'
  | nx=>cases e2;exact λF' bM H' R g=>res .b9 F' H' R.c (dD.mpr rfl)
  | _=>cases e2
 ·cases e2;cases m with
  | true=>exact λF' bM H' ae s1 h1 a cls vs R sf I hc hm=>GJ I hm (GL full R.c) (res cls F' H' R.c hc)
  | false=>exact λbM ae H1 s1 e s' I h=>Bm I h (by rintro cls H2 ⟨hc,F',R,sf⟩;exact⟨GL full R.c,res cls F' H2 R.c hc⟩)
mutual
def noRef:PV->Bool
 | .ref _=>false
 | .nd _ ps=>ah ps
 | _=>true
def ah:List PV->Bool
 | []=>true
 | p::ps=>noRef p&&ah ps
end
section
variable {K:W.Frag} {F:Fz} {μ:List Addr}
mutual
theorem bQ.any:∀{p:PV} {v:V},noRef p=true->bQ K F p v->bQ K ⟨F.F,μ⟩ p v
 | .b9,_,_,b=>dD.mpr (dD.mp b)
 | .bl _,_,_,b=>cf.mpr (cf.mp b)
 | .int _,_,_,b=>aI.mpr (aI.mp b)
 | .str _,_,_,b=>cZ.mpr (cZ.mp b)
 | .fn _,_,_,b=>tM.mpr (tM.mp b)
 | .ref _,_,h,_=>by simp[noRef]at h
 | .nd k ps,_,h,b=>by
  obtain⟨a,vs,h1,h2,h3⟩:=jJ.mp b;exact jJ.mpr ⟨a,vs,h1,h2,aF.any h h3⟩
theorem aF.any:∀{ps:List PV} {vs:List V},ah ps=true->aF K F ps vs->aF K ⟨F.F,μ⟩ ps vs
 | [],_,_,b=>by rw[b.cU];exact .nil
 | _::_,_,h,b=>by
  simp only[ah,aO]at h;obtain⟨v,r,rfl,b1,b2⟩:=b.cq;exact .cons (b1.any h.1) (aF.any h.2 b2)
end
end
def ve(h:List aB):Nat->PV->Option PV
 | 0,p=>if noRef p=true then some p else none
 | n+1,p=>if noRef p=true then some p else match p with
  | .ref m=>(h[m]?).bind λc=>if live c=true then(cL (ve h n) c.ps).map (.nd c.k)else none
  | .nd k ps=>(cL (ve h n) ps).map (.nd k)
  | _=>none
open Classical in
noncomputable def lr (F:Fz) (h:List aB) (H:Hp):Hp:=λa=>match F.F a with
 | some o=>some o
 | none=>if(∃(n:Nat) (c:aB),F.μ[n]?=some a/\h[n]?=some c/\live c=true)then H a else none
section
variable {K:W.Frag} {aa H:Hp} {ab F:Fz} {h:List aB}
def jx{a:Addr}{o:HO}(e:F.F a=some o):lr F h H a=some o:=by unfold lr;rw[e]
def IQ{a:Addr}{n:Nat}{c:aB}(e:F.F a=none)(h1:F.μ[n]?=some a)(h2:h[n]?=some c)(h3:live c=true):lr F h H a=H a:=by
 unfold lr;rw[e];exact if_pos ⟨n,c,h1,h2,h3⟩
def Bo{a:Addr}{o:HO}(e:lr F h H a=some o):F.F a=some o\/(H a=some o/\∃n:Nat,F.μ[n]?=some a):=by
 unfold lr at e;split at e
 ·grind
 ·split at e
  ·grind
  ·cases e
def kT.ve(C:kT K aa ab F h H)(μ:List Addr):∀(n:Nat) (p q:PV) (v:V),ve h n p=some q->bQ K F p v->bQ K ⟨lr F h H,μ⟩ q v:=by
 have keep:∀{p:PV} {v:V},noRef p=true->bQ K F p v->bQ K ⟨lr F h H,μ⟩ p v:=λhn b =>
  bQ.mono (F:=⟨F.F,μ⟩) (F':=⟨lr F h H,μ⟩) ⟨λb o e=>jx e,λ_ _ e=>e⟩ (b.any hn)
 intro n;induction n with
 | zero =>
  intro p q v e b;obtain⟨hn,rfl⟩:=aJ e;exact keep hn b
 | succ n ih =>
  intro p q v e b;unfold U.ve at e;split at e
  ·grind
  ·have list:∀(ps qs:List PV) vs,cL (U.ve h n) ps=some qs->aF K F ps vs->aF K ⟨lr F h H,μ⟩ qs vs:=by
    intro ps;induction ps with
    | nil=>intro qs vs e b;cases e;rw[b.cU];exact .nil
    | cons p ps ih2 =>
     intro qs vs e b;obtain⟨y,r,e1,e2,rfl⟩:=gw e;obtain⟨v,w,rfl,b1,b2⟩:=b.cq;exact .cons (ih p y v e1 b1) (ih2 r w e2 b2)
   split at e
   ·obtain⟨c,e1,e⟩:=bf e;obtain⟨hl,e⟩:=bR e;obtain⟨qs,e2,rfl⟩:=bz e;obtain⟨a,h1,h2⟩:=d8.mp b;obtain⟨hF,vs,h3,h4⟩:=C.cell _ c a e1 h1 hl;exact jJ.mpr ⟨a,vs,h2,h3.to (λb o e=>jx e) (λo e=>by rw[show(Fz.mk (lr F h H) μ).F a=lr F h H a from rfl,IQ hF h1 e1 hl];exact e) (λz=>by cases z),list _ _ _ e2 h4⟩
   ·obtain⟨qs,e2,rfl⟩:=bz e;obtain⟨a,vs,h1,h2,h3⟩:=jJ.mp b;exact jJ.mpr ⟨a,vs,h1,h2.to (λb o e=>jx e) (λo e=>jx e) id,list _ _ _ e2 h3⟩
   ·cases e
end
section
variable {X:Cx} {aa:Hp} {ab:Fz} {e:Expr} {es:List Expr} {ts:Gx (List PV)} {pos p:Pos} {k n:Nat} {f:Addr} {fd:FuncData} {ps:List Str} {x:Str} {g:qK}
def rA{CX:J0}{sp:Sp}{E:XK}{ae:List (Addr×Obj)}{σ:St}{H:Hp}{s:Shared}{Q:VK}{us:List Value}{vs:List V}(F:FnOk X.prog X.w X.K X.mg X.base CX k f fd ps sp)(hr:dJ k X.A)(hb:gP X.K fd ps [])(hx:∀e s',CX X.stack H s E e s'->X.xe e s')
  (I:Inv X ae σ H s) (r:Vals vs us) (h:sp vs H Q E):wpAny (model X.prog X.w) X.A (call (.ref f) us) (EP X ae σ Q) X.xe s:=by
 have hbb:=hb s us I.sX (by rw[fA,<-r.length];exact F.len _ _ _ _ h)
 rw[fA]at hbb;refine sP (kf (F.run X.A X.stack s H ⟨us,[]⟩ us vs Q E hr I.O0 hbb r h) λr s' hq=>?_)
 cases r with
 | error e=>exact hx e s' hq
 | ok fl =>
  cases fl with
  | ret u=>exact I.after hq
  | next=>exact False.elim hq
  | brk=>exact False.elim hq
  | cont=>exact False.elim hq
noncomputable def aad:Rs PV->Rs PV
 | .ok p=>.ok p
 | .ex _ C=>.ex false C
def o9(h:List aB)(p:PV):Option PV:=if h.isEmpty=true then some p else ve h 4 p
def V8(st:dq):Rs PV×List aB->Option (Rs PV×dq)
 | (.ok p,h)=>(o9 h p).map λq=>(.ok q,st)
 | (.ex _ C,_)=>some (.ex false C,st)
def EG(n:Nat)(g:qK)(as:List PV):Gx PV:=λst=>if as.length=n then(g as st.h).map λr=>(aad r.1,⟨st.ρ,r.2⟩)else none
def pe(n:Nat)(g:qK)(as:List PV):Gx PV:=λst=>if as.length=n/\(st.h.isEmpty || ah as)=true then(g as []).bind (V8 st)else none
def SX(n:Nat)(g:qK)(ts:Gx (List PV)):Gx PV:=bnd ts (pe n g)
def QE(X:Cx)(f:Addr)(w:List PV->Gx PV):Prop:=∀(aa H:Hp) (ab F:Fz) (st:dq) (σ:St) (ae:List (Addr×Obj)) (s:Shared) (Q:VK) (as:List PV) (us:List Value) (vs:List V),Inv X ae σ H s->Rep X.K aa ab F st σ H->aF X.K F as vs->Vals vs us->Tx X aa ab (bQ X.K) F st (w as) σ Q ->
 wpAny (model X.prog X.w) X.A (call (.ref f) us) (EP X ae σ Q) X.xe s
def aes(G:FnOk X.prog X.w X.K X.mg X.base (jt X.prog X.w) k f fd ps (IP X.K n g))(hr:dJ k X.A)(hb:gP X.K fd ps []):QE X f (EG n g):=by
 rintro aa H ab F st σ ae s Q as us vs I R b r ⟨q,e1,e2⟩
 obtain⟨hl,e1⟩:=bR e1;obtain⟨⟨rs,h'⟩,e3,e4⟩:=bz e1;subst e4;obtain⟨C,full⟩:=R.c.enter;cases rs with
 | ok p'=>exact rA G hr hb (λe s' hx=>A0 ae σ H s e s' I hx) I r ⟨_,F,st.h,as,_,h',C,full,b,hl,e3,λv F' H' D b'=>e2 v H' F' ⟨R.c.leave D,R.l.mono D.base⟩ D.base b'⟩
 | ex m c=>exact thn (rA (Q:=λ_ _=>False) G hr hb (λe s' hx=>e2 σ ae H s e s' I hx) I r ⟨_,F,st.h,as,_,h',C,full,b,hl,e3,λcls F' H' D hc=>⟨hc,F',⟨R.c.leave D,R.l.mono D.base⟩,D.base⟩⟩) (by rintro v s3 ⟨_,_,_,_,z⟩;exact z.elim)
def Rep.back{K:W.Frag}{aa H H1 H':Hp}{ab F F':Fz}{μ:List Addr}{st:dq}{σ:St}{h':List aB}(R:Rep K aa ab F st σ H)(hH:cP H H1)(D:kT K H1 ⟨F.F,μ⟩ F' h' H'):Rep K aa ab ⟨lr F' h' H',F.μ⟩ st σ H'/\Gr F ⟨lr F' h' H',F.μ⟩:=by
 have g:cP F.F (lr F' h' H'):=λb o e=>jx (D.base.s b o e)
 refine⟨R.after (hH.trans D.keep) g rfl (λb o e=>?_) (λa o e=>?_),g,λ_ _ z=>z⟩
 ·rcases Bo e with z | ⟨z,_⟩
  ·exact D.sub b o z
  ·exact z
 ·rcases Bo e with z | ⟨_,n,z⟩
  ·exact(D.fresh a o z).imp_right hH.free
  ·exact .inr (hH.free (D.new n a z).1)
def kT.pure{K:W.Frag}{aa H:Hp}{ab F:Fz}{h:List aB}(C:kT K aa ab F h H):kT K H ⟨F.F,[]⟩ ⟨F.F,[]⟩ [] H :=
 ⟨C.sub,cP.refl H,Gr.refl _,λa o e=>.inl e,λn a e=>by simp at e,rfl,oG,λn c a e=>by simp at e⟩
def Ma{K:W.Frag}{H H':Hp}{G F':Fz}{h':List aB}{p q:PV}{v:V}(μ:List Addr)(D:kT K H G F' h' H')(e:o9 h' p=some q)(b:bQ K F' p v):bQ K ⟨lr F' h' H',μ⟩ q v:=by
 unfold o9 at e;split at e
 ·rename_i z;cases e;have e0:F'.μ=[]:=lU (by rw[<-D.hl,xy.mp z];rfl)
  exact b.mono ⟨λb o e=>jx e,λn a e=>by rw[e0]at e;simp at e⟩
 ·exact D.ve μ _ _ _ _ e b
def wx{K:W.Frag}{aa H:Hp}{ab F:Fz}{st:dq}{σ:St}{as:List PV}{vs:List V}(R:Rep K aa ab F st σ H)(hn:(st.h.isEmpty || ah as)=true)(b:aF K F as vs)(μ:List Addr):aF K ⟨F.F,μ⟩ as vs:=by
 rcases DP _ _▸hn with z | z
 ·have e0:F.μ=[]:=lU (by rw[<-R.c.hl,xy.mp z];rfl)
  exact aF.mono (F:=F) (F':=⟨F.F,μ⟩) ⟨cP.refl _,λn a e=>by rw[e0]at e;simp at e⟩ b
 ·exact b.any z
def aae(G:FnOk X.prog X.w X.K X.mg X.base (jt X.prog X.w) k f fd ps (IP X.K n g))(hr:dJ k X.A)(hb:gP X.K fd ps []):QE X f (pe n g):=by
 rintro aa H ab F st σ ae s Q as us vs I R b r ⟨q,e1,e2⟩
 obtain⟨⟨hl,hn⟩,e1⟩:=bR e1;obtain⟨⟨rs,h'⟩,e3,e4⟩:=bf e1;have full:∀b o,H b=some o->H b=some o\/∃n:Nat,(Fz.mk F.F []).μ[n]?=some b:=by grind
 have b3:=wx R hn b [];cases rs with
 | ok p' =>
  obtain⟨p2,e5,e6⟩:=bz e4;subst e6;refine rA G hr hb (λe s' hx=>A0 ae σ H s e s' I hx) I r ⟨H,⟨F.F,[]⟩,[],as,_,h',R.c.pure,full,b3,hl,e3,λv F' H' D b'=>?_⟩
  obtain⟨R3,g3⟩:=R.back (cP.refl _) D;exact e2 v H' _ R3 g3 (Ma F.μ D e5 b')
 | ex m c =>
  cases e4;refine thn (rA (Q:=λ_ _=>False) G hr hb (λe s' hx=>e2 σ ae H s e s' I hx) I r ⟨H,⟨F.F,[]⟩,[],as,_,h',R.c.pure,full,b3,hl,e3,λcls F' H' D hc=>?_⟩) (by rintro v s3 ⟨_,_,_,_,z⟩;exact z.elim)
  obtain⟨R3,g3⟩:=R.back (cP.refl _) D;exact⟨hc,_,R3,g3⟩
def V9{w:List PV->Gx PV}(G:QE X f w)(hg:Gl X x)(hm:X.mg x=some (.ref f))(hk:W.keepIn X.K (.ref f)=true)(ha:PA X (e::es) (tA X aa ab ts))(O2:(x==("__debug__":Str))=false)
  (he:starEach (e::es) X.env=(false,eval e X.env)::starEach es X.env) (mI:(backTo pos (starEach es X.env)).any (·.1)=false):PE X (.Call (.Name x p) (e::es) [] pos) (tE X aa ab (bnd ts w)):=by
 rintro ae s σ H Q I ⟨F1,st,R,h⟩
 refine j9 (ld_glob I hg hm ?_ O2);exact W.callWith_K I.ok.mod.kin hk (thn (ha pos ae s σ H (λvs H2=>∃F2 st2 as,Rep X.K aa ab F2 st2 σ H2/\aF X.K F2 as vs/\Tx X aa ab (bQ X.K) F2 st2 (w as) σ Q) I
  ⟨F1,st,R,h.bnd λas vs F2 st2 H2 R2 g2 b2 h2=>⟨F2,st2,as,R2,b2,h2⟩⟩) (by rintro us s1 ⟨vs,H2,I2,r,F2,st2,as,R2,b2,z⟩;exact⟨I2.sX,G _ _ _ _ _ _ _ _ _ _ _ _ I2 R2 b2 r z⟩)) he mI
end
def aaf(T:String):Kd->Bool
 | .lst=>T=="list"
 | .gU _ _=>T=="dict"
 | _=>false
def tyG(T:String)(p:PV):Gx Unit:=hp λh=>(cH h p).bind λq=>if aaf T q.1=true then some ()else none
section
variable {X:Cx} {aa:Hp} {ab:Fz} {e o:Expr} {es:List Expr} {fo fe:Gx PV} {ts:Gx (List PV)} {pos sQ k8:Pos} {T id:String} {name:Str} {r:V->List V->Hp->VK->Prop}
def Rep.tyV{K:W.Frag}{st:dq}(R:Rep K aa ab F st σ H)(e:cH st.h p=some (k,ps))(ht:aaf T k=true)(b:bQ K F p v):L2.tyV K T v H:=by
 obtain⟨a,vs,rfl,h2,h3⟩:=R.at e b
 match k,ht,h2 with
 | .lst,ht,h2=>exact .inl ⟨aY ht,vs,kP.sq h2⟩
 | .gU false ks,ht,⟨kvs,h2,_⟩=>exact .inr (.inr (.inl ⟨aY ht,.inl ⟨kvs,h2⟩⟩))
 | .gU true ks,ht,⟨xs,h2,_⟩=>exact .inr (.inr (.inl ⟨aY ht,.inr ⟨xs,h2⟩⟩))
def Dj(T:String)(w:PV->List PV->Gx PV)(fo:Gx PV)(ts:Gx (List PV)):Gx PV:=bnd fo λp=>bnd (tyG T p) λ_=>bnd ts λas=>w p as
def WdT(X:Cx)(r:V->List V->Hp->VK->Prop)(w:PV->List PV->Gx PV):Prop:=∀(aa H:Hp) (ab F:Fz) (st:dq) (σ:St) (p:PV) (as:List PV) (v:V) (ws:List V) (Q:VK),Tx X aa ab (bQ X.K) F st (w p as) σ Q->Rep X.K aa ab F st σ H->bQ X.K F p v->aF X.K F as ws->r v ws H Q
def yF(hw:WdT X r w)(h:tE X aa ab (Dj T w fo ts) σ H Q):tBM X.K T r (tE X aa ab fo) (tA X aa ab ts) σ H Q:=by
 obtain⟨F,st,R,h⟩:=h;refine⟨F,st,R,h.bnd λp v F1 bA H1 R1 g1 b1 h1=>?_⟩
 obtain⟨u,e,z⟩:=At.hp (At.bnd h1);obtain⟨⟨k,ps⟩,e1,e2⟩:=bf e;obtain⟨hk,_⟩:=aJ e2;refine⟨R1.tyV e1 hk b1,F1,bA,R1,Tx.bnd z λas ws F2 st2 H2 R2 g2 b2 h2=>hw aa H2 ab F2 st2 σ p as v ws Q h2 R2 (b1.mono g2) b2⟩
def QF(hw:WdT X r w)(h:tE X aa ab (Dj T w fo (aN [])) σ H Q):Zb X.K T r (tE X aa ab fo) σ H Q:=by
 obtain⟨F,st,R,h⟩:=h;refine⟨F,st,R,h.bnd λp v F1 bA H1 R1 g1 b1 h1=>?_⟩
 obtain⟨u,e,z⟩:=At.hp (At.bnd h1);obtain⟨⟨k,ps⟩,e1,e2⟩:=bf e;obtain⟨hk,_⟩:=aJ e2;exact⟨R1.tyV e1 hk b1,hw aa H1 ab F1 bA σ p [] v [] Q (At.aN (At.bnd z)) R1 b1 .nil⟩
def yG(hg:Ey X.K r g):WdT X r (mq g):=λ_ _ _ _ _ _ _ _ _ _ _ h R bp ba=>Tx.mut hg h R bp ba
def Wa:WdT X (VY X.K) yB:=λ_ _ _ _ _ _ _ _ _ _ _ h R bp ba=>Tx.ext h R bp ba
def GN(m:Str):Option (String×(PV->List PV->Gx PV)) :=
 if m==("append":Str)then some ("list",mq (i8 Be))
 else if m==("extend":Str)then some ("list",yB)
 else if m==("insert":Str)then some ("list",mq (i8 LN))
 else if m==("setdefault":Str)then some ("dict",mq IG)
 else none
def EH(m:Str):Option (String×(PV->List PV->Gx PV)) :=
 if m==("reverse":Str)then some ("list",mq (i8 PN))
 else if m==("pop":Str)then none
 else if m==("clear":Str)then none
 else none
def aet(ht:GN name=some (T,w))(ho:PE X o (tE X aa ab fo))(ha:PA X (e::es) (tA X aa ab ts))(lB:attributeBase o name X.env (eval o X.env)=eval o X.env)
  (Ia:((backTo k8 (starEach (e::es) X.env)).all (λx=>!x.1)&&(backToKw k8 (keywordEach [] X.env)).all (λx=>x.1.isSome)&&decide ((e::es).length+([]:List Keyword).length+(if([]:List Keyword).isEmpty then 0 else 1)<30))=true)
  (jZ:(sQ.endLine==k8.line)=true) (qB:starEach (e::es) X.env=(false,eval e X.env)::starEach es X.env) (mI:(backTo k8 (starEach es X.env)).any (·.1)=false):PE X (.Call (.Attribute o name sQ) (e::es) [] k8) (tE X aa ab (Dj T w fo ts)):=by
 unfold GN at ht;split at ht
 ·rename_i hx;cases ht;have hx:=aY hx;subst hx;exact(Ge xc PySem.F.slot_list_append PySem.F.type_list_append Ib ho ha lB Ia jZ qB mI).imp λ_ _ _ h=>yF (yG PM) h
 ·split at ht
  ·rename_i hx;cases ht;have hx:=aY hx;subst hx;exact(Ge xc PySem.F.slot_list_extend PySem.F.type_list_extend VZ ho ha lB Ia jZ qB mI).imp λ_ _ _ h=>yF Wa h
  ·split at ht
   ·rename_i hx;cases ht;have hx:=aY hx;subst hx;exact(Ge xc PySem.F.slot_list_insert PySem.F.type_list_insert IF ho ha lB Ia jZ qB mI).imp λ_ _ _ h=>yF (yG PR) h
   ·split at ht
    ·rename_i hx;cases ht;have hx:=aY hx;subst hx;exact(Ge PySem.F.plainAttrs_dict Kb PySem.F.type_dict_setdefault VW ho ha lB Ia jZ qB mI).imp λ_ _ _ h=>yF (yG PU) h
    ·cases ht
def aag(ht:EH name=some (T,w))(ho:PE X o (tE X aa ab fo))(lB:attributeBase o name X.env (eval o X.env)=eval o X.env)(jZ:(sQ.endLine==k8.line)=true) :
  PE X (.Call (.Attribute o name sQ) [] [] k8) (tE X aa ab (Dj T w fo (aN []))):=by
 unfold EH at ht;split at ht
 ·rename_i hx;cases ht;have hx:=aY hx;subst hx;exact(Li xc PySem.F.slot_list_reverse PySem.F.type_list_reverse Ef ho lB jZ).imp λ_ _ _ h=>QF (yG PQ) h
 ·grind
def IS(po pi pv:PV):dq->Option dq:=λst=>(yz st.h po).bind λc=>match c.2.k with
 | .lst=>(m8 pi).bind λi=>(O9 c.2.ps.length i).map λj=>⟨st.ρ,st.h.set c.1 ⟨.lst,c.2.ps.set j pv⟩⟩
 | .gU t ks=>(j0 t pi).bind λk=>if ks.length<gF then some ⟨st.ρ,st.h.set c.1 (qI t k pv ks c.2.ps)⟩else none
 | _=>none
def aeu(K:W.Frag):KO:=λo i v H Q=>∃aa ab F st τ po pi pv az,IS po pi pv st=some az/\Rep K aa ab F st τ H/\bQ K F po o/\bQ K F pi i/\bQ K F pv v/\∀H' F',Rep K aa ab F' az τ H'->Gr F F'->Q H'
def aah(hu:X.A.units+1150<cLine):KP X (aeu X.K):=by
 rintro ae s σ H o i v ov iv u Q I ro ri rv ⟨aa,ab,F,st,τ,po,pi,pv,az,e,R,bo,bi,bv,k⟩
 obtain⟨⟨n,c⟩,e1,e0⟩:=bf e;clear e;have e:=e0;clear e0;obtain⟨rfl,hc,hl⟩:=kX e1;obtain⟨a,ha,rfl⟩:=d8.mp bo;obtain⟨_,vs,h2,h3⟩:=R.c.cell n c a hc ha hl;split at e
 ·rename_i hk;obtain⟨j,e2,e⟩:=bf e;obtain⟨m,e3,rfl⟩:=bz e;rw[gy e2]at bi;have hk:=hk;rw[hk]at h2;refine Lg ae s σ H _ _ v ov iv u Q I ro ri rv ⟨a,vs,j,m,rfl,aI.mp bi,h2,by rw[<-h3.length];exact e3,k _ F (R.put hc hl ha aH (h3.set bv m)) (Gr.refl _)⟩
 ·rename_i t ks hk;have hk:=hk;obtain⟨kk,e2,e⟩:=bf e;obtain⟨hz,rfl⟩:=aJ e;rw[hk]at h2;cases t with
  | false =>
   obtain⟨kvs,g1,g2,g3⟩:=h2;obtain⟨j,rfl,rfl⟩:=kx e2 bi;rw[<-g3]at h3;obtain⟨Af,Di,p1,p2,p3⟩:=LJ (j:=j) bv h3;have eF:kvs.length<sizeLine:=by
    have:ks.length=kvs.length:=by grind
    exact bW (by grind) (fV (aq _))
   rw[g2]at p1;refine V0 ae s σ H _ _ v ov iv u Q I ro ri rv ⟨a,kvs,j,rfl,rfl,g1,eF,k _ F ?_ (Gr.refl _)⟩;simp only[p1];exact R.put hc hl ha ⟨_,aH,p2,rfl⟩ p3
  | true =>
   obtain⟨xs,g1,g2,g3,g4⟩:=h2;obtain⟨cc,rfl,hcc⟩:=ni e2 bi;refine V1 (by lia) ae s σ H _ _ v ov iv u Q I ro ri rv ⟨a,cc,xs,kk,rfl,rfl,g1,λz hz=>bL R.sub (g2 z hz),bL R.sub hcc,(by
    have:ks.length=xs.length:=by grind
    exact bW (by grind) (fV (aq _))),λr hr=>?_⟩
   obtain⟨Af,Di,ym,p1,p2,p3,p4,p5⟩:=VU bv hr hcc g2 h3 g4;rw[g3]at p1;refine k _ F ?_ (Gr.refl _);simp only[p1];exact R.put hc hl ha ⟨_,aH,p3,p2,p5⟩ p4
 ·cases e
def QG(fv fo fi:Gx PV):Gx eX:=bnd fv λv=>bnd fo λo=>bnd fi λi=>stp (IS o i v)
def aai(hu:X.A.units+1150<cLine)(he:PE X e (tE X aa ab fv))(ho:PE X o (tE X aa ab fo))(hi:PE X k (tE X aa ab fi))
  (ha:∀v,assign (.Subscript o k II) X.env v=(do
   let ov <-holding [v] (eval o X.env)
   let iv <-holding [v,ov] (eval k X.env)
   standAt II
   holding [v,ov,iv] (setItem ov iv v)
   release [v,ov,iv] []))
  (hs:swapsWithSole [.Subscript o k II] e pos.line X.env=pure false) (hw:swappedStores [.Subscript o k II] e X.env=pure none):PS X (.Assign [.Subscript o k II] e pos) (tS X aa ab (QG fv fo fi)) :=
 (KR he (UJ ho hi (aah hu) ha) hs hw rfl).imp λD σ H ⟨F,st,R,h⟩=>⟨F,st,R,h.bnd λpv v F1 bA H1 R1 g1 b1 h1=>⟨F1,bA,R1,h1.bnd λpo o F2 st2 H2 R2 g2 b2 h2=>⟨F2,st2,R2,h2.bnd λpi i F3 vO H3 R3 g3 b3 h3=>by
  obtain⟨az,e,z⟩:=h3.stp;exact⟨aa,ab,F3,vO,σ,po,pi,pv,az,e,R3,b2.mono g3,b3,b1.mono (g2.trans g3),λH' F' R' g'=>z F' σ H' R' g'⟩⟩⟩⟩
def Mb(t:Bool):Gx PV:=mj ⟨.gU t [],[]⟩
def aaj(t:Bool):PE X (.Dict [] [] pos) (tE X aa ab (Mb t)):=by
 cases t with
 | false=>exact LM.imp (by rintro σ H Q ⟨F,st,R,h⟩ p hp;exact Tx.mj h R hp ⟨[],aH,rfl,rfl⟩ .nil)
 | true=>exact Pj.imp (by rintro σ H Q ⟨F,st,R,h⟩ p hp;exact Tx.mj h R hp ⟨[],aH,(λ_ z=>nomatch z),rfl,.nil⟩ .nil)
end
def GO(K:W.Frag)(mg:Str->Option Value)(P:Params)(T:Str)(rows:List (Str×Str)):Prop :=
 ∃a es n,mg T=some (.ref a)/\K.lookup a=some ⟨.type "dict",none,.dict es n,#[]⟩/\W.KeysLit P es.toList/\∀k fn,rows.lookup k=some fn->∃f,W.nsIn K a k=some (some (.ref f))/\mg fn=some (.ref f)/\W.nsIn K mainGlobals fn=some (some (.ref f))
def aev(K:W.Frag)(a:Addr):R2:=λx y H Q=>∃k u v,x=.ref a/\y=.str k/\W.nsIn K a k=some (some u)/\RelV v u/\Q v H
def Wb:PV->Option Str | .str x=>some x | _=>none
def IT(h:Wb p=some i):p=.str i:=by
 cases p<;>first | (cases h;rfl) | cases h
section
variable {X:Cx} {aa:Hp} {ab:Fz} {e ke:Expr} {es:List Expr} {fk fe ff:Gx PV} {ts:Gx (List PV)} {pos p sp:Pos} {T:Str}
def Wc{es:Array DictEntry}(hl:X.K.lookup a=some ⟨.type "dict",none,.dict es n,#[]⟩)(hk:W.KeysLit X.w.params es.toList):X3 X (aev X.K a):=by
 rintro value slice ae s σ H x y v u Q I rx ry ⟨k,u',v',ex,ey,e,rv,q⟩ hs
 subst ex ey;cases rx;obtain⟨t,rfl⟩:=ry;have hm:=W.mapOf_K (prog:=X.prog) I.sX hl hk;exact tail_any hm.typeIs slot_dict_getitem.lookup (wpAny_getItem_of (strKind_is X.prog X.w k t) hm (W.find_K hl e) ⟨v',H,I.tok _,rv,q⟩) hs
def Mc(OS:Str->Option PV)(fk:Gx PV):Gx PV:=bnd fk λq=>lb ((Wb q).bind OS)
def aak(ht:GO X.K X.mg X.w.params T rows)(hg:Gl X T)(hk:PE X ke (tE X aa ab fk))(hs:q8 ke)(O2:(T==("__debug__":Str))=false):PE X (.Subscript (.Name T p) ke sp) (tE X aa ab (Mc (λk=>(rows.lookup k).map .fn) fk)):=by
 obtain⟨a,YH,n,t1,t2,t3,t4⟩:=ht;refine(Sv (Wc t2 t3) (FZ (v:=.ref a) hg t1 rfl O2) hk hs).imp λσ H Q ⟨F,st,R,h⟩=>?_
 refine⟨F,st,R,h.bnd λpk v F1 bA H1 R1 g1 b1 h1=>?_⟩
 obtain⟨q,e1,z⟩:=h1.lb;obtain⟨k,e2,e3⟩:=bf e1;obtain⟨fn,e4,rfl⟩:=bz e3;rw[IT e2]at b1;obtain⟨f,n1,n2,n3⟩:=t4 k fn e4;exact⟨k,.ref f,.ref f,rfl,cZ.mp b1,n1,rfl,z _ H1 F1 R1 (Gr.refl _) (tM.mpr ⟨f,rfl,n3⟩)⟩
def SY(X:Cx)(fns:List (Str×Nat))(call:Str->qK):Prop:=∀x n,fns.lookup x=some n->∃k f fd ps,FnOk X.prog X.w X.K X.mg X.base (jt X.prog X.w) k f fd ps (IP X.K n (call x))/\dJ k X.A/\X.mg x=some (.ref f)/\W.keepIn X.K (.ref f)=true/\gP X.K fd ps []
def fnP:PV->Option Str | .fn x=>some x | _=>none
def Me{p:PV}(h:fnP p=some i):p=.fn i:=by
 cases p<;>first | (cases h;rfl) | cases h
def Bp(fns:List (Str×Nat))(call:Str->qK)(ff:Gx PV)(ts:Gx (List PV)):Gx PV:=bnd ff λq=>bnd (lb ((fnP q).bind λx=>(fns.lookup x).map λn=>(x,n))) λx=>SX x.2 (call x.1) ts
def yH(v k:Expr)(sp:Pos)(args:List Expr)(pos:Pos)(env:Env):eval (.Call (.Subscript v k sp) args [] pos) env=(do callWith pos (<-eval (.Subscript v k sp) env) [] (backTo pos (starEach args env)) (backToKw pos (keywordEach [] env))):=rfl
def QH{call:Str->qK}(KD:SY X fns call)(Lm:∀x a,W.nsIn X.K mainGlobals x=some (some (.ref a))->X.mg x=some (.ref a))(hf:PE X (.Subscript v k sp) (tE X aa ab ff))(ha:PA X (e::es) (tA X aa ab ts))
  (he:starEach (e::es) X.env=(false,eval e X.env)::starEach es X.env) (mI:(backTo pos (starEach es X.env)).any (·.1)=false):PE X (.Call (.Subscript v k sp) (e::es) [] pos) (tE X aa ab (Bp fns call ff ts)):=by
 rintro ae s σ H Q I ⟨F,st,R,h⟩
 rw[yH];refine af (thn (hf ae s σ H (λv H1=>∃F1 bA q,Rep X.K aa ab F1 bA σ H1/\bQ X.K F1 q v/\Tx X aa ab (bQ X.K) F1 bA (bnd (lb ((fnP q).bind λx=>(fns.lookup x).map λn=>(x,n))) λx=>SX x.2 (call x.1) ts) σ Q) I
  ⟨F,st,R,h.bnd λq v F1 bA H1 R1 g1 b1 h1=>⟨F1,bA,q,R1,b1,h1⟩⟩) λu s1 ⟨x,H1,I1,rx,F1,bA,q,R1,b1,h1⟩=>?_)
 obtain⟨⟨y,n⟩,e1,z⟩:=At.lb (At.bnd h1);obtain⟨y',e2,e3⟩:=bf e1;obtain⟨n',e4,e5⟩:=bz e3;simp only[sM]at e5;obtain⟨rfl,rfl⟩:=e5;rw[Me e2]at b1;obtain⟨a,rfl,ZQ⟩:=tM.mp b1;obtain⟨j,f',fd,ps,G,hr,m1,m2,m3⟩:=KD _ _ e4;have:=cC ((Lm _ a ZQ).symm.trans m1);cases this;cases rx;exact W.callWith_K I.ok.mod.kin m2 (thn (ha pos ae s1 σ H1 (λvs H2=>∃F2 st2 as,Rep X.K aa ab F2 st2 σ H2/\aF X.K F2 as vs/\Tx X aa ab (bQ X.K) F2 st2 (pe _ _ as) σ Q) I1
  ⟨F1,bA,R1,Tx.bnd z λas vs F2 st2 H2 R2 g2 b2 h2=>⟨F2,st2,as,R2,b2,h2⟩⟩) (by rintro us s2 ⟨vs,H2,I2,r,F2,st2,as,R2,b2,z⟩;exact⟨I2.sX,aae G hr m3 _ _ _ _ _ _ _ _ _ _ _ _ I2 R2 b2 r z⟩)) he mI
noncomputable def GP(f:Str):List Str->List PV->Option PV
 | g::ns,p::ps=>if g=f then some p else GP f ns ps
 | _,_=>none
def yI(f:Str)(fe:Gx PV):Gx PV:=bnd fe λp=>hp λh=>match cH h p with
 | some (.kO _ ns,ps)=>GP f ns ps
 | _=>none
theorem Bq{K:W.Frag}:∀{fs:List (Str×V)} {ps:List PV} {p:PV},GP f (fs.map (·.1)) ps=some p->aF K F ps (fs.map (·.2))->f∈fs.map (·.1)/\∃v,fs.lookup f=some v/\bQ K F p v
 | [],_,_,h,_=>by cases h
 | (g,v)::r,[],_,h,_=>by cases h
 | (g,v)::r,q::ps,p,h,b=>by
  obtain⟨v',w,e,b1,b2⟩:=b.cq;cases e;have h:(if g=f then some q else GP f (r.map (·.1)) ps)=some p:=h
  by_cases hg:g=f
  ·grind
  ·rw[if_neg hg]at h;obtain⟨h1,v2,h2,h3⟩:=Bq h b2;have hgf:(f==g)=false:=by grind
   exact⟨aU _ h1,v2,by grind,h3⟩
def aal(he:PE X e (tE X aa ab fe))(hb:attributeBase e f X.env (eval e X.env)=eval e X.env):PE X (.Attribute e f pos) (tE X aa ab (yI f fe)):=(U3 he hb).imp λσ H Q ⟨F,st,R,h⟩=>⟨F,st,R,h.bnd λq v F1 bA H1 R1 g1 b1 h1=>by
 obtain⟨o,e,z⟩:=h1.hp;split at e
 ·rename_i C ns ps hd;obtain⟨a,vs,rfl,⟨Ca,dx,fs,h2,h3,h4,h5,h6,h7⟩,h8⟩:=R1.at hd b1;subst h6 h7;obtain⟨hm,w,hl,bw⟩:=Bq e h8;exact⟨a,Ca,dx,fs,w,rfl,h5,h3,h4 f hm,hl,z _ H1 F1 R1 (Gr.refl _) bw⟩
 ·cases e⟩
noncomputable def qL(f:Str)(q:PV):List Str->List PV->List Str×List PV
 | g::ns,p::ps=>if g=f then(g::ns,q::ps)else(g::(qL f q ns ps).1,p::(qL f q ns ps).2)
 | _,_=>([f],[q])
theorem GQ{K:W.Frag}(bq:bQ K F q v):∀{fs:List (Str×V)} {ps:List PV},aF K F ps (fs.map (·.2))->(jq f v fs).map (·.1)=(qL f q (fs.map (·.1)) ps).1/\aF K F (qL f q (fs.map (·.1)) ps).2 ((jq f v fs).map (·.2))/\∀g∈(qL f q (fs.map (·.1)) ps).1,g=f\/g∈fs.map (·.1)
 | [],ps,b=>by
  have e:=lU b.length;subst e;exact⟨rfl,.cons bq .nil,λg hg=>.inl (by simpa[qL]using hg)⟩
 | (g,w)::r,[],b=>by have:=b.length;simp at this
 | (g,w)::r,p::ps,b=>by
  obtain⟨v',w',e,b1,b2⟩:=b.cq;cases e;obtain⟨h1,h2,h3⟩:=GQ bq b2;by_cases hg:g=f
  ·subst hg;have e1:jq g v ((g,w)::r)=(g,v)::r:=if_pos rfl;have e2:qL g q (((g,w)::r).map (·.1)) (p::ps)=(g::r.map (·.1),q::ps):=if_pos rfl;rw[e1,e2];exact⟨rfl,.cons bq b2,λy hy=>.inr hy⟩
  ·have e1:jq f v ((g,w)::r)=(g,w)::jq f v r:=if_neg hg;have e2:qL f q (((g,w)::r).map (·.1)) (p::ps)=(g::(qL f q (r.map (·.1)) ps).1,p::(qL f q (r.map (·.1)) ps).2):=if_neg hg;rw[e1,e2];refine⟨by rw[aE,h1],.cons b1 h2,λy hy=>?_⟩
   rcases aV.mp hy with rfl | hy
   ·grind
   ·grind
def Mf(K:W.Frag)(cls:List Str)(flds:List Str):Prop:=∀C,cls.contains C=true->∃Ca,ClsAt K C (.ref Ca)/\HM K Ca/\∀f,flds.contains f=true->jI K Ca f
def aex(cls flds:List Str)(f:Str)(po pv:PV):dq->Option dq:=λst=>(yz st.h po).bind λc=>match c.2.k with
 | .kO C ns=>if(cls.contains C&&flds.contains f&&decide (ns.length<900))=true then some ⟨st.ρ,st.h.set c.1 ⟨.kO C (qL f pv ns c.2.ps).1,(qL f pv ns c.2.ps).2⟩⟩else none
 | _=>none
def EI(cls flds:List Str)(f:Str)(fv fo:Gx PV):Gx eX:=bnd fv λv=>bnd fo λo=>stp (aex cls flds f o v)
def aam{cls flds:List Str}(hc:Mf X.K cls flds)(ho:PE X o (tE X aa ab fo))(he:PE X e (tE X aa ab fv))(hs:swapsWith e (some (.Attribute o f vi)) pos.line X.env=pure false):PS X (.Assign [.Attribute o f vi] e pos) (tS X aa ab (EI cls flds f fv fo)) :=
 (U4 ho he hs).imp λD σ H ⟨F,st,R,h⟩=>⟨F,st,R,h.bnd λpv v F1 bA H1 R1 g1 b1 h1=>⟨F1,bA,R1,h1.bnd λpo o F2 st2 H2 R2 g2 b2 h2=>by
  obtain⟨az,e,z⟩:=h2.stp;obtain⟨⟨n,c⟩,e1,e0⟩:=bf e;clear e;have e:=e0;clear e0;obtain⟨rfl,J1,hl⟩:=kX e1;obtain⟨a,ha,rfl⟩:=d8.mp b2;obtain⟨_,vs,g2',g3⟩:=R2.c.cell n c a J1 ha hl;split at e
  ·rename_i C ns hk;have hk:=hk;obtain⟨hq,rfl⟩:=aJ e;rw[aO,aO]at hq;rw[hk]at g2';obtain⟨Ca,dx,fs,k1,k2,k3,k4,rfl,rfl⟩:=g2';obtain⟨Cb,m1,m2,m3⟩:=hc C hq.1.1;have eC:Ca=Cb:=by
    have:=k1.symm.trans m1;cases this;rfl
   subst eC;have eF:=fy hq.2;rw[aD]at eF;obtain⟨p1,p2,p3⟩:=GQ (b1.mono g2) g3;refine⟨a,Ca,dx,fs,rfl,k4,k2,m3 f hq.1.2,(c7 ‹_›),z F2 σ _ (R2.put J1 hl ha ⟨Ca,dx,_,k1,k2,λg hg=>?_,aH,p1,rfl⟩ p2) (Gr.refl _)⟩
   rcases p3 g hg with rfl | hg
   ·exact m3 _ hq.1.2
   ·exact k3 g hg
  ·cases e⟩⟩
def aey(st:dq):Rs PV×List aB->Option (Rs PV×dq)
 | (.ok .b9,h)=>(ve h 4 (.ref 0)).map λq=>(.ok q,st)
 | _=>none
def mkP(C:Str)(n:Nat)(g:qK)(ts:Gx (List PV)):Gx PV:=bnd ts λas st=>if as.length+1=n/\(st.h.isEmpty || ah as)=true then(g (.ref 0::as) [⟨.kO C [],[]⟩]).bind (aey st)else none
section
variable {C:Str} {Ca f:Addr} {fd:FuncData} {ps:List Str} {g:qK} {k n:Nat}
def QI(hC:ClsAt X.K C (.ref Ca))(c:HM X.K Ca)(h:tE X aa ab (mkP C n g ts) σ H Q):Sr Ca (IP X.K n g) [] E0 (tA X aa ab ts) σ H Q:=by
 obtain⟨F,st,R,h⟩:=h;refine⟨F,st,R,h.bnd λas vs F1 bA H1 R1 g1 b1 h1 y dx hy hdx hne=>?_⟩
 obtain⟨q,e1,e2⟩:=h1;obtain⟨⟨hl,hn⟩,e1⟩:=bR e1;obtain⟨r,e3,e4⟩:=bf e1;have hyd:c5 H1 dx (.own y) y=none:=by rw[aR hne.symm];exact hy
 have up:cP H1 (c5 H1 dx (.own y)):=fU hdx;have b2:aF X.K ⟨F1.F,[y]⟩ (.ref 0::as) (.ref y::vs):=.cons (d8.mpr ⟨y,rfl,rfl⟩) (wx R1 hn b1 [y]);have C0:kT X.K (c5 H1 dx (.own y)) ⟨F1.F,[y]⟩ ⟨F1.F,[y]⟩ [⟨.kO C [],[]⟩] (c5 (c5 H1 dx (.own y)) y (.kO Ca dx [])):=by
  refine⟨λb o e=>fU hyd _ _ (up _ _ (R1.sub _ _ e)),fU hyd,Gr.refl _,λa o e=>.inl e,λm a e=>?_,rfl,by simp,λm d a e1 e2 e3=>?_⟩
  ·cases m with
   | zero=>cases e;exact⟨hyd,_,aH⟩
   | succ m=>simp at e
  ·cases m with
   | zero=>cases e1;cases e2;exact⟨R1.sub.free hy,[],⟨Ca,dx,[],hC,c,(λ_ z=>nomatch z),aH,rfl,rfl⟩,.nil⟩
   | succ m=>simp at e1
 match r,e4 with
 | (.ok .b9,h'),e4 =>
  obtain⟨p,e5,rfl⟩:=bz e4;refine⟨_,_,_,.ref 0::as,_,h',C0,λb o e=>?_,by grind,by grind,e3,λv F' H' D b'=>⟨dD.mp b',?_⟩⟩
  ·by_cases hb:b=y
   ·subst hb;exact .inr ⟨0,rfl⟩
   ·rw[aR hb]at e;exact .inl e
  ·obtain⟨R3,g3⟩:=R1.back up D;exact e2 _ H' _ R3 g3 (D.ve F1.μ _ _ _ _ e5 (d8.mpr ⟨y,D.base.m 0 y rfl,rfl⟩))
end
end
def aao(X:Cx)(aa:Hp)(ab:Fz)(fa:Addr)(ω:PV->Gx PV):Prop:=∀(H:Hp) (F:Fz) (st:dq) (σ:St) (ae:List (Addr×Obj)) (s:Shared) (Q:VK) (p:PV) (u:Value) (v:V),Inv X ae σ H s->Rep X.K aa ab F st σ H->bQ X.K F p v->RelV v u->Tx X aa ab (bQ X.K) F st (ω p) σ Q ->
 wpAny (model X.prog X.w) X.A (call (.ref fa) [u]) (EP X ae σ Q) X.xe s
structure Br (X:Cx) (aa:Hp) (ab:Fz) (n:Nat) (ω:PV->Gx PV):Prop where
 ex:∃fa o u aap,ab.μ[n]?=some fa/\X.aa fa=some (.pT o u)/\o.data=.func aap/\aao X aa ab fa ω
def aaq(n:Nat):PV->Option Unit
 | .ref m=>if m=n then some ()else none
 | _=>none
def Mg(i n:Nat)(ω:PV->Gx PV)(fe:Gx PV):Gx PV:=bnd (rd i) λq=>bnd (lb (aaq n q)) λ_=>bnd fe ω
section
variable {X:Cx} {aa:Hp} {ab:Fz} {e:Expr} {fe:Gx PV} {pos p:Pos} {i n:Nat} {ω:PV->Gx PV} {y:Str}
def aar(L:Br X aa ab n ω)(hy:PE X (.Name y p) (Ox i))(ha:PE X e (tE X aa ab fe))(he:starEach [e] X.env=(false,eval e X.env)::starEach [] X.env):PE X (.Call (.Name y p) [e] [] pos) (tE X aa ab (Mg i n ω fe)):=by
 rintro ae s σ H Q I ⟨F,st,R,h⟩
 obtain⟨fa,o,u,aap,hm,hfr,hfd,L⟩:=L;refine j9 (thn (SJ i hy ae s σ H (λv H1=>v=.ref fa/\∃F1 bA,Rep X.K aa ab F1 bA σ H1/\Tx X aa ab (bQ X.K) F1 bA (bnd fe ω) σ Q) I ⟨F,st,R,h.bnd λq v F1 bA H1 R1 g1 b1 h1=>?_⟩) λv s1 z9=>?_)
 ·obtain⟨_,e1,z⟩:=At.lb (At.bnd h1);cases q with
  | ref m =>
   obtain⟨rfl,_⟩:=aJ e1;obtain⟨a,ha,rfl⟩:=d8.mp b1;have:=R1.c.base.m _ _ hm;rw[ha]at this;cases this;exact⟨rfl,F1,bA,R1,z⟩
  | _=>cases e1
 ·obtain⟨z,H1,I1,rx,rfl,F1,bA,R1,h1⟩:=z9;cases rx;have hP:∀{bM:St} {H':Hp} {s':Shared},Inv X ae bM H' s'->s'.heap.get? fa=some o:=λ{bM H' s'} J=>(J.hok fa _ (J.base.frzs fa o u hfr)).1
  have hk:∀h:Heap,h.get? fa=some o->∃k,(k=Keeper.frame\/k=Keeper.machine\/k=Keeper.boundFrame)/\W.Looks (model X.prog X.w) h (keeperOf (.ref fa)) k:=λh ho=>by
   obtain⟨c1,c2,c3,c4⟩:=o;cases hfd;exact⟨.frame,.inl rfl,(W.Looks.ld ho).andThen .now⟩
  have S2:wpAny (model X.prog X.w) X.A (spliced (backTo pos (starEach [e] X.env))) (λus s2=>s2.heap.get? fa=some o/\wpAny (model X.prog X.w) X.A (call (.ref fa) ([]++us)) (EP X ae σ Q) X.xe s2) X.xe s1 :=
   thn ((jN ha tf he) pos ae s1 σ H1 (λvs H2=>∃v F2 st2 p,vs=[v]/\Rep X.K aa ab F2 st2 σ H2/\bQ X.K F2 p v/\Tx X aa ab (bQ X.K) F2 st2 (ω p) σ Q) I1 ⟨F1,bA,R1,h1.bnd λp v F2 st2 H2 R2 g2 b2 h2=>⟨v,F2,st2,p,rfl,R2,b2,h2⟩⟩)
    λus s2 z9=>by
     obtain⟨vs,H2,I2,r,v,F2,st2,p,rfl,R2,b2,h2⟩:=z9;obtain⟨u2,rfl,ru⟩:=jY r;exact⟨hP I2,L H2 F2 st2 σ ae s2 Q p u2 v I2 R2 b2 ru h2⟩
  rw[he]at S2 ⊢;exact W.callWith_of rfl hk (PySem.Calls.evalArgs_plain S2)
end
noncomputable def aeA(ρ:List (Option PV)):Rs PV×dq->Option (Rs PV×dq)
 | (.ok p,st)=>some (.ok p,⟨ρ,st.h⟩)
 | _=>none
def QJ(fb:Gx PV)(ρc:List (Option PV)):PV->Gx PV:=λp st=>(fb ⟨some p::ρc,st.h⟩).bind (aeA st.ρ)
def Wd(hex:X.ex=[])(hL:Lx X.aa fa qual pq9 body scope cl)(hC:mi X.s₀.heap X.aa scope cl N τ)(hF:Lc X.K t8 ρc τ)(aeB:Gr t8 ab)(hr:dJ (k+1) X.A)
  (hb:∀(pm cW J2 u:Value),bindArgs (W.kla_fn "<lambda>" qual pq9 body scope cl pm cW J2) ⟨[u],[]⟩=pure [(x,u)]) (hk:scope.kind=.function) (Vp:scope.isCoroutine=false) (Vq:scope.isGenerator=false) (hx:scope.names.lookup x=some .local) (nc:∀y∈scope.names,y.2≠.cell)
  (hbody:∀(cW:Value) (s:Shared) (H aa:Hp) (ab:Fz),dJ k (X.A.deeper (W.envX qual scope s.heap.objs.size fa cW cl))->PE (SE (jt X.prog X.w) X.prog X.w X.K X.mg X.base (x::N) qual scope fa cW cl X.A X.stack s H E0) body (tE (SE (jt X.prog X.w) X.prog X.w X.K X.mg X.base (x::N) qual scope fa cW cl X.A X.stack s H E0) aa ab fb)):aao X aa ab fa (QJ fb ρc):=by
 rintro H F st σ ae s Q p u v I R b ru ⟨q,e1,e2⟩
 obtain⟨r,e3,e4⟩:=bf e1;obtain⟨o,u',pm,cW,J2,c,oc,uc,vs,t,k1,k2,rfl,k3,k4,k5⟩:=hL;have g1:=(I.hok fa _ (I.base.frzs fa o u' k1)).1;have g2:=(I.hok c _ (I.base.frzs c oc uc k3)).1;have C:=hC.un (by have:=I.base;rw[hex]at this;exact this)
 match r,e4 with
 | (.ok p',az),e4 =>
  cases e4;have L:Lc X.K F (some p::ρc) (some v::τ):=⟨λi y e=>by
   cases i with
   | zero=>cases e;exact⟨v,rfl,b⟩
   | succ i =>
    obtain⟨z,h1,h2⟩:=hF.av i y (by grind)
    exact⟨z,by grind,h2.mono (aeB.trans R.c.base)⟩,by simp[hF.len]⟩
  obtain⟨C0,_⟩:=R.c.enter;refine sP (kf (Pl g1 k2 ⟨c,oc,vs,t,rfl,g2,k4,k5⟩ hr I.O0 (hb _ _ _ _) ru hk Vp Vq hx nc C ⟨_,hbody (.ref c) s H _ F (hr.deeper _),F,⟨some p::ρc,st.h⟩,⟨C0,L⟩,_,e3,λv' H' F' R' g' b'=>e2 v' H' F' ⟨R.c.leave R'.c,R.l.mono g'⟩ g' b'⟩) λr s' hq=>?_)
  cases r with
  | error e=>exact A0 ae σ H s e s' I hq
  | ok fl =>
   cases fl with
   | ret u=>exact I.after hq
   | next=>exact False.elim hq
   | brk=>exact False.elim hq
   | cont=>exact False.elim hq
structure t9 (X:Cx) (x:Str) (N:List Str) (link:List (Option Nat)) (scope:Scope):Prop where
 kind:scope.kind=.function
 co:scope.isCoroutine=false
 gen:scope.isGenerator=false
 par:scope.names.lookup x=some .local
 cell:∀y∈scope.names,y.2≠.cell
 free:∀y∈scope.names,y.2=.free->(X.env.kindOf y.1=some .cell\/X.env.kindOf y.1=some .free)
 len:link.length=N.length
 link:∀(i j:Nat) (y:Str),link[i]?=some (some j)->N[i]?=some y->X.N[j]?=some y/\scope.names.lookup y=some .free
def QK(I:Inv X ae σ H s)(S:t9 X x N link scope):mi s.heap H scope (kz X.env scope.names []) N (gS link σ) where
 inj:=λy z c h1 h2=>I.ok.inj y z c (cb h1) (cb h2)
 has:=λy hy=>by
  have hm:=eK hy;obtain⟨c,hc⟩:=I.ok.has y (S.free _ hm rfl);obtain⟨c',h'⟩:=kA scope.names [] hm ⟨c,hc⟩;cases z:(kz X.env scope.names []).lookup y with
  | some c2=>exact⟨c2,rfl⟩
  | none=>exact absurd h' (by intro hh;have:=List.lookup_eq_none_iff.mp z (y,c') hh;simp at this)
 cell:=λy c h=>I.cell y c (cb h)
 free:=λy c h=>I.freeC y c (cb h)
 val:=λi y v h1 h2=>by
  unfold L2.U.gS at h2;rw[bZ]at h2;cases z:link[i]? with
  | none=>rw[z]at h2;cases h2
  | some o =>
   rw[z]at h2;cases o with
   | none=>cases h2
   | some j =>
    have h2:(σ[j]?).join=some v:=cC h2;obtain⟨g1,g2⟩:=S.link i j y z h1;have hm:=eK g2;obtain⟨m,_,hl⟩:=I.loc;have hfk:=S.free _ hm rfl;obtain⟨u,ru,lk⟩:=hl j y v g1 (by
     cases w:σ[j]? with
     | none=>rw[w]at h2;cases h2
     | some q=>rw[w]at h2;exact dA some h2) (by
     rcases hfk with q | q
     ·exact .inr (.inl q)
     ·exact .inr (.inr q))
    rcases lk with⟨q,_⟩ | ⟨_,c,hc,hi⟩
    ·rcases hfk with q' | q'<;>rw[q]at q'<;>cases q'
    ·obtain⟨c',h'⟩:=kA scope.names [] hm ⟨c,hc⟩;cases zz:(kz X.env scope.names []).lookup y with
     | none=>exact absurd h' (by intro hh;have:=List.lookup_eq_none_iff.mp zz (y,c') hh;simp at this)
     | some c2 =>
      have:=cb zz;rw[hc]at this;cases this;exact⟨c,u,g2,rfl,hi,ru⟩
 len:=by unfold L2.U.gS;rw[aD];exact S.len
structure S3 (X:Cx):Prop where
 ex:∃x c T,x∈dn/\W.tabIn X.K x=some (c,T)/\W.codeHdIn X.K c T=true/\X.env.code=.ref c/\X.env.qual++"<lambda>"=Ax x
 blt:AY X.mg X.base
def oneArg(x:Str)(ap:Pos):Arguments:={posonlyargs:=[],args:=[{arg:=x,annotation:=none,pos:=ap}],vararg:=none,kwonlyargs:=[],kw_defaults:=[],kwarg:=none,defaults:=[]}
def IU(pm cW J2 u:Value):bindArgs (W.kla_fn "<lambda>" qual (oneArg x ap) body scope cl pm cW J2) ⟨[u],[]⟩=pure [(x,u)]:=by
 have hs:seqItems? Value.none=pure none:=rfl;unfold bindArgs;simp only[oneArg,hs,DK];simp[List.lookup]
def nq:aB:=⟨.ao,[]⟩
def aat(rs:(PV->Gx PV)->Nat->qK)(fb:Gx PV)(link:List (Option Nat)):PV->Gx PV:=λp st =>
 (rs (QJ fb (bE link st.ρ)) st.h.length [p,.ref st.h.length] (st.h++[nq])).map λr=>(aad r.1,⟨st.ρ,r.2⟩)
def IV(rs:(PV->Gx PV)->Nat->qK)(fe fb:Gx PV)(link:List (Option Nat)):Gx PV:=bnd fe (aat rs fb link)
section
variable {K:W.Frag} {aa H H':Hp} {ab F:Fz} {h:List aB}
def kT.aeC(C:kT K aa ab F h H)(hp:F.F p=none)(h0:aa p=none)(hH:∃o,H p=some o)(hn:p∉F.μ):kT K aa ab ⟨F.F,F.μ++[p]⟩ (h++[nq]) H/\Gr F ⟨F.F,F.μ++[p]⟩/\(F.μ++[p])[h.length]?=some p:=by
 have g:Gr F ⟨F.F,F.μ++[p]⟩:=⟨cP.refl _,λn a q=>by
  grind⟩
 have Zw:∀n a,(F.μ++[p])[n]?=some a->F.μ[n]?=some a\/n=F.μ.length/\a=p:=λn a q=>by
  grind
 refine⟨⟨C.sub,C.keep,C.base.trans g,C.fresh,λn a q=>?_,by simp[C.hl],?_,λn d a hd ha hk=>?_⟩,g,by rw[C.hl];simp⟩
 ·rcases Zw n a q with z | ⟨_,rfl⟩
  ·exact C.new n a z
  ·grind
 ·rw[xx];exact⟨C.nd,by grind⟩
 ·rcases Zw n a ha with z | ⟨rfl,rfl⟩
  ·rw[jD (by rw[C.hl];exact(cz.mp z).1)]at hd
   obtain⟨h1,ws,h2,h3⟩:=C.cell n d a hd z hk;exact⟨h1,ws,h2,h3.mono g⟩
  ·rw[<-C.hl,rX (aq _),Nat.sub_self]at hd;cases hd;cases hk
end
section
variable {X:Cx} {aa:Hp} {ab:Fz} {e body:Expr} {fe fb:Gx PV} {scope:Scope} {x:Str} {ap lp p1 pos:Pos} {N Ns:List Str} {link:List (Option Nat)} {fs:Addr} {S5:FuncData} {k:Nat} {st:Stmt} {pr:List Str} {rb:(PV->Gx PV)->Nat->Gx eX}
def Mh(D:DV X.K "spread" "spread" st fs S5)(mS:X.mg "spread"=some (.ref fs))(bS:gP X.K S5 pr [])(scS:dB Ns pr (au st))(hpr:pr.length=2)(L:S3 X)(hg:Gl X "spread")(hr:dJ (k+2) X.A)(he:PE X e (tE X aa ab fe))(mI:starEach [e,.Lambda (oneArg x ap) body scope lp] X.env=(false,eval e X.env)::starEach [.Lambda (oneArg x ap) body scope lp] X.env)(S:t9 X x N link scope)
  (Mi:∀(cW:Value) (A:Around) (ay:List Env) (s:Shared) (H:Hp) (E:XK) (aa:Hp) (ab:Fz) (n:Nat) (ω:PV->Gx PV),dJ (k+1) (A.deeper (envOfC "spread" (au st) s.heap.objs.size fs cW))->Br (fK (jt X.prog X.w) X.prog X.w X.K X.mg X.base Ns "spread" (au st) fs cW A ay s H E) aa ab n ω ->
   PSs (fK (jt X.prog X.w) X.prog X.w X.K X.mg X.base Ns "spread" (au st) fs cW A ay s H E) (dk st) (tS (fK (jt X.prog X.w) X.prog X.w X.K X.mg X.base Ns "spread" (au st) fs cW A ay s H E) aa ab (rb ω n)))
  (hbody:∀(qual:Str) (fa:Addr) (cW:Value) (cl:List (Str×Addr)) (A:Around) (stack:List Env) (s:Shared) (H yJ:Hp) (t8:Fz),dJ k (A.deeper (W.envX qual scope s.heap.objs.size fa cW cl)) ->
   PE (SE (jt X.prog X.w) X.prog X.w X.K X.mg X.base (x::N) qual scope fa cW cl A stack s H E0) body (tE (SE (jt X.prog X.w) X.prog X.w X.K X.mg X.base (x::N) qual scope fa cW cl A stack s H E0) yJ t8 fb)) :
  PE X (.Call (.Name "spread" p1) [e,.Lambda (oneArg x ap) body scope lp] [] pos) (tE X aa ab (IV (λω n=>du (rb ω n) Ns.length) fe fb link)):=by
 rintro ae s σ H Q I ⟨F,st0,R,h⟩
 obtain⟨⟨xn,c,T,l1,l2,l3,l4,l5⟩,hB⟩:=L;have hcl:=t7 λy hy hy2=>I.ok.has y.1 (S.free y hy hy2)
 refine j9 (ld_glob I hg mS ?_ rfl);refine W.callWith_K I.ok.mod.kin D.kp (thn ((jN he (jN (Vr l1 l2 l3 l4 l5 hB rfl hcl) tf rfl) mI) pos ae s σ H
  (λvs H2=>∃v fa F1 bA p H1,vs=[v,.ref fa]/\Rep X.K aa ab F1 bA σ H1/\bQ X.K F1 p v/\Tx X aa ab (bQ X.K) F1 bA (aat (λω n=>du (rb ω n) Ns.length) fb link p) σ Q/\H1 fa=none/\cP H1 H2/\(∀b o,H2 b=some o->H1 b=some o\/H1 b=none)/\Lx H2 fa (Ax xn) (oneArg x ap) body scope (kz X.env scope.names [])) I
  ⟨F,st0,R,h.bnd λp v F1 bA H1 R1 g1 b1 h1 fa H2 hn sm fr hL=>⟨v,fa,F1,bA,p,H1,rfl,R1,b1,h1,hn,sm,fr,hL⟩⟩) λus s1 z9=>?_) mI rfl
 obtain⟨vs,H2,I2,r,v,fa,F1,bA,p,H1,rfl,R1,b1,z,hn,sm,fr,hL⟩:=z9;refine⟨I2.sX,?_⟩;obtain⟨q,e1,e2⟩:=z;obtain⟨⟨rs,h'⟩,e3,e4⟩:=bz e1;subst e4;obtain⟨o,u,pm,aiz,J2,c',oc,uc,ym,t,k1,k2,k3⟩:=id hL;have C1:=R1.c.after sm (cP.refl _) rfl (R1.sub.trans sm) λ_ _ e=>.inl e
 have nfa:fa∉F1.μ:=λhm=>by
  obtain⟨n,YL⟩:=oq.mp hm;obtain⟨_,o',oh⟩:=R1.c.new n fa YL;rw[hn]at oh;cases oh
 obtain⟨C2,g2,hm⟩:=C1.aeC (R1.sub.free hn) (R1.c.keep.free hn) ⟨_,k1⟩ nfa;obtain⟨C3,full⟩:=C2.enter;have b2:aF X.K ⟨F1.F,F1.μ++[fa]⟩ [p,.ref bA.h.length] [v,.ref fa]:=.cons (b1.mono g2) (.cons (d8.mpr ⟨fa,hm,rfl⟩) .nil);obtain⟨q2,e5,e6⟩:=bf e3;have run:∀Q' E',V7 X.K (qJ H2 (F1.μ++[fa])) ⟨F1.F,F1.μ++[fa]⟩ h' Q' E' rs->codeAny (model X.prog X.w) X.A (.call (.ref fs) ⟨us,[]⟩) (CR (jt X.prog X.w) X.stack X.prog X.w H2 s1 Q' E') s1:=λQ' E' res=>by
  refine Zu D scS hr I2.O0 (bS s1 us I2.sX (by rw[fA,<-r.length,hpr];rfl)) (by rw[fA];exact r) (by rw[hpr];rfl) λcW=>⟨_,Mi cW X.A X.stack s1 H2 E' _ _ bA.h.length _ (hr.deeper _) ⟨fa,o,u,_,hm,k1,k2,?_⟩,_,⟨gz Ns.length [p,.ref bA.h.length],_⟩,⟨C3,Bn b2⟩,q2,e5,?_⟩
  ·exact Wd rfl hL (QK I2 S) (R1.l.gS link) g2 (hr.deeper _) IU S.kind S.co S.gen S.par S.cell λcW s H yJ t8 hr'=>hbody _ _ _ _ _ _ _ _ _ _ hr'
  ·rcases q2 with⟨f | ⟨m,c⟩,st⟩
   ·cases f with
    | rt=>cases e6;exact λv F' H' C' g b'=>res v F' H' C' b'
    | nx=>cases e6;exact λF' bM H' R g=>res .b9 F' H' R.c (dD.mpr rfl)
    | _=>cases e6
   ·cases e6;cases m with
    | true=>exact λF' bM H' ae s1 h1 a cls vs R sf I hc hm=>GJ I hm (GL full R.c) (res cls F' H' R.c hc)
    | false=>exact λbM ae H1 s1 e s' I h=>Bm I h (by rintro cls H2 ⟨hc,F',R,sf⟩;exact⟨GL full R.c,res cls F' H2 R.c hc⟩)
 have done:∀Q' E',(∀e s',jt X.prog X.w X.stack H2 s1 E' e s'->X.xe e s')->V7 X.K (qJ H2 (F1.μ++[fa])) ⟨F1.F,F1.μ++[fa]⟩ h' Q' E' rs->wpAny (model X.prog X.w) X.A (call (.ref fs) us) (EP X ae σ Q') X.xe s1:=λQ' E' hx res=>by
  refine sP (kf (run Q' E' res) λr s' yb=>?_)
  cases r with
  | error e=>exact hx e s' yb
  | ok fl =>
   cases fl with
   | ret u=>exact I2.after yb
   | next=>exact False.elim yb
   | brk=>exact False.elim yb
   | cont=>exact False.elim yb
 cases rs with
 | ok p'=>exact done Q E0 (λe s' hx=>A0 ae σ H2 s1 e s' I2 hx) λv F' H' D' b'=>e2 v H' F' ⟨C2.leave D',R1.l.mono (g2.trans D'.base)⟩ (g2.trans D'.base) b'
 | ex m c=>exact thn (done (λ_ _=>False) _ (λe s' hx=>e2 σ ae H2 s1 e s' I2 hx) λcls F' H' D' hc=>⟨hc,F',⟨C2.leave D',R1.l.mono (g2.trans D'.base)⟩,g2.trans D'.base⟩) (by rintro v s3 ⟨_,_,_,_,z⟩;exact z.elim)
end
end L2.U
namespace PySem
open Sem (wp)
def qM:entryFor table "set.__iter__"=some Builtin.«frozenset.__iter__» := entryFor_alias (id':="frozenset.__iter__") (by kernel_rfl) rfl (by decide +kernel) (by kernel_rfl)
def eG:Slot "set_iterator" "__next__" "set_iterator.__next__" :=
 .of (owner:="set_iterator") (n:="__next__") (by rw[DR,DA];kernel_rfl) (by decide +kernel) (by decide +kernel) (by decide +kernel)
  (by first | exact .inl (by decide +kernel) | exact .inr (by decide +kernel)) (by rw[isSubtype_type];kernel_rfl)
def lG:entryFor table "set_iterator.__next__"=some Builtin.«set_iterator.__next__» := entryFor_of_tree (by kernel_rfl)
def nu(a:Value):argsOk "set_iterator.__next__" ⟨[a],[]⟩:=by unfold argsOk;kernel_rfl
def ny:Slot "set_iterator" "__iter__" "set_iterator.__iter__" :=
 .of (owner:="set_iterator") (n:="__iter__") (by rw[DR,DA];kernel_rfl) (by decide +kernel) (by decide +kernel) (by decide +kernel)
  (by first | exact .inl (by decide +kernel) | exact .inr (by decide +kernel)) (by rw[isSubtype_type];kernel_rfl)
def vo:entryFor table "set_iterator.__iter__"=some Builtin.«dict_keyiterator.__iter__» := entryFor_alias (id':="dict_keyiterator.__iter__") (by kernel_rfl) rfl (by decide +kernel) (by kernel_rfl)
def yK(a:Value):argsOk "set_iterator.__iter__" ⟨[a],[]⟩:=by unfold argsOk;kernel_rfl
def dX(es:Array (Int×Value))(ep:Nat)(t:SetTable):Obj:={cls:=.type "set",dict:=none,data:=.set es ep t,slots:=#[]}
noncomputable abbrev BT(w:World):Bool:=w.params.followText "set-order"
section
variable {prog:Program} {w:World} {A:Around} {E:Value->Shared->Prop} {s:Shared} {a:Addr} {es:Array (Int×Value)} {ep:Nat} {t:SetTable}
def mv(h:Q (BT w) s):wpAny (model prog w) A setsByText Q E s:=by
 unfold setsByText;exact af (DJ (aj h))
def yL(hS:s.heap.get? a=some (dX es ep t))(hf:t.fits es.size=true)(hg:BT w=true\/t.plain=true)(h:Q false s):wpAny (model prog w) A (setDrawn a) Q E s:=by
 unfold setDrawn;refine af (ka hS rfl hf ?_);refine af (mv ?_);refine aj ?_;have e:(!BT w&&(!t.plain&&decide (es.size>1)))=false:=by
  grind
 show Q (!BT w&&(!t.plain&&decide (es.size>1))) s;rw[e];exact h
def EJ(hS:s.heap.get? a=some (dX es ep t))(hf:t.fits es.size=true)(hg:BT w=true\/t.plain=true)
  (hQ:Q (.ref s.heap.objs.size) {s with heap:=s.heap.push {cls:=.type "set_iterator",data:=.fields #[.int 0 0,.int 0 0,.ref a,.int es.size 0,.int ep 0]}}):wpAny (model prog w) A (pyIter (.ref a)) Q E s:=by
 have hT:s.TypeIs (.ref a) "set":=⟨_,hS,rfl⟩;refine wpAny_pyIter_slot hT F.slot_set_iter (ig F.slot_set_iter hT qM ?_ (F.args_set_iter_1 _));unfold Builtin.«frozenset.__iter__» Builtin.Frozenset.slot0;refine af (af (aj ?_));refine aj ?_;unfold Builtin.Frozenset.sizeOf setEntries;refine af (af (af (ka hS rfl hf (aj (aj ?_)))));refine af (yL hS hf hg ?_);rw[if_neg dc];refine af (aj ?_);refine af (wpAny_setEpoch_of hS rfl hf ?_);unfold newFields;refine af (iS (aj ⟨_,rfl,"set_iterator",_,⟨_,cJ _ rfl,rfl⟩,eG.lookup,?_⟩));simpa[rawInt]using hQ
end
section
variable {prog:Program} {w:World} {A:Around} {E:Value->Shared->Prop} {s:Shared} {a:Addr} {es:Array (Int×Value)} {ep:Nat} {t:SetTable}
noncomputable def GR(t:SetTable):Nat->Nat
 | 0=>0
 | i+1=>t.place.getD i 0+1
def eH(w:World)(t:SetTable)(i:Nat):Nat:=if BT w=true then 0 else GR t i
def mw(w:World)(a:Addr)(ep:Nat)(es:Array (Int×Value)):Array (Int×Value):=if BT w=true then pickOrder (w.params.setOrder a ep) es else es
structure fY (w:World) (a:Addr) (ep:Nat) (es:Array (Int×Value)) (t:SetTable):Prop where
 fits:t.fits es.size=true
 size:(mw w a ep es).size=es.size
 led:BT w=false->t.led=true/\t.plain=true/\∀i,i<=es.size->SetTable.below t.place (GR t i)=i
def fY.ok(g:fY w a ep es t):BT w=true\/t.plain=true:=by
 cases h:BT w with
 | true=>exact .inl rfl
 | false=>exact .inr (g.led h).2.1
def fY.place(g:fY w a ep es t):t.place.size=es.size:=by
 have:=g.fits;simp only[SetTable.fits,aO,bu]at this;exact this.1
def Bs(hS:s.heap.get? a=some (dX es ep t))(g:fY w a ep es t)(i:Nat)(hi:i<=es.size)
  (h:Q (((mw w a ep es)[i]?).map λe=>(e.2,eH w t (i+1))) s):wpAny (model prog w) A (setNext a (eH w t i) i ep) Q E s:=by
 unfold setNext;refine af (ka hS rfl g.fits ?_);refine af (mv ?_);cases hb:BT w with
 | true =>
  rw[if_pos rfl];dsimp only
  rw[if_neg (by simp)]
  unfold setWalk;refine af (af (ka hS rfl g.fits ?_));refine af (mv ?_);rw[hb,if_pos rfl];refine af (DJ ?_);refine aj (aj ?_);unfold mw eH at h;rw[hb]at h;simp only[iZ]at h;unfold eH;rw[hb];exact h
 | false =>
  obtain⟨hl,hp,hw⟩:=g.led hb;rw[if_neg dc];refine af (aj ?_);show wpAny _ _ (if(!t.plain&&decide (es.size>1))=true then _ else _) _ _ s
  rw[hp];rw[if_neg (by simp)]
  refine af ?_;show wpAny _ _ (if(!t.led&&!es.isEmpty)=true then _ else _) _ _ s
  rw[hl,if_neg (by simp)]
  refine aj ?_;refine aj ?_;unfold mw eH at h;rw[hb]at h;simp only[sx,jH]at h;have e:SetTable.below t.place (eH w t i)=i:=by unfold eH;rw[hb,if_neg dc];exact hw i hi
  rw[e];have mI:=g.place;by_cases fL:i<es.size
  ·have h1:es[i]?=some es[i]:=by simp[fL]
   have h2:t.place[i]?=some (t.place[i]'(by lia)):=by grind
   rw[h1,h2];rw[h1]at h;have h3:GR t (i+1)=t.place[i]'(by lia)+1:=by
    show t.place.getD i 0+1=_;simp[show i<t.place.size by lia]
   rw[h3]at h;exact h
  ·grind
end
section
variable {prog:Program} {w:World} {A:Around} {E:Value->Shared->Prop} {s:Shared} {a it:Addr} {es:Array (Int×Value)} {ep:Nat} {t:SetTable}
def fI(h:Heap)(it a:Addr)(sl i n ep:Nat):Prop:=∃o,h.get? it=some o/\o.cls=.type "set_iterator"/\o.data=.fields #[.int sl 0,.int i 0,.ref a,.int n 0,.int ep 0]
def fI.typeIs(x:fI s.heap it a sl i n ep):s.TypeIs (.ref it) "set_iterator":=let ⟨o,ho,hc,_⟩:=x;⟨o,ho,hc⟩
def Mj(yD:fI s.heap it a (eH w t i) i es.size ep)(hS:s.heap.get? a=some (dX es ep t))(g:fY w a ep es t)(hi:i<es.size)
  (hQ:∀v h',(∃e,(mw w a ep es)[i]?=some e/\v=e.2)->fI h' it a (eH w t (i+1)) (i+1) es.size ep->Heap.SameBut it s.heap h'->Q (some v) {s with heap:=h'}):wpAny (model prog w) A (pyNext (.ref it)) Q E s:=by
 obtain⟨o,ho,hc,hd⟩:=id yD;unfold pyNext;refine af (xM (j8 yD.typeIs eG (ig eG yD.typeIs lG ?_ (nu _))));unfold Builtin.«set_iterator.__next__»;refine af (aj ?_);refine af (wpAny_fieldsOf ho hd ?_);dsimp only
 unfold setEntries;refine af (af (ka hS rfl g.fits (aj ?_)));dsimp only
 rw[if_neg (by simp)]
 have h1:(mw w a ep es)[i]?=some ((mw w a ep es)[i]'(by rw[g.size];exact hi)):=by simp[hi]
 refine af ?_;rw[show((eH w t i:Nat):Int).toNat=eH w t i from ei _,show((i:Nat):Int).toNat=i from ei _,show((ep:Nat):Int).toNat=ep from ei _]
 refine Bs hS g i (dz hi) ?_;rw[h1];dsimp only[Option.map]
 refine af (sL ho hd (by simp) ?_)
 obtain⟨o1,g1,c1,d1⟩:∃o1,(s.heap.update it (Obj.mapFields (·.setIfInBounds 0 (rawInt (eH w t (i+1):Nat))))).get? it=some o1/\o1.cls=.type "set_iterator"/\o1.data=.fields #[.int (eH w t (i+1):Nat) 0,.int i 0,.ref a,.int es.size 0,.int ep 0] :=
  ⟨_,sg _ ho (Dz (oC hd _)),(DI ..).trans hc,by rw[oC hd];simp[rawInt]⟩
 have b1:Heap.SameBut it s.heap (s.heap.update it (Obj.mapFields (·.setIfInBounds 0 (rawInt (eH w t (i+1):Nat))))):=oA ..
 generalize (s.heap.update it (Obj.mapFields (·.setIfInBounds 0 (rawInt (eH w t (i+1):Nat)))))=H1 at g1 b1 ⊢
 refine af (sL g1 d1 (by simp) ?_)
 have We:fI (H1.update it (Obj.mapFields (·.setIfInBounds 1 (rawInt (i+1))))) it a (eH w t (i+1)) (i+1) es.size ep :=
  ⟨_,sg _ g1 (Dz (oC d1 _)),(DI ..).trans c1,by rw[oC d1];simp[rawInt]⟩
 exact aj ⟨_,rfl,aj (hQ _ _ ⟨_,h1,rfl⟩ We (b1.trans (oA ..)))⟩
def QL(hh:A.handled=none)(yD:fI s.heap it a (eH w t es.size) es.size es.size ep)(hS:s.heap.get? a=some (dX es ep t))(g:fY w a ep es t)
  (hQ:∀h',Heap.ExtBut it s.heap h'->Q none {s with heap:=h'}):wpAny (model prog w) A (pyNext (.ref it)) Q E s:=by
 obtain⟨o,ho,hc,hd⟩:=id yD;unfold pyNext;refine af (xM (j8 yD.typeIs eG (ig eG yD.typeIs lG ?_ (nu _))));unfold Builtin.«set_iterator.__next__»;refine af (aj ?_);refine af (wpAny_fieldsOf ho hd ?_);dsimp only
 unfold setEntries;refine af (af (ka hS rfl g.fits (aj ?_)));dsimp only
 rw[if_neg (by simp)]
 have h1:(mw w a ep es)[es.size]?=none:=by simp[g.size]
 refine af ?_;rw[show((eH w t es.size:Nat):Int).toNat=eH w t es.size from ei _,show((es.size:Nat):Int).toNat=es.size from ei _,show((ep:Nat):Int).toNat=ep from ei _]
 refine Bs hS g es.size (aq _) ?_;rw[h1];dsimp only[Option.map]
 refine af (sL ho hd (by simp) ?_)
 refine af ?_;simp only[newExc,newTuple];refine af (iS ?_ (by size_fits))
 refine af (wpAny_of_eq (by first | rfl | (simp only[firstArgMember];rfl)) ?_)
 refine iS ?_ (by size_fits)
 simp only[raiseNew];refine af (wpAny_handled ?_);rw[show A.in1.handled=none from hh]
 refine af (aj (wpAny_throw ?_));refine af (DL ⟨_,cJ _ rfl,rfl⟩ isSubtype_stop ?_);exact aj (hQ _ (((oA ..).extBut.push _).push _))
def Ml(yD:fI s.heap it a sl i n ep)(h:Q (.ref it) s):wpAny (model prog w) A (pyIter (.ref it)) Q E s:=by
 refine wpAny_pyIter_slot yD.typeIs ny (ig ny yD.typeIs vo ?_ (yK _));exact aj ⟨_,rfl,"set_iterator",_,yD.typeIs,eG.lookup,h⟩
def Walks.aeE(hh:A.handled=none)(I a:Addr)(hne:a≠I)(g:fY w a ep es t) :
  Walks prog w A I [I,a] [I] es.size (λi v=>∃e,(mw w a ep es)[i]?=some e/\v=e.2) (λi h=>fI h I a (eH w t i) i es.size ep/\h.get? a=some (dX es ep t)) where
 sub:=λb hb=>by grind
 frame:=λ_ _ _ st hk=>⟨let ⟨o,ho,r⟩:=st.1;⟨o,hk I (by simp) o ho,r⟩,hk a (by simp) _ st.2⟩
 item:=λi s Q E hi st hQ=>Mj st.1 st.2 g hi λv h' hv We ZZ=>hQ v h' s.toks hv ⟨We,ZZ.extBut a _ hne st.2⟩ λb o hb e=>ZZ.extBut b o (λh=>hb (by simp[h])) e
 done:=λs Q E st hQ=>QL hh st.1 st.2 g λh' he'=>hQ h' s.toks λb o hb e=>he' b o (λh=>hb (by simp[h])) e
 self:=λ_ _ _ _ st hQ=>Ml st.1 hQ
def Mm(hT:s.TypeIs (.ref r) "set")(h:Q false s):wpAny (model prog w) A (Builtin.List.listLengthHint (.ref r)) Q E s:=by
 unfold Builtin.List.listLengthHint;refine af (wpAny_specialOf hT F.slot_set_len.lookup ?_)
 generalize hid:("set.__len__":String)=id0
 wp_delta
 rw[show splitId id0=some ("set","__len__")from by subst hid;decide +kernel]
 subst hid;refine af (DL (b:=true) hT (by rw[isSubtype_type];kernel_rfl) ?_)
 refine DS (λhab=>absurd hab (by decide)) (λ_=>?_)
 refine DS (λ_=>?_) (λhab=>absurd (by decide +kernel) hab)
 refine af (oJ hT ?_);exact aj h
def QM(g:fY w a ep es t):W.KdlSrc prog w "set" a a es.size (λi v=>∃e,(mw w a ep es)[i]?=some e/\v=e.2) (λh=>h.get? a=some (dX es ep t)) where
 type:=λ_ hm=>⟨_,hm,rfl⟩
 there:=λ_ hm=>⟨aW hm,aW hm⟩
 keep:=λ_ _ hm hk=>hk a (.inl rfl) _ hm
 notList:=by decide
 notTuple:=by decide
 hint:=λ_ _ _ _ hm hq=>Mm ⟨_,hm,rfl⟩ hq
 iter:=λA s hh hm=>⟨_,_,(λ_ _ hq=>EJ hm g.fits g.ok hq),Walks.aeE hh _ a (bG (aW hm)) g,⟨⟨_,cJ _ rfl,rfl,by
  have:eH w t 0=0:=by unfold eH GR;split<;>rfl
  rw[this];rfl⟩,bj _ hm⟩⟩
end
section
open PyProof.Rows
theorem ud:∀(l:List α) (i:Nat) (h:i<l.length),([l[i]]++l.eraseIdx i).Perm l
 | [],i,h=>absurd h (by simp)
 | x::l,0,_=>.refl _
 | x::l,i+1,h=>by
  have h':i<l.length:=by simpa using h
  have ih:=ud l i h';rw[List.getElem_cons_succ,List.eraseIdx_cons_succ];exact(List.Perm.swap x l[i] (l.eraseIdx i)).trans (ih.cons x)
theorem GS(nx:Nat->Nat):∀(jR k:Nat) (left:List α) (out:Array α),jR=left.length->(pickOrder.go nx jR k left out).toList.Perm (out.toList++left)
 | 0,k,left,out,h=>by
  have:=lU h.symm;subst this;rw[fA];exact .refl _
 | jR+1,k,left,out,h=>by
  have hl:nx k%left.length<left.length:=Nat.mod_lt _ (by lia)
  unfold pickOrder.go;rw[bU hl];refine(GS nx jR (k+1) (left.eraseIdx (nx k%left.length)) (out.push left[nx k%left.length]) (by grind)).trans ?_
  rw[xt,cj];refine List.Perm.append_left _ ?_;exact ud left _ hl
def IW(nx:Nat->Nat)(xs:Array α):(pickOrder nx xs).toList.Perm xs.toList:=by
 unfold pickOrder;have:=GS nx xs.size 0 xs.toList #[] (by simp)
 simpa using this
def Bt(w:World)(a:Addr)(ep:Nat)(es:Array (Int×Value)):(mw w a ep es).toList.Perm es.toList:=by
 unfold mw;split
 ·exact IW _ _
 ·exact .refl _
def Mn(w:World)(a:Addr)(ep:Nat)(es:Array (Int×Value)):(mw w a ep es).size=es.size:=by
 have:=(Bt w a ep es).length_eq;simpa using this
def intOf:Value->Int
 | .int n _=>n
 | _=>0
theorem Bu:∀(l:List (Int×Value)),(∀e∈l,∃n t,e.2=.int n t)->IntsAre (l.map (·.2)) (l.map λe=>intOf e.2)
 | [],_=>.nil
 | e::l,h=>by
  obtain⟨n,t,q⟩:=h e bg;have ih:=Bu l λx hx=>h x (aU _ hx)
  rw[aE,aE,q];exact .cons n t ih
def jy(place:Array Nat)(led:Bool):SetTable:={mask:=7,place:=place,dummies:=#[],finger:=0,led:=led,moves:=0,plain:=true}
def EK:∀k:_root_.Fin 64,hashInt ((k:Nat):Int)=((k:Nat):Int):=by decide +kernel
def Wf:∀(k:_root_.Fin 64) (led:Bool),(jy #[] led).freeSlot ((k:Nat):Int)=some ((k:Nat)%8,false):=by decide +kernel
def Wg:∀(p:_root_.Fin 8) (k:_root_.Fin 64) (led:Bool),∃q:_root_.Fin 8,(jy #[(p:Nat)] led).freeSlot ((k:Nat):Int)=some ((q:Nat),false)/\q≠p:=by decide +kernel
def QN:∀p:_root_.Fin 8,SetTable.below #[(p:Nat)] 0=0/\SetTable.below #[(p:Nat)] ((p:Nat)+1)=1:=by decide +kernel
def QO:∀p q:_root_.Fin 8,p<q->SetTable.below #[(p:Nat),(q:Nat)] 0=0/\SetTable.below #[(p:Nat),(q:Nat)] ((p:Nat)+1)=1/\SetTable.below #[(p:Nat),(q:Nat)] ((q:Nat)+1)=2:=by decide +kernel
def QP:∀p q:_root_.Fin 8,q≠p->SetTable.below #[(p:Nat)] (q:Nat)=if p<q then 1 else 0:=by decide +kernel
def aav(k:_root_.Fin 64)(led:Bool)(h:Int)(x:Value)(hh:h=((k:Nat):Int)):layNew (jy #[] led) #[] h x=(#[(h,x)],jy #[(k:Nat)%8] led,false,false):=by
 subst hh;unfold layNew;rw[Wf k led];rfl
def aaw(p:_root_.Fin 8)(k:_root_.Fin 64)(led:Bool)(h:Int)(x:Value)(hh:h=((k:Nat):Int))(e:Int×Value) :
  ∃q:_root_.Fin 8,q≠p/\layNew (jy #[(p:Nat)] led) #[e] h x=if p<q then(#[e,(h,x)],jy #[(p:Nat),(q:Nat)] led,false,false)else(#[(h,x),e],jy #[(q:Nat),(p:Nat)] led,false,false):=by
 subst hh;obtain⟨q,hq,hne⟩:=Wg p k led;refine⟨q,hne,?_⟩;have hb:=QP p q hne;unfold layNew;rw[hq];dsimp only
 unfold SetTable.put;have k9:SetTable.below (jy #[p] led).place q=if p<q then 1 else 0:=hb
 rw[k9];by_cases fL:p<q
 ·rw[if_pos fL,if_pos fL];rfl
 ·rw[if_neg fL,if_neg fL];rfl
end
section
open PyProof.Rows
section
variable {prog:Program} {w:World} {A:Around} {E:Value->Shared->Prop} {s:Shared} {a:Addr} {es vp:Array (Int×Value)} {ep:Nat} {t t1:SetTable}
def Bw(h:∀e∈es.toList,∃k tk,e.2=.int k tk/\e.1=hashInt k):ElemsOf (intKind prog w) es.toList:=λe he=>by
 obtain⟨k,tk,h1,h2⟩:=h e he;exact⟨⟨k,by rw[h1];exact intKind_is _ _ _ _,h2⟩,by rw[h1];rfl⟩
def QQ(hS:s.heap.get? a=some (dX es ep t))(vp:Array (Int×Value))(t1:SetTable):(s.heap.update a (Obj.putSet vp t1)).get? a=some (dX vp (ep+1) t1):=by
 have:=sg (Obj.putSet vp t1) hS (by rw[putSet_of vp t1 (rfl)];rfl)
 rw[putSet_of vp t1 (rfl)]at this;exact this
def EL(hS:s.heap.get? a=some (dX es ep t))(hf:t.fits es.size=true)(S6:∀e∈es.toList,∃k tk,e.2=.int k tk/\e.1=hashInt k)(hb:es.size+1<scanBound)
  (Wh:es.toList.findIdx? (λe=>(intKind prog w).is k e.2)=none) (hL:layNew t es (hashInt k) (.int k tk)=(vp,t1,false,false)) (hp:t1.plain=true) (Vt:t1.tooFull=false) (hz:vp.size<=sizeLine)
  (h:Q true {s with heap:=s.heap.update a (Obj.putSet vp t1)}):wpAny (model prog w) A (setAddHashed a (.int k tk) (hashInt k)) Q E s:=by
 have hE:=Bw (prog:=prog) (w:=w) S6;unfold setAddHashed setAddHashedIn;refine eS (af (ka hS rfl hf ?_));dsimp only
 rw[byScan_of rfl (dz ‹_›) hE];simp only[↓reduceIte];unfold setAddByScan;refine af ?_;refine af (gu ?_);refine af (wpAny_setScan_of (intKind_is _ _ _ _) hS rfl hf hE ?_);rw[Wh];dsimp only
 rw[hL];dsimp only
 refine af ?_;refine aj ?_;rw[hp,if_pos rfl];refine af ?_;rw[hashByValue_scannable 8 rfl];refine aj ?_;have e:(if plainKind (Value.int k tk)=true then t1 else {t1 with plain:=false})=t1:=if_pos rfl
 rw[e];refine af (wpAny_storeSet_of hS rfl ?_ hz);rw[Vt,if_neg (by simp)]
 exact aj (aj h)
def EM(hS:s.heap.get? a=some (dX es ep t))(hf:t.fits es.size=true)(S6:∀e∈es.toList,∃k tk,e.2=.int k tk/\e.1=hashInt k)(hb:es.size+1<scanBound)
  (hj:es.toList.findIdx? (λe=>(intKind prog w).is k e.2)=some j) (h:Q false s):wpAny (model prog w) A (setAddHashed a (.int k tk) (hashInt k)) Q E s:=by
 have hE:=Bw (prog:=prog) (w:=w) S6;unfold setAddHashed setAddHashedIn;refine eS (af (ka hS rfl hf ?_));dsimp only
 rw[byScan_of rfl (dz ‹_›) hE];simp only[↓reduceIte];unfold setAddByScan;refine af ?_;refine af (gu ?_);refine af (wpAny_setScan_of (intKind_is _ _ _ _) hS rfl hf hE ?_);rw[hj];dsimp only
 exact aj (aj h)
end
def fE(led:Bool)(xs:List Int)(es:Array (Int×Value))(t:SetTable):Prop :=
 (∀e∈es.toList,∃k tk,e.2=.int k tk/\e.1=hashInt k)/\(es.toList.map λe=>intOf e.2).Perm xs /\
 ((xs=[]/\es=#[]/\t=jy #[] led)\/(∃(p:_root_.Fin 8) (x:Int),xs=[x]/\t=jy #[(p:Nat)] led)\/∃(p q:_root_.Fin 8) (x y:Int),xs=[x,y]/\p<q/\t=jy #[(p:Nat),(q:Nat)] led)
def fE.fits(h:fE led xs es t):t.fits es.size=true/\es.size=xs.length/\es.size<=2:=by
 obtain⟨_,hp,hc⟩:=h;have hl:=hp.length_eq;simp at hl;rcases hc with⟨rfl,rfl,rfl⟩ | ⟨p,x,rfl,rfl⟩ | ⟨p,q,x,y,rfl,_,rfl⟩
 ·exact⟨rfl,hl,by decide⟩
 ·simp at hl;exact⟨by rw[hl];rfl,hl,by lia⟩
 ·simp at hl;exact⟨by rw[hl];rfl,hl,(gJ ‹_›)⟩
def fE.good(h:fE (!BT w) xs es t):fY w a ep es t:=by
 obtain⟨f1,f2,f3⟩:=h.fits;refine⟨f1,Mn w a ep es,λhb=>?_⟩
 obtain⟨_,hp,hc⟩:=h;rw[hb]at hc;rcases hc with⟨rfl,rfl,rfl⟩ | ⟨p,x,rfl,rfl⟩ | ⟨p,q,x,y,rfl,fL,rfl⟩
 ·refine⟨rfl,rfl,λi hi=>?_⟩
  have:i=0:=by grind
  subst this;rfl
 ·obtain⟨b1,b2⟩:=QN p;refine⟨rfl,rfl,λi hi=>?_⟩
  have:es.size=1:=f2;have:i=0\/i=1:=by lia
  rcases this with rfl | rfl
  ·exact b1
  ·exact b2
 ·obtain⟨b1,b2,b3⟩:=QO p q fL;refine⟨rfl,rfl,λi hi=>?_⟩
  have:=f2;have:i=0\/i=1\/i=2:=by lia
  rcases this with rfl | rfl | rfl
  ·exact b1
  ·exact b2
  ·exact b3
section
variable {prog:Program} {w:World} {A:Around} {E:Value->Shared->Prop} {s:Shared} {a:Addr} {es:Array (Int×Value)} {ep:Nat} {t:SetTable}
noncomputable def lH(xs:List Int)(k:Int):List Int:=if k∈xs then xs else xs++[k]
def EN(hS:s.heap.get? a=some (dX es ep t))(h2:fE led xs es t)(hk:0<=k/\k<64)(hx:xs.length<=1)
  (h:∀b h' vp ep1 t1,Heap.SameBut a s.heap h'->h'.get? a=some (dX vp ep1 t1)->fE led (lH xs k) vp t1->Q b {s with heap:=h'}):wpAny (model prog w) A (setAddHashed a (.int k tk) (hashInt k)) Q E s:=by
 obtain⟨f1,f2,f3⟩:=h2.fits;obtain⟨S6,hp,hc⟩:=id h2;have hb:es.size+1<scanBound:=by
  have:scanBound=4096:=rfl
  lia
 have EO:∀e∈es.toList,(intKind prog w).is k e.2=true↔intOf e.2=k:=λe he=>by
  obtain⟨n,N8,q,_⟩:=S6 e he;rw[q];show Value.isInt k (.int n N8)=true↔n=k;simp[Value.isInt]
 cases hr:es.toList.findIdx? (λe=>(intKind prog w).is k e.2)with
 | some j =>
  obtain⟨hj,hpj,_⟩:=J9.mp hr;have N9:k∈xs:=by
   grind
  refine EM hS f1 S6 hb hr ?_;have:=h false s.heap es ep t (Heap.SameBut.refl a s.heap) hS (by unfold lH;rw[if_pos N9];exact h2)
  exact this
 | none =>
  have Wh:k∉xs:=λN9=>by
   grind
  have Yc:hashInt k=k:=by
   have:=EK ⟨k.toNat,by lia⟩
   rw[show(⟨k.toNat,by lia⟩:_root_.Fin 64)=k from oz hk.1]at this
   exact this
  have hkc:hashInt k=(⟨k.toNat,by lia⟩:_root_.Fin 64):=by
   grind
  have fin:∀vp t1,layNew t es (hashInt k) (.int k tk)=(vp,t1,false,false)->t1.plain=true->t1.tooFull=false->vp.size<=2->fE led (lH xs k) vp t1->wpAny (model prog w) A (setAddHashed a (.int k tk) (hashInt k)) Q E s:=λvp t1 hL q1 q2 q3 q4 =>
   EL hS f1 S6 hb hr hL q1 q2 (br q3 (by decide)) (h true _ vp (ep+1) t1 (oA ..) (QQ hS vp t1) q4)
  have Wi:lH xs k=xs++[k]:=by unfold lH;rw[if_neg Wh]
  rcases hc with⟨rfl,rfl,rfl⟩ | ⟨p,x,rfl,rfl⟩ | ⟨p,q,x,y,rfl,fL,rfl⟩
  ·refine fin _ _ (aav ⟨k.toNat,by lia⟩ led _ _ hkc) rfl rfl (by simp) ?_
   rw[Wi];refine⟨λe he=>?_,.refl _,.inr (.inl ⟨⟨(⟨k.toNat,by lia⟩:_root_.Fin 64).val%8,Nat.mod_lt _ (by decide)⟩,k,rfl,rfl⟩)⟩
   have he:=he;have he:=bt.mp he;subst he;exact⟨k,tk,rfl,rfl⟩
  ·have hs1:=f2;obtain⟨e0,rfl⟩:∃e0,es=#[e0]:=Array.size_eq_one_iff.mp hs1
   obtain⟨q,hne,hL⟩:=aaw p ⟨k.toNat,by lia⟩ led (hashInt k) (.int k tk) hkc e0
   have hq:(intOf e0.2)=x:=by
    have hm:=hp.mem_iff.mp (aA.mpr ⟨e0,by simp,rfl⟩)
    simpa using hm
   have h0:=S6 e0 (by simp)
   by_cases fL:p<q
   ·rw[if_pos fL]at hL;refine fin _ _ hL rfl rfl (by simp) ?_
    rw[Wi];refine⟨λe he=>?_,?_,.inr (.inr ⟨p,q,x,k,rfl,fL,rfl⟩)⟩
    ·have he:=he;simp only[aV,eQ,eU]at he;rcases he with rfl | rfl
     ·exact h0
     ·exact⟨k,tk,rfl,rfl⟩
    ·show [intOf e0.2,k].Perm ([x]++[k]);rw[hq];exact .refl _
   ·rw[if_neg fL]at hL;refine fin _ _ hL rfl rfl (by simp) ?_
    rw[Wi];refine⟨λe he=>?_,?_,.inr (.inr ⟨q,p,x,k,rfl,?_,rfl⟩)⟩
    ·have he:=he;simp only[aV,eQ,eU]at he;rcases he with rfl | rfl
     ·exact⟨k,tk,rfl,rfl⟩
     ·exact h0
    ·show [k,intOf e0.2].Perm ([x]++[k]);rw[hq];exact .swap x k []
    ·have h3:q≠(p:Nat):=λe=>hne (_root_.Fin.ext e)
     have h4:¬(p:Nat)<(q:Nat):=fL;show(q:Nat)<(p:Nat)
     lia
  ·simp at hx
end
end
end PySem
namespace PySem
open PyProof.Rows
def pf(val:Nat->Int):Nat->List Int
 | 0=>[]
 | i+1=>lH (pf val i) (val i)
theorem ue(val:Nat->Int):∀i,(pf val i).length<=i
 | 0=>aq _
 | i+1=>by
  have:=ue val i;unfold pf lH;split
  ·lia
  ·simp;lia
section
variable {prog:Program} {w:World} {A:Around} {R:Result->Shared->Prop} {I:Addr} {fp wr:List Addr} {G:Array GenState->Array GenState->Prop} {n:Nat} {P:Nat->Value->Prop} {St:Nat->Shared->Prop}
def Bx(W:WalksS prog w A.in1 I fp wr G n P St)(S:Addr)(hSf:S∉fp)(val:Nat->Int)(ER:∀i v,P i v->∃t,v=.int (val i) t)(hsm:∀i,i<n->0<=val i/\val i<64)(hn:n<=2)(led:Bool) :
  ∀(k i:Nat) (s:Shared),n-i=k->i<=n->St i s->(∃es ep t,s.heap.get? S=some (dX es ep t)/\fE led (pf val i) es t) ->
   (∀s',Moved (S::wr) G s s'->(∃es ep t,s'.heap.get? S=some (dX es ep t)/\fE led (pf val n) es t)->R (.ok (.ret .none)) s') ->
   codeAny (model prog w) A (.builtin "set.update.loop" ⟨[.ref S,.ref I],[]⟩) R s:=by
 have hSw:S∉wr:=λh=>hSf (W.sub _ h)
 have Bh:∀b∈wr,b∈S::wr:=by grind
 intro k;induction k with
 | zero =>
  intro i s hk hi qB hS hR;have N9:i=n:=by lia
  subst N9;refine oF F.entry_set_update_loop ?_;rw[si Dv _];refine af (W.done s _ _ qB λs' hm=>?_)
  exact aj (hR s' (hm.mono Bh) (by
   obtain⟨es,ep,t,ho,rest⟩:=hS;exact⟨es,ep,t,hm.heap S _ hSw ho,rest⟩))
 | succ k ih =>
  intro i s hk hi qB hS hR;have fL:i<n:=by lia
  refine oF F.entry_set_update_loop ?_;rw[si Dv _];refine af (W.item i s _ _ fL qB λv s' hP Wj hm=>?_)
  obtain⟨t,rfl⟩:=ER i v hP;obtain⟨es,ep,tb,ho,h2⟩:=hS;have oh:=hm.heap S _ hSw ho;refine af (eS ?_);unfold setAdd;refine eS ?_;refine af ((intKind prog w).pyHash (intKind_is _ _ _ _) ?_);have hl1:=ue val i;refine EN oh h2 (hsm i fL) (by lia) λb h' vp ep1 t1 hsb hS2 h2'=>?_
  refine aj ⟨xN Dv _,ih (i+1) _ (by lia) fL (W.frame _ s' _ _ Wj (sO _) λb hb o e=>?_) ⟨vp,ep1,t1,hS2,h2'⟩ λLb Wk Wl=>?_⟩
  ·rw[hsb.2 b (λh:b=S=>hSf (by grind))];exact e
  ·refine hR Lb (Moved.trans W.gtrans ((hm.mono Bh).then_heap (sO _) λb o hb e=>?_) Wk) Wl
   rw[hsb.2 b (λh:b=S=>hb (by grind))];exact e
end
section
variable {prog:Program} {w:World} {A:Around} {E:Value->Shared->Prop} {s:Shared}
def vq(a:Value)
  (h:Q₁ (.ref s.heap.objs.size) {s with heap:=s.heap.push {cls:=.type "set",dict:=none,data:=.set #[] 0 (.fresh 0 0 (!BT w))}}) :
  codeAny (model prog w) A (.call (.builtin "set.__new__") ⟨[.type "set",a],[]⟩) (wants Q₁ E) s:=by
 refine codeAny_of_tree ?_;refine af (wpAny_of_eq (F.newCall_set_1 a) (aj ⟨xN F.plain_set_new _,oF F.entry_set_new ?_⟩));rw[si F.plain_set_new _];unfold Builtin.«set.__new__» Builtin.Frozenset.newClass;have Bh:=sub_set_self;obtain⟨hp,g,d,tk,os⟩:=s;dsimp only
 wp_walk
 refine DJ (aj ?_);dsimp only
 simp only[newObj];refine af (wpAny_alloc (aj ?_));exact aj h
end
def fE.nil(led:Bool):fE led [] #[] (jy #[] led):=by
 refine⟨λe he=>?_,List.Perm.refl _,.inl ⟨rfl,rfl,rfl⟩⟩
 cases he
section
variable {prog:Program} {w:World} {A:Around} {E:Value->Shared->Prop} {s:Shared}
set_option maxHeartbeats 3200000 in
theorem By(hh:A.handled=none)(hl:s.heap.IsList l items)(hi:IntsAre items.toList ns)(hb:items.size<=2)(hsm:∀i,i<items.size->0<=ns.getD i 0/\ns.getD i 0<64)
  (h:∀(h':Heap) (tk:Nat) es ep t,h'.get? s.heap.objs.size=some (dX es ep t)->fE (!BT w) (pf (λi=>ns.getD i 0) items.size) es t->(∀b o,b<s.heap.objs.size->s.heap.get? b=some o->h'.get? b=some o)->Q (.ref s.heap.objs.size) {s with heap:=h',toks:=tk}) :
  wpAny (model prog w) A (call (.type "set") [.ref l]) Q E s:=by
 obtain⟨c,tl,aiE⟩:=F.called_set.mro;have agl:=F.called_set.made;have Bh:=F.called_set.sub;refine sP (codeAny_of_tree ?_);refine aj ⟨Code.quiet_builtin _ (by decide +kernel),oF F.entry_type_call ?_⟩
 rw[Around.under_plain (weight_type_call_type "set" [.ref l] []) rfl];have h1:=F.called_set.notType;have h2:=F.called_set.canCreate;have hct:=F.typeCall_set_1 (.ref l)
 repeat (any_goals (first | assumption | wp_step))
 refine kf (vq (.ref l) (E:=E) (Q₁:=λobj s₁=>obj=.ref s.heap.objs.size/\s₁={s with heap:=s.heap.push {cls:=.type "set",dict:=none,data:=.set #[] 0 (.fresh 0 0 (!BT w))}}) ⟨rfl,rfl⟩) λr s₁ hr=>?_
 cases r with
 | error e=>exact hr
 | ok fl =>
  cases fl with
  | ret obj =>
   obtain⟨rfl,rfl⟩:=hr;obtain⟨led,aeH⟩:∃led,led = !BT w:=⟨_,rfl⟩
   rw[<-aeH];have hS:(s.heap.push {cls:=.type "set",dict:=none,data:=.set #[] 0 (.fresh 0 0 led)}).get? s.heap.objs.size=some {cls:=.type "set",dict:=none,data:=.set #[] 0 (.fresh 0 0 led)}:=cJ _ rfl
   have hT:Shared.TypeIs {s with heap:=s.heap.push {cls:=.type "set",dict:=none,data:=.set #[] 0 (.fresh 0 0 led)}} (.ref s.heap.objs.size) "set":=⟨_,hS,rfl⟩
   have hli:=F.called_set.init.lookup;have hbi:=F.called_set.init.bind (.ref s.heap.objs.size)
   repeat (any_goals (first | assumption | wp_step))
   refine kf (codeAny_call_builtin (R:=wants (λr AA=>r=.none/\∃h' tk,AA={s with heap:=h',toks:=tk} /\
     (∃es ep t,h'.get? s.heap.objs.size=some (dX es ep t)/\fE led (pf (λi=>ns.getD i 0) items.size) es t) /\
     (∀b o,b<s.heap.objs.size->s.heap.get? b=some o->h'.get? b=some o)) E) F.called_set.init.plain F.entry_set_init (check_set_init_1 hT ?_)) λaeI AA Mo=>?_
   ·obtain⟨ol,Yb,hcl,nl,SQ⟩:=hl;obtain⟨aeJ,S7,aaz,Mp⟩:=ol;simp only at hcl SQ;subst hcl;subst SQ;have aeK:(s.heap.push {cls:=.type "set",dict:=none,data:=.set #[] 0 (.fresh 0 0 led)}).get? l=some {cls:=.type "list",dict:=S7,data:=.seq items nl,slots:=Mp}:=bj _ Yb
    have aiF:=F.sub_list_set;have aiG:=F.sub_list_frozenset;have hne:(Value.type "list"==Value.type "dict")=false:=by decide
    have hl1:(s.heap.push {cls:=.type "set",dict:=none,data:=.set #[] 0 (.fresh 0 0 led)}).IsList l items:=⟨_,aeK,rfl,nl,rfl⟩
    unfold Builtin.«set.__init__» noKeywords Builtin.Frozenset.updateFrom
    generalize hPI:pyIter=PI
    wp_walk
    subst hPI;refine DG hl1 ?_;refine af (wpAny_runValue ?_);have hlS:l<s.heap.objs.size:=aW Yb;have ER:∀(i:Nat) (v:Value),items[i]?=some v->∃t,v=.int ((λi=>ns.getD i 0) i) t:=λi v hv =>
     PyProof.Rows.IntsAre.int_at hi i v (by grind)
    refine Bx ((Walks.list (by simp[hh]) _ l (by rw[oH];exact bG (xq hlS)) items).toS) s.heap.objs.size (by
     rw[oH];simp only[aV,bt,eQ,eU,not_or];exact⟨bG (sE _),sN hlS⟩) (λi=>ns.getD i 0) ER hsm hb led (items.size-0) 0 _ (by lia) (dm _)
     ⟨⟨_,cJ _ rfl,rfl,rfl⟩,(hl1.push _)⟩ ?hS0 ?hR
    case hS0 =>
     exact⟨#[],0,jy #[] led,bj _ hS,fE.nil led⟩
    case hR =>
     intro s' hm hS';obtain⟨h',g',d',N8,U6⟩:=s';have eg:g'=s.gens:=hm.gens;have ed:d'=s.drawn:=hm.drawn;have eo:U6=s.os:=hm.os;subst eg;subst ed;subst eo;show wpAny _ _ _ _ _ _;refine aj ?_;show wpAny _ _ (ret Value.none) _ _ _;refine aj ⟨rfl,h',N8,rfl,hS',λb o hb e=>?_⟩
     have hb1:b≠s.heap.objs.size:=by grind
     have hb2:b≠(s.heap.push {cls:=.type "set",dict:=none,data:=.set #[] 0 (.fresh 0 0 led)}).objs.size:=by
      rw[oH];exact bG (xq hb)
     exact hm.heap b o (by grind) (bj _ (bj _ e))
   ·cases aeI with
    | error e=>exact Mo
    | ok aaB =>
     cases aaB with
     | ret r =>
      obtain⟨rfl,h',tk,rfl,⟨es,ep,t,hS',h2'⟩,Yc⟩:=Mo
      repeat (any_goals (first | assumption | wp_step))
      exact h _ _ es ep t hS' (by grind) Yc
     | _=>exact Mo.elim
  | _=>exact hr.elim
end
section
variable {prog:Program} {w:World} {A:Around} {E:Value->Shared->Prop} {s:Shared} {a:Addr} {es:Array (Int×Value)} {ep:Nat} {t:SetTable}
def vt(hh:A.handled=none)(hS:s.heap.get? a=some (dX es ep t))(h2:fE (!BT w) xs es t)
  (h:∀(h1 h':Heap) (tk:Nat) (D:Addr) (out:Array Value) (tD:List Int) (e:Nat),(∀b o,s.heap.get? b=some o->h1.get? b=some o)->(∀b o,h1.get? b=some o->h'.get? b=some o)->h1.objs.size<=D->h'.get? D=some (seqObj "list" out e)->IntsAre out.toList tD->tD.Perm xs->tD.Pairwise (· <= ·)->Q (.ref D) {s with heap:=h',toks:=tk}) :
  wpAny (model prog w) A (call (.builtin "sorted") [.ref a]) Q E s:=by
 have g:fY w a ep es t:=h2.good;obtain⟨f1,f2,f3⟩:=h2.fits;refine Dq kind_sorted plain_sorted entry_sorted (args_sorted1 _) ?_;unfold Builtin.«sorted»;refine af (aj ?_);refine af (W.kdu_collect (QM g) (by simp[hh]) hS (br f3 (by decide)) λh' tk acc hk vv=>?_)
 have aeL:acc.toList=(mw w a ep es).toList.map (·.2):=by
  refine List.ext_getElem? λj=>?_
  rw[bZ,lW,lW];by_cases hj:j<es.size
  ·have h1:j<acc.size:=by rw[vv.1];exact hj
   obtain⟨e,he,hv⟩:=vv.2 j acc[j] (by simp[h1])
   rw[he];simp[h1,hv]
  ·have h1:acc[j]?=none:=by
    have:=vv.1;simp;lia
   have h2:(mw w a ep es)[j]?=none:=by
    have:=g.size;simp;lia
   rw[h1,h2];rfl
 have hop:=Bt w a ep es;have aaC:=(hop.map _).trans h2.2.1;have eF:acc.toList.length<=2:=by
  rw[cY,vv.1];exact f3
 refine af (wpAny_newList ?_ (br eF (by decide)))
 have Sj:(h'.push (seqObj "list" acc.toList.toArray 0)).get? h'.objs.size=some (seqObj "list" acc.toList.toArray 0):=cJ _ rfl;show wpAny _ _ _ _ _ {s with heap:=h'.push (seqObj "list" acc.toList.toArray 0),toks:=tk}
 refine af (eS (ig slot_list_sort ⟨_,Sj,rfl⟩ entry_list_sort (list_sort_tree Sj (by
  rw[aeL];exact Bu _ λe he=>by
   obtain⟨k,tk,q,_⟩:=h2.1 e (hop.mem_iff.mp he);exact⟨k,tk,q⟩) (by lia) λout tD a1 a2 a3=>⟨_,rfl,?_⟩) (args_list_sort _)))
 obtain⟨e,yM⟩:=sortedHeap_at Sj;refine aj ⟨_,rfl,h h' _ tk h'.objs.size out tD e hk (λb o hb=>?_) (aq _) yM a1 (a2.trans aaC) a3⟩
 have fL:=aW hb;rw[sortedHeap_old (bG fL) (by rw[size_push'];exact xq fL)]
 exact bj _ hb
end
end PySem
namespace L2.U
open PySem PySem.Spec PyProof.Rows
noncomputable def insI(x:Int):List Int->List Int
 | []=>[x]
 | y::r=>if x<=y then x::y::r else y::insI x r
def iI:List Int->List Int
 | []=>[]
 | x::r=>insI x (iI r)
theorem ph(x:Int):∀l:List Int,(insI x l).Perm (x::l)
 | []=>.refl _
 | y::r=>by
  unfold insI;split
  ·exact .refl _
  ·exact((ph x r).cons y).trans (.swap x y r)
theorem fF:∀l:List Int,(iI l).Perm l
 | []=>.refl _
 | x::r=>(ph x (iI r)).trans ((fF r).cons x)
theorem GU(x:Int):∀l:List Int,l.Pairwise (· <= ·)->(insI x l).Pairwise (· <= ·)
 | [],_=>List.pairwise_singleton _ _
 | y::r,h=>by
  obtain⟨h1,h2⟩:=xl.mp h;unfold insI;split
  ·rename_i hx;refine xl.mpr ⟨λz hz=>?_,h⟩
   rcases aV.mp hz with rfl | hz
   ·exact hx
   ·exact c8 hx (h1 z hz)
  ·rename_i hx;refine xl.mpr ⟨λz hz=>?_,GU x r h2⟩
   rcases aV.mp ((ph x r).mem_iff.mp hz)with rfl | hz
   ·lia
   ·exact h1 z hz
theorem uf:∀l:List Int,(iI l).Pairwise (· <= ·)
 | []=>.nil
 | x::r=>GU x _ (uf r)
def GV:GC:=λh ps=>match ps with
 | [p]=>(A4 h p).bind λqs=>(lF qs).bind λns=>if(ns.length<64\/ns.length<128/\ns.Nodup)then some (.lst ((iI ns).map .int))else none
 | _=>none
def ug:∀{us:List Value} {ns:List Int},IntsAre us ns->Vals (ns.map V.int) us:=by
 intro us ns h;induction h with
 | nil=>exact .nil
 | cons a t _ ih=>exact .cons ⟨t,rfl⟩ ih
theorem kY{K:W.Frag}:∀ns:List Int,aF K F (ns.map .int) (ns.map V.int)
 | []=>.nil
 | n::r=>.cons (aI.mpr rfl) (kY r)
section
variable {X:Cx} {aa:Hp} {ab:Fz} {e o:Expr} {fe fo:Gx PV} {pos p ES zp ap cp:Pos}
def ET:Iq X (.builtin "sorted") GV:=by
 rintro ae s σ H xs us Q I rs ⟨aa,ab,F,st,τ,ps,p,e,R,bs,k⟩
 unfold GV at e;split at e
 ·obtain⟨qs,e1,e⟩:=bf e;obtain⟨ns,e2,e⟩:=bf e;obtain⟨h64,rfl⟩:=aJ e;obtain⟨v,rfl,b⟩:=d9 bs;obtain⟨a,vs,rfl,ha,jQ⟩:=R.at (hJ e1) b;obtain⟨aG,r,pl,_⟩:=I.list (kP.sq ha);have ev:=ng e2 jQ;subst ev;have hi:=mf r;have eF:aG.length=ns.length:=by rw[<-r.length,aD]
  obtain⟨u,rfl,ru⟩:=jY rs;cases ru;refine N5.En pl.isList hi (by grind) λout tD hI hp hu=>?_
  have e1:=W.ksm_same (hp.trans (fF ns).symm) hu (uf ns);subst e1;obtain⟨ep,yM⟩:=sortedAll_at s.heap aG out;have hz:=I.hok.fresh (sO _);obtain⟨R2,s2⟩:=R.laid (.lst ((iI ns).map V.int)) hz;refine⟨.ref (s.heap.objs.size+1),c5 H (s.heap.objs.size+1) (.lst ((iI ns).map V.int)),I.laid (λb u e=>sortedAll_old e) (sO _) ⟨?_,out.toList,ep,ug hI,yM⟩,rfl,k _ _ _ R2 s2 (gB.mpr ⟨_,_,rfl,kP.of aH,kY _⟩)⟩
  rw[aD,(fF ns).length_eq];exact br (show ns.length<=128 by lia) (by decide)
 ·cases e
def GW(h:starEach [e] X.env=(false,eval e X.env)::starEach [] X.env)(hq:wpAny M A (eval e X.env) (λv s1=>Q [v] s1) E s):wpAny M A (spliced (backTo pos (starEach [e] X.env))) Q E s:=by
 rw[h];exact Calls.spliced_cons (thn hq λv s1 q=>Calls.spliced_nil q)
def p8:bootBuiltins "sorted"=some (.builtin "sorted"):=by kernel_rfl
def Mq:bootBuiltins "set"=some (.type "set"):=by kernel_rfl
def ssO(h:List aB)(p:PV):Option PV:=(A4 h p).bind λqs=>(lF qs).bind λns=>if(ns.length<=2/\ns.all (λn=>decide (0<=n/\n<64))=true)then some (.lst ((iI (pf (λi=>ns.getD i 0) ns.length)).map .int))else none
def Mr(fe:Gx PV):Gx PV:=bnd fe λp=>hp λh=>ssO h p
def Wm(hh:X.A.handled=none)(hgl:Gl X "sorted")(hml:X.mg "sorted"=none)(hg:Gl X "set")(hm:X.mg "set"=none)(he:PE X e (tE X aa ab fe))(hs:starEach [e] X.env=[(false,eval e X.env)]) :
  PE X (.Call (.Name "sorted" p) [.Call (.Name "set" zp) [e] [] ES] [] pos) (tE X aa ab (Mr fe)):=by
 rintro ae s σ H Q I ⟨F,st,Rp,h⟩
 have hA:=he ae s σ H (λv H1=>∃F1 bA q,Rep X.K aa ab F1 bA σ H1/\bQ X.K F1 q v/\Tx X aa ab (bQ X.K) F1 bA (hp λh=>ssO h q) σ Q) I ⟨F,st,Rp,h.bnd λq v F1 bA H1 R1 g1 b1 h1=>⟨F1,bA,q,R1,b1,h1⟩⟩
 refine j9 (ld_blt I hgl hml p8 ?_ (by decide) (by decide))
 refine Ka (GW rfl ?_) rfl rfl;refine Call_ (ld_blt I hg hm Mq (lV (GW hs (thn hA λu s1 z9=>?_)) hs rfl))
 obtain⟨v,H1,I1,r1,F1,bA,q,R1,b1,h1⟩:=z9;obtain⟨o,e0,k⟩:=h1.hp;obtain⟨qs,e1,e0⟩:=bf e0;obtain⟨ns,f2,e0⟩:=bf e0;obtain⟨⟨N7,hal⟩,rfl⟩:=aJ e0;obtain⟨a,vs,rfl,ha,jQ⟩:=R1.at (hJ e1) b1;cases r1;obtain⟨aG,r,pl,_⟩:=I1.list (kP.sq ha);have ev:=ng f2 jQ;subst ev;have hi:=mf r;have eF:aG.length=ns.length:=by rw[<-r.length,aD]
 have hsz:aG.toArray.size=ns.length:=by grind
 refine By hh pl.isList hi (by lia) (λi hi'=>?_) λh' tk YH ep t hS h2 hk=>?_
 ·simp_all
 ·rw[hsz]at h2;have I2:Inv X ae σ H1 {s1 with heap:=h',toks:=tk}:=I1.kept λb o e=>hk b o (aW e) e
  refine vt hh hS h2 λh1 h'' N8 D out tD e k1 k2 hD yM hI hp hu=>?_
  have I3:=I2.kept (t':=N8) k1;have e1:=W.ksm_same (hp.trans (fF _).symm) hu (uf _);subst e1;have hz:=I3.hok.fresh hD;obtain⟨R2,s2⟩:=R1.laid (.lst ((iI (pf (λi=>ns.getD i 0) ns.length)).map V.int)) hz
  refine⟨.ref D,c5 H1 D (.lst ((iI (pf (λi=>ns.getD i 0) ns.length)).map V.int)),I3.laid k2 hD ⟨?_,out.toList,e,ug hI,yM⟩,rfl,k _ _ _ R2 s2 (gB.mpr ⟨_,_,rfl,kP.of aH,kY _⟩)⟩
  rw[aD,(fF _).length_eq];have:=ue (λi=>ns.getD i 0) ns.length
  exact br this (br N7 (by decide))
noncomputable def aeO:PV->Option PV
 | .str a=>some (.bl (Txt.isdigit a))
 | _=>none
def QR(fo:Gx PV):Gx PV:=bnd fo λp=>lb (aeO p)
def IX:MtR X "str.isdigit" (λx xs H Q=>∃a,x=.str a/\xs=[]/\Q (.bl (Txt.isdigit a)) H):=by
 rintro ae s σ H x xs v us Q I rx rs ⟨a,e1,e2,q⟩
 subst e1 e2;obtain⟨t,rfl⟩:=rx;have hus:=rs.zero;subst hus;exact SC.isdigit ⟨.bl _,H,I,rfl,q⟩
def aaE(ho:PE X o (tE X aa ab fo))(hb:attributeBase o "isdigit" X.env (eval o X.env)=eval o X.env)(jZ:(ap.endLine==cp.line)=true):PE X (.Call (.Attribute o "isdigit" ap) [] [] cp) (tE X aa ab (QR fo)) :=
 (Li F.plainAttrs_str F.slot_str_isdigit F.type_str_isdigit IX ho hb jZ).imp λσ H Q ⟨F,st,R,h⟩=>⟨F,st,R,h.bnd λp v F1 bA H1 R1 g1 b1 h1=>by
  obtain⟨o,e,z⟩:=h1.lb;cases p<;>cases e
  rw[cZ.mp b1];exact⟨rfl,_,rfl,rfl,z _ H1 F1 R1 (Gr.refl _) (cf.mpr rfl)⟩⟩
end
end L2.U
namespace PySem
open PyProof.Rows
namespace F
def fZ:entryFor table "dict.update.loop"=some Builtin.«dict.update.loop» := entryFor_of_tree (by kernel_rfl)
def cV:plainId "dict.update.loop"=true:=by decide +kernel
end F
section
variable {prog:Program} {w:World} {K:Type} [DecidableEq K] {knd:KeyKind prog w K} {A:Around} {R:Result->Shared->Prop} {I:Addr} {fp wr:List Addr} {G:Array GenState->Array GenState->Prop} {n:Nat} {P:Nat->Value->Prop} {St:Nat->Shared->Prop}
def Bz(h:Heap)(b:Addr)(key v:Value):Prop:=∃o m,h.get? b=some o/\o.cls=.type "tuple"/\o.data=.seq #[key,v] m
def qN(hp:Bz s.heap b key v)(h:Q [key,v] s):wpAny (model prog w) A (Builtin.Dict.pairItems (.ref b)) Q E s:=by
 obtain⟨o,m,h1,h2,h3⟩:=hp;unfold Builtin.Dict.pairItems;refine af (oJ ⟨o,h1,h2⟩ ?_);rw[if_pos (by decide)]
 refine af ?_;unfold seqItems?;obtain⟨aeJ,S7,aaz,Mp⟩:=o;simp only at h2 h3;subst h2 h3
 wp_walk
 exact h
def IY(W:WalksS prog w A.in1 I fp wr G n P St)(S:Addr)(hSf:S∉fp)(hl:kvs.length=n)(hn:n<=sizeLine){s₀:Shared}
  (ER:∀i v,P i v->∃b k key u,v=.ref b/\kvs[i]?=some (k,u)/\knd.is k key=true/\b∉S::wr/\Bz s₀.heap b key u) :
  ∀(c i:Nat) (s:Shared),n-i=c->i<=n->St i s->(∀b o,b∉S::wr->s₀.heap.get? b=some o->s.heap.get? b=some o)->s.heap.DictOf knd S (merged [] (kvs.take i)) ->
   (∀s',Moved (S::wr) G s s'->s'.heap.DictOf knd S (merged [] kvs)->R (.ok (.ret .none)) s') ->
   codeAny (model prog w) A (.builtin "dict.update.loop" ⟨[.ref S,.ref I,rawInt (i:Int),.none],[]⟩) R s:=by
 have hSw:S∉wr:=λh=>hSf (W.sub _ h)
 have Bh:∀b∈wr,b∈S::wr:=by grind
 intro c;induction c with
 | zero =>
  intro i s hk hi qB ho hS hR;have N9:i=n:=by lia
  subst N9;refine oF F.fZ ?_;rw[si F.cV _];refine af (W.done s _ _ qB λs' hm=>?_)
  refine af (aj ?_);rw[xg (gJ ‹_›)]at hS;refine aj (hR s' (hm.mono Bh) ?_);obtain⟨o,es,ep,h1,r⟩:=hS;exact⟨o,es,ep,hm.heap S _ hSw h1,r⟩
 | succ c ih =>
  intro i s hk hi qB ho hS hR;have fL:i<n:=by lia
  refine oF F.fZ ?_;rw[si F.cV _];refine af (W.item i s _ _ fL qB λv s' hP Wj hm=>?_)
  obtain⟨b,k,key,u,rfl,hki,U1,hbn,aaF⟩:=ER i v hP;have oh:∀b o,b∉S::wr->s₀.heap.get? b=some o->s'.heap.get? b=some o:=λb o hb e=>hm.heap b o (λz=>hb (aU _ z)) (ho b o hb e)
  refine af (eS ?_);refine af (wpAny_tryCatch (qN (by
   obtain⟨o,m,h1,r⟩:=aaF;exact⟨o,m,oh b o hbn h1,r⟩) ?_))
  refine eS ?_;have hsz:(merged [] (kvs.take i)).length<=sizeLine:=by
   have:=merged_length_le ([]:List (K×Value)) (kvs.take i);rw[jG]at this;simp at this
   lia
  refine wpAny_dictSet_pairs U1 (by
   obtain⟨o,es,ep,h1,r⟩:=hS;exact⟨o,es,ep,hm.heap S _ hSw h1,r⟩) λh' hd hsb=>?_
  rw[<-merged_take_succ _ _ _ _ hki]at hd;have aeP:∀b o,b∉S::wr->s₀.heap.get? b=some o->h'.get? b=some o:=λb o hb e=>(hsb.2 b (λh:b=S=>hb (by grind))).trans (oh b o hb e)
  refine aj ⟨xN F.cV _,ih (i+1) _ (by lia) fL (W.frame _ s' _ _ Wj (fM ..) λb hb o e=>?_) aeP hd λLb Wk Wl=>?_⟩
  ·exact(hsb.2 b (λh:b=S=>hSf (by grind))).trans e
  ·refine hR Lb (Moved.trans W.gtrans ((hm.mono Bh).then_heap (fM ..) λb o hb e=>?_) Wk) Wl
   exact(hsb.2 b (λh:b=S=>hb (by grind))).trans e
end
namespace F
def vw:typeLookup (.type "tuple") "keys"=pure none:=by rw[DR,DA];kernel_rfl
end F
section
variable {prog:Program} {w:World} {A:Around} {E:Value->Shared->Prop} {s:Shared} {a:Addr} {o:Obj} {xs:Array Value} {k:Nat} {Q:Option Value->Shared->Prop}
def qO(hx:s.heap.get? a=some o)(hc:o.cls=.type "tuple")(Eu:o.data=.seq xs k)(hd:o.dict=none)(hA:A.handled=none)
  (h:∀h' tk,(∀b ob,s.heap.get? b=some ob->h'.get? b=some ob)->Q none {s with heap:=h',toks:=tk}) :
  wpAny (model prog w) A (getAttr? (.ref a) "keys") Q E s:=by
 obtain⟨c,dct,dat,sl⟩:=o;simp only at hc Eu hd;subst hc Eu hd;obtain⟨hp,g,d,tk,os⟩:=s;have hT:∀N8,(⟨hp,g,d,N8,os⟩:Shared).TypeIs (.ref a) "tuple":=λ_=>⟨_,hx,rfl⟩
 have f1:=sub_AttributeError;have f3:=Dr.lookup;have f4:=Dr.bind (.ref a);have f5:=am_tuple_getattr_none;unfold getAttr? getAttrBy? getAttrBy
 repeat (any_goals (first | assumption | exact hT _ | ((with_reducible show wpAny _ _ (call (Value.builtin "tuple.__getattribute__") _ _) _ _ _);refine l8 Dr (hT _) am_entry_tuple_getattribute (F.args_tuple_getattribute_2 _ _) (meets_getattribute_miss_tuple a xs k sl "keys" _ F.vw (by decide +kernel) (by decide +kernel)) ⟨hx,hA,λh' N8 e Er=>?_⟩) | wp_step))
 obtain⟨t',u',he⟩:=Er.there;show wpAny _ _ (getattributeRaised _ _ _ _ _ _ _) _ _ _;unfold getattributeRaised
 repeat (any_goals (first | assumption | wp_step))
 exact h _ _ Er.keeps
end
section
variable {prog:Program} {w:World} {A:Around} {E:Value->Shared->Prop} {s:Shared} {K:Type} [DecidableEq K] {knd:KeyKind prog w K}
def EU(hh:A.handled=none)(hx:s.heap.get? l=some ol)(hc:ol.cls=.type "tuple")(Eu:ol.data=.seq items m)(hdn:ol.dict=none)
  (hi:∀(i:Nat) (v:Value),items[i]?=some v->∃b k key u,v=.ref b/\kvs[i]?=some (k,u)/\knd.is k key=true/\Bz s.heap b key u) (hlk:kvs.length=items.size) (hb:items.size<=sizeLine)
  (h:∀(h':Heap) (tk:Nat),h'.DictOf knd s.heap.objs.size (merged [] kvs)->(∀b o,b<s.heap.objs.size->s.heap.get? b=some o->h'.get? b=some o)->Q (.ref s.heap.objs.size) {s with heap:=h',toks:=tk}) :
  wpAny (model prog w) A (call (.type "dict") [.ref l]) Q E s:=by
 refine callType_codes (Q₁:=λobj s₁=>obj=.ref s.heap.objs.size/\s₁={s with heap:=s.heap.push {cls:=.type "dict",data:=.dict #[]}}) F.kt_called_dict (F.kt_typeCall_dict_1 _) F.entry_dict_init (kt_code_dict_new _ ⟨rfl,rfl⟩) ?_
 rintro obj s₁ ⟨rfl,rfl⟩
 have Wn:(s.heap.push {cls:=.type "dict",data:=.dict #[]}).DictOf knd s.heap.objs.size []:=Heap.DictOf.new s.heap
 have Er:(s.heap.push {cls:=.type "dict",data:=.dict #[]}).get? l=some ol:=bj _ hx
 have hlS:=aW hx;refine⟨Wn.typeIs,F.args_dict_init_2 _ _,?_⟩;unfold Builtin.«dict.__init__»;refine af ?_;unfold Builtin.Dict.selfAndRest;refine af (wpAny_notOrdered_dict Wn.typeIs ?_);refine aj ?_;show wpAny _ _ (Builtin.Dict.updateFrom "dict.__init__" s.heap.objs.size (.ref l) [] .none) _ _ _;unfold Builtin.Dict.updateFrom;refine af (oJ ⟨ol,Er,hc⟩ ?_);rw[if_pos (by decide)]
 refine af (qO Er hc Eu hdn (by simp[hh]) λh2 tk2 kp=>?_)
 rw[if_pos (show(none:Option Value).isNone=true from rfl)]
 have hx2:=kp l ol Er;have S8:h2.DictOf knd s.heap.objs.size []:=by
  obtain⟨o,es,ep,h1,r⟩:=Wn;exact⟨o,es,ep,kp _ _ h1,r⟩
 have Yd:h2.IsTuple l items:=⟨ol,hx2,hc,m,Eu⟩;refine af (gu ?_);refine af ?_;refine DC Yd ?_;refine aj ⟨xN F.cV _,?_⟩;have hSI:s.heap.objs.size<h2.objs.size:=by
  obtain⟨o,_,_,h1,_⟩:=S8;exact aW h1
 have aeS:=bG (oN hlS hSI);have ER:∀i (v:Value),items[i]?=some v->∃b k key u,v=.ref b/\kvs[i]?=some (k,u)/\knd.is k key=true/\b∉[s.heap.objs.size,h2.objs.size]/\Bz s.heap b key u:=λi v hv=>by
  obtain⟨b,k,key,u,e1,e2,e3,e4⟩:=hi i v hv;refine⟨b,k,key,u,e1,e2,e3,?_,e4⟩;obtain⟨o,_,ho,_⟩:=e4;have:=aW ho;simp only[aV,eQ,eU,not_or];exact⟨bG this,bG (oN this hSI)⟩
 refine IY (knd:=knd) (s₀:=s) ((Walks.tuple (by simp[hh]) h2.objs.size l aeS items).toS) s.heap.objs.size (by grind) hlk hb ER (items.size-0) 0 _ (by lia) (dm _) ⟨⟨_,cJ _ rfl,rfl,rfl⟩,Yd.push _⟩ (λb o _ e=>bj _ (kp _ _ (bj _ e))) ?_ ?_
 ·obtain⟨o,es,ep,h1,r⟩:=S8;exact⟨o,es,ep,bj _ h1,r⟩
 ·intro s' hm hS';obtain⟨h',g',d',N8,U6⟩:=s';have eg:g'=s.gens:=hm.gens;have ed:d'=s.drawn:=hm.drawn;have eo:U6=s.os:=hm.os;subst eg;subst ed;subst eo;refine⟨rfl,h h' N8 hS' λb o hb e=>?_⟩
  refine hm.heap b o ?_ (bj _ (kp _ _ (bj _ e)));simp only[aV,eQ,eU,not_or];exact⟨bG hb,bG (oN hb hSI)⟩
end
end PySem
namespace L2.U
open PySem PySem.Spec PyProof.Rows
section
variable {X:Cx} {a b:Expr} {ta tb:TE} {p cp bp:Pos}
def qa(K:W.Frag)(H:Hp):List V->List (bK×V)->Prop:=Paired λv kv=>∃c,v=.ref c/\jm K H c [kV kv.1,kv.2]
def nz(kvs:List (bK×V)):List (bK×V):=kvs.foldl (λacc kv=>putK acc kv.1 kv.2) []
def aaG(K:W.Frag):R2:=λx y H Q=>∃a b xs ys kvs,x=.ref a/\y=.ref b/\jm K H a xs/\jm K H b ys/\xs≠[]/\ys≠[]/\xs.length+ys.length<=1000/\qa K H (xs++ys) kvs/\∀p,H p=none->Q (.ref p) (c5 H p (.dK (nz kvs)))
theorem BA:∀{kvs:List (bK×V)} {vs:List (bK×Value)} {acc:List (bK×V)} {aaH:List (bK×Value)},L2.KV kvs vs->L2.KV acc aaH->L2.KV (kvs.foldl (λacc kv=>putK acc kv.1 kv.2) acc) (vs.foldl (λacc kv=>stored acc kv.1 kv.2) aaH)
 | _,_,_,_,.nil,h=>h
 | _,_,_,_,.cons (a:=x) r t,h=>by
  have h2:=h.put x.1 r.2;rw[xJ,xJ];rw[r.1]at h2 ⊢;exact BA (t) h2
def Ms(f:List (bK×V)):∀acc:List (bK×V),(f.foldl (λacc kv=>putK acc kv.1 kv.2) acc).length<=acc.length+f.length:=by
 induction f with
 | nil=>intro acc;simp
 | cons x f ih =>
  intro acc;have:=ih (putK acc x.1 x.2);have:=GA acc x.1 x.2;rw[xJ,aM]
  lia
theorem GX(I:Inv X ae σ H s):∀{vs:List V} {kvs:List (bK×V)},qa X.K H vs kvs->∀{us:List Value},Vals vs us->∃Ye:List (bK×Value),L2.KV kvs Ye/\Ye.length=us.length/\∀(i:Nat) (u:Value),us[i]?=some u->∃b k key w,u=.ref b/\Ye[i]?=some (k,w)/\(dZ X.prog X.w).is k key=true/\Bz s.heap b key w
 | _,_,.nil,us,r=>by
  cases r;exact⟨[],.nil,rfl,λi u h=>by cases h⟩
 | _,_,.cons (b:=kv) q t,us,r=>by
  cases r with
  | cons r1 r2 =>
   obtain⟨Ye,g1,g2,g3⟩:=GX I t r2;obtain⟨c,rfl,hs⟩:=q;obtain⟨aG,rr,⟨o,h1,h2,n,h3⟩,_⟩:=I.tuple hs;obtain⟨key,w,e,hk,hw⟩:=rr.two;subst e;cases r1;refine⟨(kv.1,w)::Ye,.cons ⟨rfl,hw⟩ g1,by rw[aM,aM,g2],λi u hu=>?_⟩
   cases i with
   | zero =>
    cases hu;exact⟨c,kv.1,key,w,rfl,rfl,tH hk,o,n,h1,h2,h3⟩
   | succ i=>exact g3 i u hu
def QS(hh:X.A.handled=none)(hg:Gl X "dict")(hm:X.mg "dict"=none)(ha:PE X a ta)(hb:PE X b tb)(hs:starEach [.BinOp a .Add b bp] X.env=[(false,eval (.BinOp a .Add b bp) X.env)]):PE X (.Call (.Name "dict" p) [.BinOp a .Add b bp] [] cp) (X2 (aaG X.K) ta tb):=by
 intro ae s σ H Q I h;refine Call_ (ld_blt I hg hm (show bootBuiltins "dict"=some (.type "dict") by decide +kernel) (lV (GW hs (wpAny_BinOp (OL ha hb I h λv u s2 x y H2 I2 rx ry q=>?_))) hs rfl))
 obtain⟨t1,t2,xs,ys,kvs,rfl,rfl,h1,h2,h3,h4,h5,h6,q⟩:=q;cases rx;cases ry;obtain⟨aG,r1,p1,_⟩:=I2.tuple h1;obtain⟨il,r2,p2,_⟩:=I2.tuple h2;have hz:aG.length+il.length<=1000:=by rw[<-r1.length,<-r2.length];exact h5
 have ago:1000<=sizeLine:=by decide
 refine HT.F9 p1 p2 (λz=>h3 (r1.mU.mp z)) (λz=>absurd (r2.mU.mp z) h4) (λz=>?_) (br ‹_› ‹_›)
 obtain⟨Ye,g1,g2,g3⟩:=GX I2 h6 (r1.append r2);obtain⟨Yg,aiM⟩:=nw (s2.heap.push {cls:=.type "tuple",data:=.seq (aG++il).toArray})
 have hsz:(aG++il).toArray.size=aG.length+il.length:=by simp
 refine EU (knd:=dZ X.prog X.w) hh (cJ _ rfl) rfl rfl rfl (λi v hv=>?_) (by rw[g2];simp) (by grind) λh' tk dd kp=>?_
 ·rw[List.getElem?_toArray]at hv;obtain⟨c,k,key,w,e1,e2,e3,o,n,e4,e5⟩:=g3 i v hv;exact⟨c,k,key,w,e1,e2,e3,o,n,bj _ e4,e5⟩
 ·have hS:s2.heap.objs.size<=(s2.heap.push {cls:=.type "tuple",data:=.seq (aG++il).toArray}).objs.size:=by simp_all
  have Pe:=BA g1 .nil;refine⟨.ref _,_,I2.laid (λb u e=>kp b u (bW (aW e) hS) (bj _ e)) hS ?_,rfl,q _ (I2.hok.fresh hS)⟩
  refine⟨?_,jF.mpr (dU (bG (bW (tJ I2) hS))),_,Pe,dd⟩;have:=Ms kvs [];have e:=oI g1;rw[bJ]at g2;unfold nz;simp only[sH]at this
  lia
end
def GY:PV->Option (bK×PV)
 | .nd .ao [k,v]=>(Ba k).map λj=>(j,v)
 | _=>none
def wz:List (bK×PV)->aB->aB
 | [],c=>c
 | (k,v)::r,c=>match c.k with
  | .gU t ks=>wz r (qI t [k] v ks c.ps)
  | _=>c
def IZ(ps:List PV):Option aB:=if ps.length<=1000 then(cL GY ps).map λkvs=>wz kvs ⟨.gU false [],[]⟩else none
section
variable {K:W.Frag} {F:Fz}
theorem BB:∀{ps:List PV} {kvs:List (bK×PV)} {vs:List V},cL GY ps=some kvs->aF K F ps vs->∃ks:List (bK×V),qa K F.F vs ks/\ks.map (·.1)=kvs.map (·.1)/\aF K F (kvs.map (·.2)) (ks.map (·.2))
 | [],_,_,h,b=>by
  cases h;rw[b.cU];exact⟨[],.nil,rfl,.nil⟩
 | p::ps,kvs,vs,h,b=>by
  obtain⟨kv,r,h1,h2,rfl⟩:=gw h;obtain⟨v,w,rfl,b1,b2⟩:=b.cq;obtain⟨ks,g1,g2,g3⟩:=BB h2 b2;unfold GY at h1;split at h1
  ·rename_i k q;obtain⟨j,e1,rfl⟩:=bz h1;obtain⟨c,ws,rfl,hs,hb⟩:=cS.mp b1;obtain⟨x,y,rfl,bx,bq⟩:=rj hb;rw[tZ e1 bx]at hs;exact⟨(j,y)::ks,.cons ⟨c,rfl,hs⟩ g1,by rw[aE,aE,g2],.cons bq g3⟩
  ·cases h1
theorem GZ:∀{kvs:List (bK×PV)} {ks:List (bK×V)} {acc:List (bK×V)} {ps:List PV},ks.map (·.1)=kvs.map (·.1)->aF K F (kvs.map (·.2)) (ks.map (·.2))->aF K F ps (acc.map (·.2)) ->
  ∃Af Di,wz kvs ⟨.gU false (acc.map λy=>[y.1]),ps⟩=⟨.gU false Af,Di⟩/\(ks.foldl (λacc kv=>putK acc kv.1 kv.2) acc).map (λy=>[y.1])=Af/\aF K F Di ((ks.foldl (λacc kv=>putK acc kv.1 kv.2) acc).map (·.2))
 | [],ks,acc,ps,h1,h2,h3=>by
  have:=List.map_eq_nil_iff.mp h1;subst this;exact⟨_,_,rfl,rfl,h3⟩
 | (k,q)::kvs,[],acc,ps,h1,h2,h3=>by cases h1
 | (k,q)::kvs,(j,v)::ks,acc,ps,h1,h2,h3=>by
  simp only[aE,DT]at h1;obtain⟨rfl,h1⟩:=h1;obtain⟨v',w,e,b1,b2⟩:=h2.cq;cases e;obtain⟨Af,Di,e1,e2,e3⟩:=LJ b1 h3;obtain⟨ks2,ps2,e4,e5,e6⟩:=GZ h1 b2 e3;refine⟨ks2,ps2,?_,e5,e6⟩;show wz kvs (qI false [j] q (acc.map λy=>[y.1]) ps)=_
  rw[e1,<-e2];exact e4
end
def QT{K:W.Frag}(h:IZ ps=some c)(b:aF K F ps vs):∃ks:List (bK×V),qa K F.F vs ks/\ps.length<=1000/\∃Af qs,c=⟨.gU false Af,qs⟩/\(nz ks).map (λy=>[y.1])=Af/\aF K F qs ((nz ks).map (·.2)):=by
 obtain⟨hl,h⟩:=bR h;obtain⟨kvs,h1,rfl⟩:=bz h;obtain⟨ks,g1,g2,g3⟩:=BB h1 b;obtain⟨Af,Di,e1,e2,e3⟩:=GZ (acc:=[]) g2 g3 .nil;exact⟨ks,g1,hl,Af,Di,e1,e2,e3⟩
theorem qa.mono{K:W.Frag}(h:cP F G):∀{vs:List V} {ks:List (bK×V)},qa K F vs ks->qa K G vs ks
 | _,_,.nil=>.nil
 | _,_,.cons ⟨c,e,q⟩ t=>.cons ⟨c,e,bL h q⟩ (qa.mono h t)
def QU:PV->Option (List PV)
 | .nd .ao ps=>some ps
 | _=>none
def aeT(p q:PV):Gx PV:=λst=>(QU p).bind λps=>(QU q).bind λqs=>if(ps.isEmpty || qs.isEmpty)=true then none else(IZ (ps++qs)).bind λc=>mj c st
def G0(fa fb:Gx PV):Gx PV:=bnd fa λp=>bnd fb λq=>aeT p q
section
variable {X:Cx} {aa:Hp} {ab:Fz} {a b e:Expr} {fa fb fe:Gx PV} {p cp bp:Pos}
def Wo(hh:X.A.handled=none)(hg:Gl X "dict")(hm:X.mg "dict"=none)(ha:PE X a (tE X aa ab fa))(hb:PE X b (tE X aa ab fb))(hs:starEach [.BinOp a .Add b bp] X.env=[(false,eval (.BinOp a .Add b bp) X.env)]):PE X (.Call (.Name "dict" p) [.BinOp a .Add b bp] [] cp) (tE X aa ab (G0 fa fb)) :=
 (QS hh hg hm ha hb hs).imp λσ H Q ⟨F,st,R,h⟩=>⟨F,st,R,h.bnd λq v F1 bA H1 R1 g1 b1 h1=>⟨F1,bA,R1,h1.bnd λq2 v2 F2 st2 H2 R2 g2 b2 h2=>by
  obtain⟨r,e1,e2⟩:=h2;obtain⟨ps,e3,e1⟩:=bf e1;obtain⟨qs,e4,e1⟩:=bf e1;split at e1
  ·cases e1
  ·rename_i hne;obtain⟨c,e5,e1⟩:=bf e1;have t1:q=.ao ps:=by
    unfold QU at e3;split at e3
    ·grind
    ·cases e3
   have t2:q2=.ao qs:=by
    unfold QU at e4;split at e4
    ·grind
    ·cases e4
   subst t1 t2;obtain⟨a1,vs,rfl,hs1,hb1⟩:=cS.mp (b1.mono g2);obtain⟨a2,ws,rfl,Sq,hb2⟩:=cS.mp b2;obtain⟨ks,k1,hl,Af,Di,rfl,e6,e7⟩:=QT e5 (hb1.append hb2);simp only[DP,xy,not_or]at hne;rw[bJ]at hl;refine⟨a1,a2,vs,ws,ks,rfl,rfl,bL R2.sub hs1,bL R2.sub Sq,λz=>hne.1 ?_,λz=>hne.2 ?_,by rw[<-hb1.length,<-hb2.length];exact hl,k1.mono R2.sub,λp hp=>?_⟩
   ·subst z;exact lU hb1.length
   ·subst z;exact lU hb2.length
   ·exact Tx.mj (show Tx X aa ab (bQ X.K) F2 st2 (mj ⟨.gU false Af,Di⟩) σ Q from⟨r,e1,e2⟩) R2 hp ⟨nz ks,aH,e6,rfl⟩ e7⟩⟩
end
noncomputable def Wq:List PV->Option (List Int)
 | [.int n]=>if 0<=n/\n<=1000 then some (rangeInts 0 1 n.toNat)else none
 | [.int a,.int b]=>if 0<=a/\a<=b/\b<=1000 then some (rangeInts a 1 (b-a).toNat)else none
 | _=>none
def jd(m:Nat)(ps:List PV):Gx PV:=λst=>match m with
 | 0=>some (.ok (.lst ps),st)
 | _=>mj ⟨.lst,ps⟩ st
def lrg(m:Nat)(ts:Gx (List PV)):Gx PV:=bnd ts λps=>bnd (lb (Wq ps)) λl=>jd m (l.map .int)
def boot_range:bootBuiltins "range"=some (.type "range"):=by kernel_rfl
section
variable {X:Cx} {aa:Hp} {ab:Fz} {e:Expr} {es:List Expr} {ts:Gx (List PV)} {pos p ES zp:Pos} {m:Nat}
def Tx.jd{st:dq}(h:Tx X aa ab (bQ X.K) F st (jd m ps) σ Q)(R:Rep X.K aa ab F st σ H)(hq:H q=none)(hb:aF X.K F ps vs):Q (.ref q) (c5 H q (.lst vs)):=by
 cases m with
 | zero =>
  obtain⟨r,e1,e2⟩:=h;cases e1;obtain⟨R2,s2⟩:=R.laid (.lst vs) hq;exact e2 _ _ _ R2 s2 (gB.mpr ⟨q,vs,rfl,kP.of aH,hb.mono s2⟩)
 | succ m=>exact Tx.mj (h) R hq aH hb
def EV(h:ItemsOf (fun(i:Nat) (v:Value)=>∃t:Tok,v=Value.int (a+i*c) t) acc n):Vals ((rangeInts a c n).map V.int) acc.toList:=by
 have:∀l k,(∀j v,l[j]?=some v->∃t:Tok,v=Value.int (a+(k+j:Nat)*c) t)->Vals (((List.range' k l.length).map fun(i:Nat)=>a+i*c).map V.int) l:=by
  intro l;induction l with
  | nil=>intro k _;exact .nil
  | cons x l ih =>
   intro k hx;obtain⟨t,ht⟩:=hx 0 x rfl;rw[aM,List.range'_succ,aE,aE];refine .cons ⟨t,by rw[ht];rfl⟩ (ih (k+1) λj v hv=>?_)
   have:=hx (j+1) v (by simpa using hv)
   rw[show k+(j+1)=k+1+j by lia]at this
   exact this
 have h2:=this acc.toList 0 λj v hv=>by
  rw[dy];exact h.2 j v (by rw[<-lW];exact hv)
 rw[cY,h.1,<-List.range_eq_range']at h2;exact h2
def aaI(hh:X.A.handled=none)(hgl:Gl X "list")(hml:X.mg "list"=none)(hg:Gl X "range")(hm:X.mg "range"=none)(ha:PA X (e::es) (tA X aa ab ts))(hs:starEach (e::es) X.env=(false,eval e X.env)::starEach es X.env)(Sq:(backTo ES (starEach es X.env)).any (·.1)=false) :
  PE X (.Call (.Name "list" p) [.Call (.Name "range" zp) (e::es) [] ES] [] pos) (tE X aa ab (lrg m ts)):=by
 rintro ae s σ H Q I ⟨F,st,Rp,h⟩
 refine j9 (ld_blt I hgl hml (nh .list) ?_ (by decide) (by decide))
 refine lV (GW rfl ?_) rfl rfl;have hA:=ha ES ae s σ H (λvs H'=>∃F' az ps,Rep X.K aa ab F' az σ H'/\aF X.K F' ps vs/\Tx X aa ab (bQ X.K) F' az (bnd (lb (Wq ps)) λl=>jd m (l.map .int)) σ Q) I ⟨F,st,Rp,h.bnd λps vs F1 bA H1 R1 g1 b1 h1=>⟨F1,bA,ps,R1,b1,h1⟩⟩
 refine Call_ (ld_blt I hg hm boot_range (lV (thn hA λus s1 z9=>?_) hs Sq))
 obtain⟨vs,H1,I1,r1,F1,bA,ps,R1,b1,h1⟩:=z9;obtain⟨ns,f2,h1⟩:=At.lb (At.bnd h1);have fin:∀r h1 tk1 (a b c:Int) (t u v:Tok) (n:Nat),(∀b o,s1.heap.get? b=some o->h1.get? b=some o)->IsRange h1 r a b c t u v->Builtin.Range.small a b c=true->Builtin.Range.rangeSize a b c=n->n<=3000->ns=rangeInts a c n ->
   wpAny (model X.prog X.w) X.A (call (.type "list") [.ref r]) (EP X ae σ Q) X.xe {s1 with heap:=h1,toks:=tk1}:=λr h2 tk1 a b c t u v n hk hr hsm hn vX Lm=>by
  refine call_list_range hh hr hsm hn (by lia) λh' tk acc c' hk2 hS vv=>?_
  have I2:=I1.kept (t':=tk1) hk;have hz:=I2.hok.fresh (aq _);have hv:=EV vv;rw[<-Lm]at hv;refine⟨.ref h2.objs.size,c5 H1 h2.objs.size (.lst (ns.map V.int)),I2.laid hk2 (aq _) ⟨?_,acc.toList,c',hv,hS⟩,rfl,Tx.jd h1 R1 hz (kY ns)⟩;rw[aD,Lm,rangeInts_length];exact br vX (by decide)
 clear h1;unfold Wq at f2;split at f2
 ·rename_i n;obtain⟨⟨h0,h1⟩,e1⟩:=aJ f2;obtain⟨v,rfl,bv⟩:=d9 b1;rw[aI.mp bv]at r1;obtain⟨u,rfl,ru⟩:=jY r1;obtain⟨tk0,rfl⟩:=ru;refine call_range_1 ?_;refine fin _ _ _ 0 n 1 _ _ _ n.toNat (λb o e=>bj _ e) (IsRange.new ..) ?_ ?_ (by lia) e1.symm
  ·exact small_one (by decide) (by decide) (by lia) (by lia)
  ·unfold Builtin.Range.rangeSize;rw[if_pos (by decide)]
   split<;>lia
 ·rename_i a b;obtain⟨⟨h0,h1,h2⟩,e1⟩:=aJ f2;obtain⟨v1,v2,rfl,bv1,bv2⟩:=rj b1;rw[aI.mp bv1,aI.mp bv2]at r1;obtain⟨u1,u2,rfl,ru1,ru2⟩:=So r1;obtain⟨k1,rfl⟩:=ru1;obtain⟨k2,rfl⟩:=ru2;refine call_range_2 ?_;refine fin _ _ _ a b 1 _ _ _ (b-a).toNat (λb o e=>bj _ e) (IsRange.new ..) (small_one (by lia) (by lia) (by lia) (by lia)) (rangeSize_nat a b) (by lia) e1.symm
 ·cases f2
end
section
variable {X:Cx}
def QV(op:Operator):Option G2:=VL op
def Mt{op:Operator}{g:G2}(h:QV op=some g):yn X (binaryOp op) g:=by
 exact Py h
end
structure Gm where
 sc:List (Str×NameKind)
 N:List Str
 own:Bool
 fns:List (Str×Nat)
 call:Str->qK
 cons:List (Str×PV)
 dE:List Str
 tabs:List (Str×List (Str×Str))
 cls:List (Str×Nat)
 make:Str->qK
 clss:List Str
 flds:List Str
 /-- what gO in a cell: 1 a list,2 a list of cells,10 a dict Sd keys are tuples -/
 Yw:List (Str×Nat)
 vf:Option ((PV->Gx PV)->Nat->qK)
 yN:Option (Nat×(PV->Gx PV))
def slot(Γ:Gm)(x:Str):Option Nat:=Γ.N.findIdx? (· == x)
noncomputable def OJ(Γ:Gm)(x:Str):Bool:=match Γ.sc.lookup x with | some .local=>true | some .cell=>true | some .free=>true | _=>false
noncomputable def Yh(Γ:Gm)(x:Str):Bool:=match Γ.sc.lookup x with | some .local=>true | some .cell=>Γ.own | _=>false
noncomputable def Ah(Γ:Gm)(x:Str):Bool:=match Γ.sc.lookup x with | some .globalImplicit=>true | _=>false
noncomputable def je(x:Str):Bool:=!(x==("__debug__":Str))&&!(x==("__classdict__":Str))&&!(x==("__name__":Str))
noncomputable def md(Γ:Gm)(x:Str):Nat:=(Γ.Yw.lookup x).getD 0
def I0(m:Nat):Nat:=if m<10 then m-1 else 0
def Wr(X:Cx)(k:Nat)(fns:List (Str×Nat))(call:Str->qK):Prop:=∀x n,fns.lookup x=some n->∃j f fd ps,j<=k/\FnOk X.prog X.w X.K X.mg X.base (jt X.prog X.w) j f fd ps (IP X.K n (call x))/\X.mg x=some (.ref f)/\W.keepIn X.K (.ref f)=true/\gP X.K fd ps []
structure Mu (Γ:Gm) (X:Cx) (rs:(PV->Gx PV)->Nat->qK):Prop where
 ex:∃(st:Stmt) (fs:Addr) (S5:FuncData) (pr Ns:List Str) (k:Nat) (rb:(PV->Gx PV)->Nat->Gx eX),rs=(λω n=>du (rb ω n) Ns.length)/\DV X.K "spread" "spread" st fs S5/\X.mg "spread"=some (.ref fs)/\gP X.K S5 pr []/\dB Ns pr (au st)/\pr.length=2/\dJ (k+2) X.A /\
  (∀(cW:Value) (A:Around) (ay:List Env) (s:Shared) (H:Hp) (E:XK) (aa:Hp) (ab:Fz) (n:Nat) (ω:PV->Gx PV),dJ (k+1) (A.deeper (envOfC "spread" (au st) s.heap.objs.size fs cW))->Br (fK (jt X.prog X.w) X.prog X.w X.K X.mg X.base Ns "spread" (au st) fs cW A ay s H E) aa ab n ω ->
   PSs (fK (jt X.prog X.w) X.prog X.w X.K X.mg X.base Ns "spread" (au st) fs cW A ay s H E) (dk st) (tS (fK (jt X.prog X.w) X.prog X.w X.K X.mg X.base Ns "spread" (au st) fs cW A ay s H E) aa ab (rb ω n))) /\
  Wr X k Γ.fns Γ.call
 lam:S3 X
structure GOk (Γ:Gm) (X:Cx) (aa:Hp) (ab:Fz):Prop where
 names:X.env.scope.names=Γ.sc
 N:X.N=Γ.N
 nd:X.N.Nodup
 kind:X.env.scope.kind=.function
 calm:X.calm=true
 hd:X.A.handled=none
 un:X.A.units+1150<cLine
 own:Γ.own=true->∀x,X.fn x=true
 fns:SY X Γ.fns Γ.call
 cons:∀x p,Γ.cons.lookup x=some p->∃u v,X.mg x=some u/\RelV v u/\∀F,bQ X.K F p v
 dE:∀x,Γ.dE.contains x=true->X.mg x=none
 tabs:∀T rows,Γ.tabs.lookup T=some rows->GO X.K X.mg X.w.params T rows
 ns:∀x a,W.nsIn X.K mainGlobals x=some (some (.ref a))->X.mg x=some (.ref a)
 S9:Mf X.K Γ.clss Γ.flds
 cls:∀C n,Γ.cls.lookup C=some n->∃k Ca f fd ps,ClsAt X.K C (.ref Ca)/\HM X.K Ca/\Mk X.K Ca f/\FnOk X.prog X.w X.K X.mg X.base (jt X.prog X.w) k f fd ps (IP X.K n (Γ.make C))/\dJ (k+1) X.A/\X.mg C=some (.ref Ca)/\gP X.K fd ps []
 vf:∀rs,Γ.vf=some rs->Mu Γ X rs
 yN:∀n ω,Γ.yN=some (n,ω)->Br X aa ab n ω
def bH:Expr->Bool
 | .Starred _ _=>false
 | .Set _ _ _=>false
 | _=>true
def rD:Expr->Bool
 | .Slice _ _ _ _=>false
 | _=>true
def G1:Expr->Bool
 | .Tuple _ _ _=>false
 | .ListComp _ _ _ _=>false
 | .SetComp _ _ _ _=>false
 | .DictComp _ _ _ _ _=>false
 | _=>true
def mx:Expr->Bool
 | .ListComp _ _ _ _=>false
 | .SetComp _ _ _ _=>false
 | .DictComp _ _ _ _ _=>false
 | _=>true
def yO:Expr->Bool
 | .Name _ _=>true
 | .Subscript _ _ _=>true
 | .Attribute _ _ _=>true
 | _=>false
def rE(h:yO e=true):attributeBase e f env (eval e env)=eval e env:=by
 cases e<;>first | rfl | cases h
def yP(h:G1 e=true):mx e=true:=by
 cases e<;>first | rfl | cases h
def EW:Expr->Bool
 | .UnaryOp .Not _ _=>false
 | .BoolOp _ _ _=>false
 | .IfExp _ _ _ _=>false
 | .Compare _ _ _ _=>false
 | _=>true
def cu(h:bH e=true)(es:List Expr)(env:Env):starEach (e::es) env=(false,eval e env)::starEach es env:=by
 cases e<;>first | rfl | cases h
def iJ(h:bH e=true)(op:CmpOp):behindInMarks op e=false:=by
 cases e<;>first | rfl | cases h
def iw(h:bH e=true)(env:Env)(x:Value):foldedSetIterable e env x=pure x:=by
 cases e<;>first | rfl | cases h
def BC(h:rD e=true):q8 e:=by
 intro o i;cases e<;>first | rfl | cases h
def Mv(h:EW e=true)(env:Env)(jX:Sem Value):isTrue e env jX=(do let v <-jX;standAt e.pos;holding [v] (truthy v)):=by
 cases e with
 | UnaryOp op a p=>cases op<;>first | rfl | cases h
 | BoolOp _ _ _=>cases h
 | IfExp _ _ _ _=>cases h
 | Compare _ _ _ _=>cases h
 | _=>rfl
def iK(h:mx e=true)(t:Option Expr)(l:Nat)(env:Env):swapsWith e t l env=pure false:=by
 cases e<;>first | rfl | cases h
def iL(h:es.all bH=true)(env:Env)(pos:Pos):(backTo pos (starEach es env)).any (·.1)=false:=by
 induction es with
 | nil=>rfl
 | cons e es ih =>
  rw[ik,aO]at h;rw[cu h.1];exact ih h.2
def EX(h:es.all bH=true)(env:Env)(pos:Pos):(backTo pos (starEach es env)).all (λx=>!x.1)=true:=by
 induction es with
 | nil=>rfl
 | cons e es ih =>
  rw[ik,aO]at h;rw[cu h.1];exact ih h.2
def QW(h:es.all bH=true)(hl:es.length<30):((backTo cp (starEach es env)).all (λx=>!x.1)&&(backToKw cp (keywordEach [] env)).all (λx=>x.1.isSome)
   && decide (es.length+([]:List Keyword).length+(if([]:List Keyword).isEmpty then 0 else 1)<30))=true:=by
 rw[EX h];simp only[Bool.true_and,aO,iU];exact⟨rfl,hl⟩
def kB(h:je x=true):(x==("__debug__":Str))=false/\(x==("__classdict__":Str))=false/\x≠"__name__":=by
 unfold je at h;simp only[aO,xu]at h;exact⟨h.1.1,h.1.2,by simpa using h.2⟩
noncomputable def yQ:Nat->Gm->Expr->Option (Tg×List Nat)
 | 0,_,_=>none
 | n+1,Γ,e=>match e with
  | .Name x _=>if Yh Γ x=true then(slot Γ x).map λi=>(aX i,[i])else none
  | .Tuple es _ _=>(es.foldr (λe r=>(yQ n Γ e).bind λg=>r.map λgs=>(dM g.1 gs.1,g.2++gs.2)) (some (tP,[]))).map λgs=>(gW es.length gs.1,gs.2)
  | _=>none
def Mw(h:slot Γ x=some i):Γ.N[i]?=some x:=by
 unfold slot at h;obtain⟨hi,hp,_⟩:=J9.mp h;rw[bU hi];exact dA some (aY hp)
section
variable {Γ:Gm} {X:Cx} {x:Str} {pos:Pos} {aa:Hp} {ab:Fz}
def GOk.aeW(G:GOk Γ X aa ab)(h:OJ Γ x=true):YF X.env.scope x:=by
 unfold OJ at h;unfold YF;rw[G.names];split at h<;>simp_all
def GOk.Ws(G:GOk Γ X aa ab)(h:Yh Γ x=true):Sg X.env.scope x/\(X.fn x=true\/X.env.scope.names.lookup x=some .local):=by
 unfold Yh at h;unfold Sg;rw[G.names];split at h
 ·grind
 ·rename_i z;exact⟨.inr z,.inl (G.own h x)⟩
 ·cases h
def GOk.my(G:GOk Γ X aa ab)(h:Ah Γ x=true):Gl X x:=by
 unfold Ah at h;show X.env.scope.names.lookup x=_;rw[G.names];split at h
 ·assumption
 ·cases h
def GOk.uh(G:GOk Γ X aa ab)(h:slot Γ x=some i):X.N[i]?=some x:=by
 rw[G.N];exact Mw h
theorem nA(G:GOk Γ X aa ab):∀(n:Nat) (e:Expr) (g:Tg×List Nat),yQ n Γ e=some g->PG X e (tG X.K aa ab g.1)/\KG g.2 g.1/\(∀env:Env,(assignEach [e] env).map (·.2)=[assign e env])/\∀(es:List Expr) (env:Env),assignEach (e::es) env=(false,assign e env)::assignEach es env
 | 0,_,_,h=>by cases h
 | n+1,e,g,h=>by
  cases e with
  | Name x p =>
   have h:=h;obtain⟨hs,h⟩:=bR h;obtain⟨i,z,rfl⟩:=bz h;obtain⟨h1,h2⟩:=G.Ws hs;exact⟨VD i (OG G.nd (G.uh z) h1 h2),PY i,λ_=>rfl,λ_ _=>rfl⟩
  | Tuple es k p =>
   have all:∀es gs,es.foldr (λe r=>(yQ n Γ e).bind λg=>r.map λgs=>(dM g.1 gs.1,g.2++gs.2)) (some (tP,[]))=some gs ->
     PGs X es (ZN X.K aa ab gs.1)/\Z5 gs.2 gs.1/\∀env:Env,(assignEach es env).length=es.length/\(assignEach es env).findIdx? (·.1)=none:=by
    intro es;induction es with
    | nil =>
     intro gs h;cases h;exact⟨VE,PZ,λenv=>⟨rfl,rfl⟩⟩
    | cons e es ih =>
     intro gs h;rw[List.foldr_cons]at h;obtain⟨g1,e1,h⟩:=bf h;obtain⟨g2,z,rfl⟩:=bz h;obtain⟨a1,a2,a3,a4⟩:=nA G n e g1 e1;obtain⟨b1,b2,b3⟩:=ih g2 z;refine⟨Pr a1 b1 (by grind),LR a2 b2,λenv=>?_⟩
     rw[a4];obtain⟨c1,c2⟩:=b3 env;exact⟨by rw[aM,aM,c1],by grind⟩
   have h:=h;obtain⟨gs,z,rfl⟩:=bz h;obtain⟨b1,b2,b3⟩:=all es gs z;exact⟨ZO G.calm b1 (b3 _).1 (b3 _).2,V2 b2,λ_=>rfl,λ_ _=>rfl⟩
  | _=>cases h
def wA(G:GOk Γ X aa ab)(hn:je x=true)(hv:OJ Γ x=true)(hs:slot Γ x=some i):PE X (.Name x pos) (Ox i) :=
 pe_var (G.uh hs) (G.aeW hv) (kB hn).1 (kB hn).2.1
end
def yR(x:Str):Option GC :=
 if x==("len":Str)then some fB
 else if x==("tuple":Str)then some Ir
 else if x==("int":Str)then some Iu
 else if x==("sum":Str)then some Iw
 else if x==("str":Str)then some Iv
 else if x==("sorted":Str)then some GV
 else none
def Mx:bootBuiltins "sum"=some (.builtin "sum"):=by kernel_rfl
set_option maxHeartbeats 4000000 in
theorem Wt(h:yR x=some g)(hh:X.A.handled=none)(hg:Gl X x)(hm:X.mg x=none)(ha:PA X (a::es) (tA X aa ab ts))
  (he:starEach (a::es) X.env=(false,eval a X.env)::starEach es X.env) (mI:(backTo pos (starEach es X.env)).any (·.1)=false):PE X (.Call (.Name x p) (a::es) [] pos) (tE X aa ab (fX g ts)):=by
 unfold yR at h;split at h
 ·rename_i e;cases h;have e:=aY e;subst e;exact(mR Iy hg hm PySem.boot_len ha (by decide) (by decide) he mI).imp λ_ _ _ h=>kU h
 ·split at h
  ·rename_i e;cases h;have e:=aY e;subst e;exact(oU Iz hg hm (nh .tuple) ha (by decide) (by decide) he mI).imp λ_ _ _ h=>kU h
  ·split at h
   ·rename_i e;cases h;have e:=aY e;subst e;exact(oU IA hg hm (nh .int) ha (by decide) (by decide) he mI).imp λ_ _ _ h=>kU h
   ·split at h
    ·rename_i e;cases h;have e:=aY e;subst e;exact(mR (IC hh) hg hm Mx ha (by decide) (by decide) he mI).imp λ_ _ _ h=>kU h
    ·split at h
     ·rename_i e;cases h;have e:=aY e;subst e;exact(oU IB hg hm (nh .str) ha (by decide) (by decide) he mI).imp λ_ _ _ h=>kU h
     ·split at h
      ·rename_i e;cases h;have e:=aY e;subst e;exact(mR ET hg hm p8 ha (by decide) (by decide) he mI).imp λ_ _ _ h=>kU h
      ·cases h
def yS:ScopeKind->Bool
 | .function=>true
 | _=>false
noncomputable def wB(scope:Scope):List Str:=(scope.names.filter λy=>match y.2 with | .local=>true | .free=>true | _=>false).map (·.1)
def iy(Γ:Gm)(scope:Scope):List (Option Nat):=(wB scope).map λx=>match scope.names.lookup x with | some .free=>slot Γ x | _=>none
noncomputable def EY(Γ:Gm)(scope:Scope):List (Str×NameKind):=scope.names.map fun(n,k)=>if(k==NameKind.free&&Γ.sc.lookup n==some .cell)then(n,NameKind.cell)else(n,k)
def wC(Γ:Gm)(scope:Scope):Gm:={Γ with sc:=EY Γ scope,N:=wB scope,own:=false,vf:=none,yN:=none}
def ui(Γ:Gm)(scope:Scope)(L:List Nat):Bool :=
 yS scope.kind&&scope.names.all (λy=>match y.2 with
  | .cell=>false
  | .local=>(match scope.names.lookup y.1 with | some .local=>true | _=>false)
  | .free=>(match Γ.sc.lookup y.1 with | some .cell=>true | some .free=>true | _=>false)
  | _=>true)&&decide (wB scope).Nodup&&L.all λi=>match(iy Γ scope)[i]? with | some none=>true | _=>false
noncomputable def rF(a:Arguments):Option (Str×Pos):=match a.args with
 | [y]=>bif a.posonlyargs.isEmpty&&(a.vararg.isNone&&(a.kwonlyargs.isEmpty&&(a.kw_defaults.isEmpty&&(a.kwarg.isNone&&(a.defaults.isEmpty&&y.annotation.isNone)))))then some (y.arg,y.pos)else none
 | _=>none
def yT(h:rF args=some xa):args=oneArg xa.1 xa.2:=by
 obtain⟨po,as,va,ko,kd,kw,df⟩:=args;rcases as with _ | ⟨⟨x,an,ap⟩,_ | _⟩
 ·cases h
 ·cases po;rotate_left;cases h;cases va;rotate_left;cases h;cases ko;rotate_left;cases h;cases kd;rotate_left;cases h;cases kw;rotate_left;cases h;cases df;rotate_left;cases h;cases an;rotate_left;cases h;cases h;rfl
 ·cases h
noncomputable def isFree(k:Option NameKind):Bool:=match k with | some .free=>true | _=>false
def yU(scope:Scope):List Str:=(scope.names.filter λy=>isFree (some y.2)).map (·.1)
def rG(Γ:Gm)(scope:Scope):List (Option Nat):=(yU scope).map (slot Γ)
def aaJ(Γ:Gm)(x:Str)(scope:Scope):Gm:={Γ with sc:=scope.names,N:=x::yU scope,own:=false,vf:=none,yN:=none,cls:=[]}
def My(Γ:Gm)(x:Str)(scope:Scope):Bool :=
 yS scope.kind&&!scope.isCoroutine&&!scope.isGenerator&&(match scope.names.lookup x with | some .local=>true | _=>false)&&scope.names.all (λy=>match y.2 with
  | .cell=>false
  | .free=>(match Γ.sc.lookup y.1 with | some .cell=>true | some .free=>true | _=>false)&&isFree (scope.names.lookup y.1)
  | _=>true)&&decide (x::yU scope).Nodup
section
variable {Γ:Gm} {X:Cx} {scope:Scope} {L:List Nat} {aa:Hp} {ab:Fz}
def nG(h:ui Γ scope L=true):scope.kind=.function/\(∀y∈scope.names,(match y.2 with
  | .cell=>false
  | .local=>(match scope.names.lookup y.1 with | some .local=>true | _=>false)
  | .free=>(match Γ.sc.lookup y.1 with | some .cell=>true | some .free=>true | _=>false)
  | _=>true)=true)/\(wB scope).Nodup/\∀i∈L,(iy Γ scope)[i]?=some none:=by
 unfold ui at h;simp only[aO,ij,iU]at h;obtain⟨⟨⟨h1,h2⟩,h3⟩,h4⟩:=h;refine⟨?_,h2,h3,λi hi=>?_⟩
 ·unfold yS at h1;split at h1
  ·assumption
  ·cases h1
 ·grind
def EZ(G:GOk Γ X aa ab)(h:ui Γ scope L=true):jw X (wB scope) (iy Γ scope) scope:=by
 obtain⟨h1,h2,h3,h4⟩:=nG h;refine⟨h1,λy hy z=>?_,λy hy z=>?_,λy hy z=>?_,by unfold iy;rw[aD],λi j x hl hx=>?_⟩
 ·grind
 ·grind
 ·have:=h2 y hy;rw[z]at this;simp only at this;show X.env.scope.names.lookup y.1=_\/X.env.scope.names.lookup y.1=_;rw[G.names];split at this
  ·grind
  ·grind
  ·cases this
 ·unfold iy at hl;rw[bZ,hx]at hl;have hl:(match scope.names.lookup x with | some .free=>slot Γ x | _=>none)=some j:=by grind
  split at hl
  ·exact⟨G.uh hl,by assumption⟩
  ·cases hl
def Mz(G:GOk Γ X aa ab)(h:ui Γ scope L=true)(C:Addr)(s:Shared)(H:Hp)(fp:List Addr)(yJ:Hp)(t8:Fz):GOk (wC Γ scope) (cO X (wB scope) scope C s H fp) yJ t8 where
 names:=by
  show(relabel scope X.env).names=EY Γ scope;have e:∀n,X.env.kindOf n=Γ.sc.lookup n:=λn=>by show X.env.scope.names.lookup n=_;rw[G.names]
  unfold EY relabel;simp only[G.kind,e]
  congr 1
  funext y
  obtain⟨n,k⟩:=y;simp
 N:=rfl
 nd:=(nG h).2.2.1
 kind:=by
  exact(nG h).1
 calm:=G.calm
 hd:=G.hd
 un:=G.un
 own:=λz=>by cases z
 fns:=G.fns
 cons:=G.cons
 dE:=G.dE
 tabs:=G.tabs
 ns:=G.ns
 S9:=G.S9
 cls:=G.cls
 vf:=λ_ z=>by cases z
 yN:=λ_ _ z=>by cases z
def MA{i:Nat}(h:(yU scope)[i]?=some y):(y,NameKind.free)∈scope.names:=by
 have hm:=cB h;unfold yU at hm;obtain⟨z,hz,rfl⟩:=aA.mp hm;obtain⟨h1,h2⟩:=gn.mp hz;obtain⟨n,k⟩:=z;cases k<;>first | exact h1 | cases h2
def Ja(h:isFree k=true):k=some .free:=by
 unfold isFree at h;split at h
 ·rfl
 ·cases h
def Jb{x:Str}(G:GOk Γ X aa ab)(h:My Γ x scope=true):t9 X x (yU scope) (rG Γ scope) scope/\(x::yU scope).Nodup:=by
 unfold My at h;simp only[aO]at h;obtain⟨⟨⟨⟨⟨h1,h2⟩,h3⟩,h4⟩,h5⟩,h6⟩:=h;have Ie:=ij.mp h5;refine⟨⟨?_,by grind,by grind,?_,λy hy z=>?_,λy hy z=>?_,?_,λi j y e1 e2=>?_⟩,fy h6⟩
 ·unfold yS at h1;split at h1
  ·assumption
  ·cases h1
 ·grind
 ·grind
 ·have:=Ie y hy;rw[z]at this;simp only[aO]at this;have hk:X.env.kindOf y.1=Γ.sc.lookup y.1:=by show X.env.scope.names.lookup y.1=_;rw[G.names]
  rw[hk];have t:=this.1;split at t
  ·grind
  ·grind
  ·cases t
 ·unfold rG;rw[aD]
 ·have hm:=MA e2;have:=Ie _ hm;simp only[aO]at this;refine⟨?_,Ja this.2⟩;unfold rG at e1;rw[bZ,e2]at e1;exact G.uh (cC e1)
def QX(G:GOk Γ X aa ab)(hk:scope.kind=.function)(hn:(x::yU scope).Nodup)(hf:Wr X k Γ.fns Γ.call)
  {stack:List Env} (hr:dJ k (A.deeper (W.envX qual scope s.heap.objs.size fa cW cl))) (yJ:Hp) (t8:Fz) :
  GOk (aaJ Γ x scope) (SE (jt X.prog X.w) X.prog X.w X.K X.mg X.base (x::yU scope) qual scope fa cW cl A stack s H E) yJ t8 where
 names:=rfl
 N:=rfl
 nd:=hn
 kind:=hk
 calm:=rfl
 hd:=hr.hd
 un:=by
  have:=hr.un;show(A.deeper _).units+1150<cLine
  lia
 own:=λz=>by cases z
 fns:=λy n e=>let ⟨j,f,fd,ps,h1,h2,h3,h4,h5⟩:=hf y n e;⟨j,f,fd,ps,h2,hr.mono h1,h3,h4,h5⟩
 cons:=G.cons
 dE:=G.dE
 tabs:=G.tabs
 ns:=G.ns
 S9:=G.S9
 cls:=λ_ _ z=>by cases z
 vf:=λ_ z=>by cases z
 yN:=λ_ _ z=>by cases z
end
def cy{α:Type}:Gx α:=λ_=>none
section
variable {X:Cx} {aa:Hp} {ab:Fz} {e:Expr} {es:List Expr}
def wD{C:Prop}(h:tX X aa ab rl cy σ H Q):C:=by
 obtain⟨F,st,R,r,z,_⟩:=h;cases z
def bh:PE X e (tE X aa ab cy):=λ_ _ _ _ _ _ h=>wD h
def wF:PT X e (tT X aa ab cy):=λ_ _ _ _ _ _ h=>wD h
def MB:PW X e (tT X aa ab cy):=λ_ _ _ _ _ _ _ h=>wD h
def Ta:PA X es (tA X aa ab cy):=λ_ _ _ _ _ _ _ h=>wD h
def Tb{tg:Expr}:PI X tg e (L0 X aa ab cy):=λ_ _ _ _ _ _ h=>wD h
end
def bF(m n:Nat)(g:qK)(as:List PV):Gx PV:=λst=>if((m==0)&&(st.h.isEmpty || ah as))=true then pe n g as st else EG n g as st
def aeX(G:FnOk X.prog X.w X.K X.mg X.base (jt X.prog X.w) k f fd ps (IP X.K n g))(hr:dJ k X.A)(hb:gP X.K fd ps []):QE X f (bF m n g):=by
 rintro aa H ab F st σ ae s Q as us vs I R b r ⟨q,e1,e2⟩
 unfold bF at e1;split at e1
 ·exact aae G hr hb aa H ab F st σ ae s Q as us vs I R b r ⟨q,e1,e2⟩
 ·exact aes G hr hb aa H ab F st σ ae s Q as us vs I R b r ⟨q,e1,e2⟩
def aaK(Γ:Gm):Expr->Nat
 | .Name x _=>I0 (md Γ x)
 | .Attribute _ f _=>I0 (md Γ f)
 | _=>0
def yV(e:Expr):Option {x:Option Expr×Option Expr // ∃p,e=.Slice x.1 x.2 none p}:=match e with
 | .Slice lo hi none p=>some ⟨(lo,hi),p,rfl⟩
 | _=>none
def aeY:Const->Gx PV
 | .int i=>aN (.int i)
 | .bool i=>aN (.bl i)
 | .none=>aN .b9
 | .str i=>aN (.str i)
 | _=>cy
def Wu(Γ:Gm)(x:Str):Gx PV:=if je x=true then(if OJ Γ x=true then(match slot Γ x with | some i=>rd i | none=>cy)else if Ah Γ x=true then(match Γ.cons.lookup x with | some p=>aN p | none=>cy)else cy)else cy
noncomputable def E2(a:Expr):Option {x:Str×Expr×List Expr // ∃p q,a=.Call (.Name x.1 p) (x.2.1::x.2.2) [] q}:=match a with
 | .Call (.Name z p) (b::bs) [] q=>some ⟨(z,b,bs),p,q,rfl⟩
 | _=>none
noncomputable def yW(a:Expr)(es:List Expr):Option {x:Str×Expr // es=[]/\∃p q,a=.Call (.Name x.1 p) [x.2] [] q}:=match a,es with
 | .Call (.Name z p) [e] [] q,[]=>some ⟨(z,e),rfl,p,q,rfl⟩
 | _,_=>none
def lI(Γ:Gm)(x:Str):Bool:=Ah Γ x&&Γ.dE.contains x
mutual
noncomputable def bP:Nat->Gm->Nat->Expr->Gx PV
 | 0,_,_,_=>cy
 | n+1,Γ,m,e=>match e with
  | .Constant c _ _=>aeY c
  | .Name x _=>Wu Γ x
  | .BinOp a op b _=>(match QV op with | some g=>op2 g (bP n Γ 0 a) (bP n Γ 0 b) | none=>cy)
  | .UnaryOp .Not a _=>Vu (bP n Γ 0 a)
  | .UnaryOp .USub a _=>A9 (bP n Γ 0 a)
  | .BoolOp op vs _=>MC n Γ op vs
  | .Compare a ops bs _=>Wv n Γ a ops bs
  | .IfExp c a b _=>dF (vx n Γ c) (bP n Γ m a) (bP n Γ m b)
  | .Tuple es _ _=>mJ .ao (nH n Γ m es)
  | .List es _=>(match m with | 0=>mJ .lst (nH n Γ 0 es) | _=>yq (nH n Γ (I0 m) es))
  | .Dict [] [] _=>Mb (m==10)
  | .Subscript a b _=>Ww n Γ a b
  | .ListComp elt gens scope _=>Wx n Γ m elt gens scope
  | .Attribute o f _=>if yO o=true then yI f (bP n Γ 0 o)else cy
  | .Call f (a::es) [] cp=>if(a::es).all bH=true then Wy n Γ m f a es cp else cy
  | .Call (.Attribute o f ap) [] [] cp=>if(yO o&&(ap.endLine==cp.line))=true then(if f==("isdigit":Str)then QR (bP n Γ 0 o)else match EH f with | some w=>Dj w.1 w.2 (bP n Γ 0 o) (aN []) | none=>cy)else cy
  | _=>cy
termination_by structural n=>n
noncomputable def Wy:Nat->Gm->Nat->Expr->Expr->List Expr->Pos->Gx PV
 | 0,_,_,_,_,_,_=>cy
 | n+1,Γ,m,f,a,es,cp=>match f with
  | .Name x _=>if je x=true then(if Ah Γ x=true then Wz n Γ m x a es else if OJ Γ x=true then MD n Γ x a es else cy)else cy
  | .Subscript v k p=>Bp Γ.fns Γ.call (bP n Γ 0 (.Subscript v k p)) (nH n Γ 0 (a::es))
  | .Attribute o g ap=>if(yO o&&(ap.endLine==cp.line)&&decide ((a::es).length<30))=true then(match GN g with | some w=>Dj w.1 w.2 (bP n Γ 0 o) (nH n Γ (aaK Γ o) (a::es)) | none=>cy)else cy
  | _=>cy
termination_by structural n=>n
noncomputable def MD:Nat->Gm->Str->Expr->List Expr->Gx PV
 | 0,_,_,_,_=>cy
 | n+1,Γ,x,a,es=>match es,slot Γ x,Γ.yN with
  | [],some i,some o=>Mg i o.1 o.2 (bP n Γ 0 a)
  | _,_,_=>cy
termination_by structural n=>n
noncomputable def Wz:Nat->Gm->Nat->Str->Expr->List Expr->Gx PV
 | 0,_,_,_,_,_=>cy
 | n+1,Γ,m,x,a,es=>if x==("spread":Str)then ME n Γ a es else match Γ.fns.lookup x with
  | some k=>bnd (nH n Γ 0 (a::es)) (bF m k (Γ.call x))
  | none=>match Γ.cls.lookup x with
   | some k=>(match m with | 0=>mkP x k (Γ.make x) (nH n Γ 0 (a::es)) | _=>cy)
   | none=>if Γ.dE.contains x=true then(if x==("isinstance":Str)then MF n Γ a es else if(x==("sorted":Str)&&(yW a es).isSome)=true then MH n Γ a es else if x==("dict":Str)then WA n Γ a es else if x==("list":Str)then MI n Γ m a es else match yR x with | some g=>fX g (nH n Γ 0 (a::es)) | none=>cy)else cy
termination_by structural n=>n
noncomputable def ME:Nat->Gm->Expr->List Expr->Gx PV
 | 0,_,_,_=>cy
 | n+1,Γ,a,es=>match es with
  | [.Lambda args body scope _]=>(match Γ.vf,rF args with
   | some rs,some xa=>if My Γ xa.1 scope=true then IV rs (bP n Γ 0 a) (bP n (aaJ Γ xa.1 scope) 0 body) (rG Γ scope)else cy
   | _,_=>cy)
  | _=>cy
termination_by structural n=>n
noncomputable def MI:Nat->Gm->Nat->Expr->List Expr->Gx PV
 | 0,_,_,_,_=>cy
 | n+1,Γ,m,a,es=>match es with
  | []=>(match E2 a with
   | some ⟨zs,_⟩=>if(zs.1==("range":Str)&&lI Γ zs.1&&(zs.2.1::zs.2.2).all bH)=true then lrg m (nH n Γ 0 (zs.2.1::zs.2.2))else cy
   | none=>cy)
  | _=>cy
termination_by structural n=>n
noncomputable def WA:Nat->Gm->Expr->List Expr->Gx PV
 | 0,_,_,_=>cy
 | n+1,Γ,a,es=>match es with
  | []=>(match a with
   | .BinOp l .Add r _=>G0 (bP n Γ 0 l) (bP n Γ 0 r)
   | _=>cy)
  | _=>cy
termination_by structural n=>n
noncomputable def MH:Nat->Gm->Expr->List Expr->Gx PV
 | 0,_,_,_=>cy
 | n+1,Γ,a,es=>match yW a es with
  | some ⟨ze,_⟩=>if(ze.1==("set":Str)&&lI Γ ze.1&&bH ze.2)=true then Mr (bP n Γ 0 ze.2)else cy
  | none=>cy
termination_by structural n=>n
noncomputable def MF:Nat->Gm->Expr->List Expr->Gx PV
 | 0,_,_,_=>cy
 | n+1,Γ,a,es=>match es with
  | [.Name t _]=>if lI Γ t=true then(match Gw t with | some g=>isV g (bP n Γ 0 a) | none=>cy)else cy
  | _=>cy
termination_by structural n=>n
noncomputable def Wv:Nat->Gm->Expr->List CmpOp->List Expr->Gx PV
 | 0,_,_,_,_=>cy
 | n+1,Γ,a,ops,bs=>match ops,bs with
  | [op],[b]=>if bH b=true then(match Ex op with | some g=>op2 g (bP n Γ 0 a) (bP n Γ 0 b) | none=>cy)else cy
  | [op,Ae],[b,c]=>if bH c=true then(match Ex op,Ex Ae with | some g,some g'=>chain g g' (bP n Γ 0 a) (bP n Γ 0 b) (bP n Γ 0 c) | _,_=>cy)else cy
  | _,_=>cy
termination_by structural n=>n
noncomputable def Ww:Nat->Gm->Expr->Expr->Gx PV
 | 0,_,_,_=>cy
 | n+1,Γ,a,b=>match yV b with
  | some ⟨lh,_⟩=>cutE (bP n Γ 0 a) (QY n Γ lh.1) (QY n Γ lh.2)
  | none=>if rD b=true then(match a with
   | .Name T p=>if(je T&&Ah Γ T)=true then(match Γ.tabs.lookup T with
    | some rows=>Mc (λk=>(rows.lookup k).map .fn) (bP n Γ 0 b)
    | none=>op2 aZ (bP n Γ 0 (.Name T p)) (bP n Γ 0 b))else op2 aZ (bP n Γ 0 (.Name T p)) (bP n Γ 0 b)
   | a=>op2 aZ (bP n Γ 0 a) (bP n Γ 0 b))else cy
termination_by structural n=>n
noncomputable def vx:Nat->Gm->Expr->Gx Bool
 | 0,_,_=>cy
 | n+1,Γ,e=>match e with
  | .UnaryOp .Not a _=>oV (vx n Γ a)
  | .BoolOp op vs _=>MJ n Γ op vs
  | .Compare a [op] [b] _=>if bH b=true then(match Ex op with | some g=>toB (op2 g (bP n Γ 0 a) (bP n Γ 0 b)) | none=>cy)else cy
  | .Compare a [op,Ae] [b,c] _=>if bH c=true then(match Ex op,Ex Ae with | some g,some g'=>toB (chain g g' (bP n Γ 0 a) (bP n Γ 0 b) (bP n Γ 0 c)) | _,_=>cy)else cy
  | e=>if EW e=true then gi (bP n Γ 0 e)else cy
termination_by structural n=>n
noncomputable def MC:Nat->Gm->BoolOp->List Expr->Gx PV
 | 0,_,_,_=>cy
 | n+1,Γ,op,[a]=>bP n Γ 0 a
 | n+1,Γ,.And,a::b::r=>Io (bP n Γ 0 a) (MC n Γ .And (b::r))
 | n+1,Γ,.Or,a::b::r=>orG (bP n Γ 0 a) (MC n Γ .Or (b::r))
 | _,_,_,_=>cy
termination_by structural n=>n
noncomputable def MJ:Nat->Gm->BoolOp->List Expr->Gx Bool
 | 0,_,_,_=>cy
 | n+1,Γ,op,[a]=>vx n Γ a
 | n+1,Γ,.And,a::b::r=>dF (vx n Γ a) (MJ n Γ .And (b::r)) (aN false)
 | n+1,Γ,.Or,a::b::r=>dF (vx n Γ a) (aN true) (MJ n Γ .Or (b::r))
 | _,_,_,_=>cy
termination_by structural n=>n
noncomputable def nH:Nat->Gm->Nat->List Expr->Gx (List PV)
 | 0,_,_,_=>cy
 | n+1,Γ,m,[]=>aN []
 | n+1,Γ,m,e::es=>if bH e=true then ak (bP n Γ m e) (nH n Γ m es)else cy
termination_by structural n=>n
noncomputable def QY:Nat->Gm->Option Expr->Gx (Option Int)
 | 0,_,_=>cy
 | n+1,Γ,none=>aN none
 | n+1,Γ,some e=>m9 (bP n Γ 0 e)
termination_by structural n=>n
noncomputable def MK:Nat->Gm->Expr->Expr->Gx EE
 | 0,_,_,_=>cy
 | n+1,Γ,tg,e=>match e with
  | .Call (.Name x p) [a] [] cp=>if(x==("range":Str)&&lI Γ x&&bH a)=true then L3 (ED Bi (nH n Γ 0 [a]))
    else if(x==("enumerate":Str)&&lI Γ x&&bH a&&SS tg)=true then L3 (wt (bP n Γ 0 a))
    else iu (bP n Γ 0 (.Call (.Name x p) [a] [] cp))
  | e=>if bH e=true then iu (bP n Γ 0 e)else cy
termination_by structural n=>n
noncomputable def Wx:Nat->Gm->Nat->Expr->List Comprehension->Scope->Gx PV
 | 0,_,_,_,_,_=>cy
 | n+1,Γ,m,elt,gens,scope=>match gens with
  | [⟨tg,iter,ifs,0⟩]=>if bH iter=true then(match yQ n (wC Γ scope) tg with
   | some g=>if ui Γ scope g.2=true then(match ifs with
    | []=>di (m != 0) (iy Γ scope) (MK n Γ tg iter) (lq g.1 (bP n (wC Γ scope) (I0 m) elt))
    | [c]=>di (m != 0) (iy Γ scope) (MK n Γ tg iter) (nk g.1 (vx n (wC Γ scope) c) (bP n (wC Γ scope) (I0 m) elt))
    | _=>cy)else cy
   | none=>cy)else cy
  | _=>cy
termination_by structural n=>n
end
def CC(X:Cx)(aa:Hp)(ab:Fz)(elt:Expr)(gens:List Comprehension)(scope:Scope)(p:Pos)(f:Gx PV):Prop:=PE X (.ListComp elt gens scope p) (tE X aa ab f) /\
  ∀i x p' sp,X.N[i]?=some x->X.env.scope.names.lookup x=some .local->swapsWith (.ListComp elt gens scope p) (some (.Name x p')) sp.line X.env=pure true ->
   PS X (.Assign [.Name x p'] (.ListComp elt gens scope p) sp) (tS X aa ab (c6 f (aX i)))
structure Snd (n:Nat):Prop where
 e:∀Γ X aa ab m e,GOk Γ X aa ab->PE X e (tE X aa ab (bP n Γ m e))
 f:∀Γ X aa ab m f a es cp,GOk Γ X aa ab->(a::es).all bH=true->PE X (.Call f (a::es) [] cp) (tE X aa ab (Wy n Γ m f a es cp))
 o:∀Γ X aa ab x a es p cp,GOk Γ X aa ab->(a::es).all bH=true->je x=true->OJ Γ x=true->PE X (.Call (.Name x p) (a::es) [] cp) (tE X aa ab (MD n Γ x a es))
 cn:∀Γ X aa ab m x a es p cp,GOk Γ X aa ab->(a::es).all bH=true->je x=true->Ah Γ x=true->PE X (.Call (.Name x p) (a::es) [] cp) (tE X aa ab (Wz n Γ m x a es))
 sp:∀Γ X aa ab a es p cp,GOk Γ X aa ab->(a::es).all bH=true->Ah Γ "spread"=true->PE X (.Call (.Name "spread" p) (a::es) [] cp) (tE X aa ab (ME n Γ a es))
 st:∀Γ X aa ab a es p cp,GOk Γ X aa ab->(a::es).all bH=true->Ah Γ "sorted"=true->Γ.dE.contains "sorted"=true->PE X (.Call (.Name "sorted" p) (a::es) [] cp) (tE X aa ab (MH n Γ a es))
 d:∀Γ X aa ab a es p cp,GOk Γ X aa ab->(a::es).all bH=true->Ah Γ "dict"=true->Γ.dE.contains "dict"=true->PE X (.Call (.Name "dict" p) (a::es) [] cp) (tE X aa ab (WA n Γ a es))
 li:∀Γ X aa ab m a es p cp,GOk Γ X aa ab->(a::es).all bH=true->Ah Γ "list"=true->Γ.dE.contains "list"=true->PE X (.Call (.Name "list" p) (a::es) [] cp) (tE X aa ab (MI n Γ m a es))
 is:∀Γ X aa ab a es p cp,GOk Γ X aa ab->(a::es).all bH=true->Ah Γ "isinstance"=true->Γ.dE.contains "isinstance"=true->PE X (.Call (.Name "isinstance" p) (a::es) [] cp) (tE X aa ab (MF n Γ a es))
 k:∀Γ X aa ab a ops bs p,GOk Γ X aa ab->PE X (.Compare a ops bs p) (tE X aa ab (Wv n Γ a ops bs))
 x:∀Γ X aa ab a b p,GOk Γ X aa ab->PE X (.Subscript a b p) (tE X aa ab (Ww n Γ a b))
 t:∀Γ X aa ab e,GOk Γ X aa ab->PT X e (tT X aa ab (vx n Γ e))
 b:∀Γ X aa ab op vs p,GOk Γ X aa ab->PE X (.BoolOp op vs p) (tE X aa ab (MC n Γ op vs))
 w:∀Γ X aa ab op vs p,GOk Γ X aa ab->PW X (.BoolOp op vs p) (tT X aa ab (MJ n Γ op vs))
 a:∀Γ X aa ab m es,GOk Γ X aa ab->PA X es (tA X aa ab (nH n Γ m es))
 l:∀Γ X aa ab e,GOk Γ X aa ab->PO X e (VQ X aa ab (QY n Γ e))
 i:∀Γ X aa ab tg e,GOk Γ X aa ab->PI X tg e (L0 X aa ab (MK n Γ tg e))
 c:∀Γ X aa ab m elt gens scope p,GOk Γ X aa ab->CC X aa ab elt gens scope p (Wx n Γ m elt gens scope)
def pI{X:Cx}{aa:Hp}{ab:Fz}{e:Expr}{c:Prop} [Decidable c] {f g:Gx PV} (h:c->PE X e (tE X aa ab f)) (h':PE X e (tE X aa ab g)):PE X e (tE X aa ab (if c then f else g)):=by
 split
 ·exact h ‹_›
 ·exact h'
def pJ{X:Cx}{aa:Hp}{ab:Fz}{e:Expr}{c:Prop} [Decidable c] {f:Gx PV} (h:c->PE X e (tE X aa ab f)):PE X e (tE X aa ab (if c then f else cy)):=pI h bh
def jz:PS X s (tS X aa ab cy):=λ_ _ _ _ _ _ ⟨F,st,R,r,z,_⟩=>by cases z
def yX:PS X s (tS X aa ab (c6 cy g)):=λ_ _ _ _ _ _ ⟨F,st,R,r,z,_⟩=>by cases z
def aaL{ab:Fz}:PO X e (VQ X aa ab cy):=λ_ _ _ _ _ _ h=>wD h
def ML:Snd 0 where
 e:=λ_ _ _ _ _ _ _=>bh
 f:=λ_ _ _ _ _ _ _ _ _ _ _=>bh
 o:=λ_ _ _ _ _ _ _ _ _ _ _ _ _=>bh
 cn:=λ_ _ _ _ _ _ _ _ _ _ _ _ _ _=>bh
 sp:=λ_ _ _ _ _ _ _ _ _ _ _=>bh
 st:=λ_ _ _ _ _ _ _ _ _ _ _ _=>bh
 d:=λ_ _ _ _ _ _ _ _ _ _ _ _=>bh
 li:=λ_ _ _ _ _ _ _ _ _ _ _ _ _=>bh
 is:=λ_ _ _ _ _ _ _ _ _ _ _ _=>bh
 k:=λ_ _ _ _ _ _ _ _ _=>bh
 x:=λ_ _ _ _ _ _ _ _=>bh
 t:=λ_ _ _ _ _ _=>wF
 b:=λ_ _ _ _ _ _ _ _=>bh
 w:=λ_ _ _ _ _ _ _ _=>MB
 a:=λ_ _ _ _ _ _ _=>Ta
 l:=λ_ _ _ _ _ _=>aaL
 i:=λ_ _ _ _ _ _ _=>Tb
 c:=λ_ _ _ _ _ _ _ _ _ _=>⟨bh,λ_ _ _ _ _ _ _=>yX⟩
section
variable {n:Nat} (S:Snd n)
include S
def aaM(Γ:Gm)(X:Cx)(aa:Hp)(ab:Fz)(op:BoolOp)(vs:List Expr)(p:Pos)(G:GOk Γ X aa ab):PE X (.BoolOp op vs p) (tE X aa ab (MC (n+1) Γ op vs)):=by
 match op,vs with
 | .And,[]=>exact bh
 | .Or,[]=>exact bh
 | .And,[a]=>exact KH (S.e Γ X aa ab 0 a G)
 | .Or,[a]=>exact KH (S.e Γ X aa ab 0 a G)
 | .And,a::b::r=>exact ZH (S.e Γ X aa ab 0 a G) (S.b Γ X aa ab .And (b::r) p G)
 | .Or,a::b::r=>exact ad7 (S.e Γ X aa ab 0 a G) (S.b Γ X aa ab .Or (b::r) p G)
def aaN(Γ:Gm)(X:Cx)(aa:Hp)(ab:Fz)(op:BoolOp)(vs:List Expr)(p:Pos)(G:GOk Γ X aa ab):PW X (.BoolOp op vs p) (tT X aa ab (MJ (n+1) Γ op vs)):=by
 match op,vs with
 | .And,[]=>exact MB
 | .Or,[]=>exact MB
 | .And,[a]=>exact Oz (S.t Γ X aa ab a G)
 | .Or,[a]=>exact UA (S.t Γ X aa ab a G)
 | .And,a::b::r=>exact ZF (S.t Γ X aa ab a G) (S.w Γ X aa ab .And (b::r) p G)
 | .Or,a::b::r=>exact ad6 (S.t Γ X aa ab a G) (S.w Γ X aa ab .Or (b::r) p G)
def aaO(Γ:Gm)(X:Cx)(aa:Hp)(ab:Fz)(m:Nat)(es:List Expr)(G:GOk Γ X aa ab):PA X es (tA X aa ab (nH (n+1) Γ m es)):=by
 match es with
 | []=>exact ZJ
 | e::es =>
  unfold nH;split
  ·rename_i hp;exact Vv (S.e Γ X aa ab m e G) (S.a Γ X aa ab m es G) (cu hp _ _)
  ·exact Ta
def aaP(Γ:Gm)(X:Cx)(aa:Hp)(ab:Fz)(e:Option Expr)(G:GOk Γ X aa ab):PO X e (VQ X aa ab (QY (n+1) Γ e)):=by
 match e with
 | none=>exact VR
 | some e=>exact VS (S.e Γ X aa ab 0 e G)
def aaQ(Γ:Gm)(X:Cx)(aa:Hp)(ab:Fz)(a:Expr)(ops:List CmpOp)(bs:List Expr)(p:Pos)(G:GOk Γ X aa ab):PE X (.Compare a ops bs p) (tE X aa ab (Wv (n+1) Γ a ops bs)):=by
 rcases ops with _ | ⟨op,_ | ⟨Ae,_ | _⟩⟩<;>rcases bs with _ | ⟨b,_ | ⟨c,_ | _⟩⟩<;>try exact bh
 ·show PE X _ (tE X aa ab (ite _ _ _));split
  ·rename_i hp;split
   ·rename_i g h1;exact ZC (kW G.un h1) (S.e Γ X aa ab 0 _ G) (S.e Γ X aa ab 0 _ G) (iJ hp _)
   ·exact bh
  ·exact bh
 ·show PE X _ (tE X aa ab (ite _ _ _));split
  ·rename_i hp;split
   ·rename_i g g' h1 h2;exact Pn (kW G.un h1) (kW G.un h2) (S.e Γ X aa ab 0 _ G) (S.e Γ X aa ab 0 _ G) (S.e Γ X aa ab 0 _ G) (iJ hp _)
   ·exact bh
  ·exact bh
def aaR(Γ:Gm)(X:Cx)(aa:Hp)(ab:Fz)(e:Expr)(G:GOk Γ X aa ab):PT X e (tT X aa ab (vx (n+1) Γ e)):=by
 have df:∀e,PT X e (tT X aa ab (if EW e=true then gi (bP n Γ 0 e)else cy)):=λe=>by
  split
  ·rename_i hp;exact ZE (S.e Γ X aa ab 0 _ G) λjX=>Mv hp _ jX
  ·exact wF
 cases e with
 | UnaryOp op=>cases op with
  | Not=>exact ZG (S.t Γ X aa ab _ G)
  | _=>exact df _
 | BoolOp=>exact(S.w Γ X aa ab _ _ _ G).pt
 | Compare a ops bs =>
  rcases ops with _ | ⟨op,_ | ⟨Ae,_ | _⟩⟩<;>rcases bs with _ | ⟨b,_ | ⟨c,_ | _⟩⟩<;>try exact df _
  ·show PT X _ (tT X aa ab (ite _ _ _));split
   ·rename_i hp;split
    ·rename_i g h1;exact ZD (kW G.un h1) (S.e Γ X aa ab 0 _ G) (S.e Γ X aa ab 0 _ G) (iJ hp _)
    ·exact wF
   ·exact wF
  ·show PT X _ (tT X aa ab (ite _ _ _));split
   ·rename_i hp;split
    ·rename_i g g' h1 h2;exact Po (kW G.un h1) (kW G.un h2) (S.e Γ X aa ab 0 _ G) (S.e Γ X aa ab 0 _ G) (S.e Γ X aa ab 0 _ G) (iJ hp _)
    ·exact wF
   ·exact wF
 | _=>exact df _
def WB(Γ:Gm)(X:Cx)(aa:Hp)(ab:Fz)(a:Expr)(es:List Expr)(p cp:Pos)(G:GOk Γ X aa ab)(hp:(a::es).all bH=true)(hg:Ah Γ "sorted"=true)(hb:Γ.dE.contains "sorted"=true):PE X (.Call (.Name "sorted" p) (a::es) [] cp) (tE X aa ab (MH (n+1) Γ a es)):=by
 show PE X _ (tE X aa ab (match yW a es with | some ⟨ze,_⟩=>_ | none=>cy))
 rcases yW a es with _ | ⟨⟨z,e⟩,rfl,zp,ES,rfl⟩
 ·exact bh
 ·refine pJ λhc=>?_
  simp only[lI,aO]at hc;obtain⟨⟨hx,g1,g2⟩,Yg⟩:=hc;have hx:=aY hx;subst hx;exact Wm G.hd (G.my hg) (G.dE _ hb) (G.my g1) (G.dE _ g2) (S.e Γ X aa ab 0 _ G) (cu Yg _ _)
def aaS(Γ:Gm)(X:Cx)(aa:Hp)(ab:Fz)(a:Expr)(es:List Expr)(p cp:Pos)(G:GOk Γ X aa ab)(hp:(a::es).all bH=true)(hg:Ah Γ "dict"=true)(hb:Γ.dE.contains "dict"=true):PE X (.Call (.Name "dict" p) (a::es) [] cp) (tE X aa ab (WA (n+1) Γ a es)):=by
 rw[ik,aO]at hp;cases es with
 | cons=>exact bh
 | nil=>cases a with
  | BinOp l op=>cases op with
   | Add=>exact Wo G.hd (G.my hg) (G.dE _ hb) (S.e Γ X aa ab 0 _ G) (S.e Γ X aa ab 0 _ G) rfl
   | _=>exact bh
  | _=>exact bh
def WC(Γ:Gm)(X:Cx)(aa:Hp)(ab:Fz)(m:Nat)(a:Expr)(es:List Expr)(p cp:Pos)(G:GOk Γ X aa ab)(hp:(a::es).all bH=true)(hg:Ah Γ "list"=true)(hb:Γ.dE.contains "list"=true):PE X (.Call (.Name "list" p) (a::es) [] cp) (tE X aa ab (MI (n+1) Γ m a es)):=by
 rw[ik,aO]at hp;cases es with
 | cons=>exact bh
 | nil =>
  show PE X _ (tE X aa ab (match E2 a with | some ⟨zs,_⟩=>_ | none=>cy))
  rcases E2 a with _ | ⟨⟨z,b,bs⟩,zp,ES,rfl⟩
  ·exact bh
  ·refine pJ λhc=>?_
   simp only[lI,aO]at hc;obtain⟨⟨hx,g1,g2⟩,Yg⟩:=hc;have hx:=aY hx;subst hx;rw[ik,aO]at Yg;exact aaI G.hd (G.my hg) (G.dE _ hb) (G.my g1) (G.dE _ g2) (S.a Γ X aa ab 0 _ G) (cu Yg.1 _ _) (iL Yg.2 _ _)
def WD(Γ:Gm)(X:Cx)(aa:Hp)(ab:Fz)(a:Expr)(es:List Expr)(p cp:Pos)(G:GOk Γ X aa ab)(hp:(a::es).all bH=true)(hg:Ah Γ "isinstance"=true)(hb:Γ.dE.contains "isinstance"=true):PE X (.Call (.Name "isinstance" p) (a::es) [] cp) (tE X aa ab (MF (n+1) Γ a es)):=by
 cases es with
 | nil=>exact bh
 | cons e es=>cases e with
  | Name t=>cases es with
   | cons=>exact bh
   | nil =>
    refine pJ λhc=>?_
    unfold lI at hc;rw[aO]at hc;rw[ik,aO]at hp;cases h1:Gw t with
    | none=>exact bh
    | some g=>exact aec h1 (G.my hg) (G.dE _ hb) (G.my hc.1) (G.dE _ hc.2) (S.e Γ X aa ab 0 a G) λes=>cu hp.1 es _
  | _=>exact bh
def aaT(Γ:Gm)(X:Cx)(aa:Hp)(ab:Fz)(a b:Expr)(p:Pos)(G:GOk Γ X aa ab):PE X (.Subscript a b p) (tE X aa ab (Ww (n+1) Γ a b)):=by
 show PE X _ (tE X aa ab (match yV b with | some ⟨lh,_⟩=>_ | none=>_))
 rcases yV b with _ | ⟨⟨lo,hi⟩,ps,rfl⟩
 ·refine pJ λhp=>?_
  have gen:=λa=>aed (pos:=p) G.un (S.e Γ X aa ab 0 a G) (S.e Γ X aa ab 0 b G) (BC hp)
  cases a with
  | Name T =>
   refine pI (λhc=>?_) (gen _)
   rw[aO]at hc;cases h1:Γ.tabs.lookup T with
   | some rows=>exact aak (G.tabs _ rows h1) (G.my hc.2) (S.e Γ X aa ab 0 _ G) (BC hp) (kB hc.1).1
   | none=>exact gen _
  | _=>exact gen _
 ·exact ZS (S.e Γ X aa ab 0 _ G) (S.l Γ X aa ab _ G) (S.l Γ X aa ab _ G)
def aaU(Γ:Gm)(X:Cx)(aa:Hp)(ab:Fz)(tg e:Expr)(G:GOk Γ X aa ab):PI X tg e (L0 X aa ab (MK (n+1) Γ tg e)):=by
 have df:∀e,PI X tg e (L0 X aa ab (if bH e=true then iu (bP n Γ 0 e)else cy)):=λe=>by
  split
  ·exact SV (S.e Γ X aa ab 0 _ G)
  ·exact Tb
 cases e with
 | Call f as ks=>cases f with
  | Name x p =>
   rcases as with _ | ⟨a,_ | _⟩<;>rcases ks with _ | _<;>try exact df _
   show PI X _ _ (L0 X aa ab (ite _ _ _));split
   ·rename_i hc;simp only[lI,aO]at hc;obtain⟨⟨hx,hg,hb⟩,hp⟩:=hc;have hx:=aY hx;subst hx;exact Z8 <| LZ (G.my hg) (G.dE _ hb) (S.a Γ X aa ab 0 _ G) (cu hp _ _)
   ·split
    ·rename_i hc;simp only[lI,aO]at hc;obtain⟨⟨⟨hx,hg,hb⟩,hp⟩,ht⟩:=hc;have hx:=aY hx;subst hx;exact Z8 <| aep ht (G.my hg) (G.dE _ hb) (S.e Γ X aa ab 0 _ G) (cu hp _ _)
    ·exact SV (S.e Γ X aa ab 0 _ G)
  | _=>exact df _
 | _=>exact df _
def QZ:CC X aa ab elt gens scope p cy:=⟨bh,λ_ _ _ _ _ _ _=>yX⟩
def cI{c:Prop} [Decidable c] (h:c->CC X aa ab elt gens scope p f):CC X aa ab elt gens scope p (if c then f else cy):=by
 split
 ·exact h ‹_›
 ·exact QZ
def aaV(Γ:Gm)(X:Cx)(aa:Hp)(ab:Fz)(m:Nat)(elt:Expr)(gens:List Comprehension)(scope:Scope)(p:Pos)(G:GOk Γ X aa ab):CC X aa ab elt gens scope p (Wx (n+1) Γ m elt gens scope):=by
 rcases gens with _ | ⟨⟨tg,iter,ifs,(_ | _) | _⟩,_ | _⟩<;>try exact QZ
 refine cI λhp=>?_
 cases h2:yQ n (wC Γ scope) tg with
 | none=>exact QZ
 | some g =>
  refine cI λhc=>?_
  have SC:=EZ G hc;have hL:=(nG hc).2.2.2;have GK:=Mz G hc;have hi:=S.i Γ X aa ab tg iter G;have hg:=λC s H fp=>(nA (GK C s H fp aa ab) n tg g h2).1
  have kg:=(nA (GK 0 X.s₀ X.aa [] aa ab) n tg g h2).2.1;have he:=λC s H fp=>S.e _ _ _ _ (I0 m) elt (GK C s H fp aa ab)
  rcases ifs with _ | ⟨c,_ | _⟩
  ·exact⟨(GD G.calm SC hi (pb1 hg he) (iw hp _)).imp λσ H Q h=>L6 kg hL h,λi x p' sp hx hl hw=>(GF G.calm G.nd hx hl SC hi (pb1 hg he) hw (iw hp _)).imp λD σ H h=>L6 kg hL (rm h)⟩
  ·have ht:=λC s H fp=>S.t _ _ _ _ c (GK C s H fp aa ab)
   exact⟨(GD G.calm SC hi (pb2 hg he ht) (iw hp _)).imp λσ H Q h=>L7 kg hL h,λi x p' sp hx hl hw=>(GF G.calm G.nd hx hl SC hi (pb2 hg he ht) hw (iw hp _)).imp λD σ H h=>L7 kg hL (rm h)⟩
  ·exact QZ
def aaW(Γ:Gm)(X:Cx)(aa:Hp)(ab:Fz)(x:Str)(a:Expr)(es:List Expr)(p cp:Pos)(G:GOk Γ X aa ab)(hp:(a::es).all bH=true)(hn:je x=true)(hv:OJ Γ x=true):PE X (.Call (.Name x p) (a::es) [] cp) (tE X aa ab (MD (n+1) Γ x a es)):=by
 rw[ik,aO]at hp;cases es with
 | cons=>exact bh
 | nil =>
  show PE X _ (tE X aa ab (match([]:List Expr),slot Γ x,Γ.yN with | [],some i,some o=>_ | _,_,_=>cy))
  cases h1:slot Γ x with
  | none=>exact bh
  | some=>cases h2:Γ.yN with
   | none=>exact bh
   | some o=>exact aar (G.yN o.1 o.2 h2) (wA G hn hv h1) (S.e Γ X aa ab 0 a G) (cu hp.1 _ _)
def WE(Γ:Gm)(X:Cx)(aa:Hp)(ab:Fz)(a:Expr)(es:List Expr)(p cp:Pos)(G:GOk Γ X aa ab)(hp:(a::es).all bH=true)(hg:Ah Γ "spread"=true):PE X (.Call (.Name "spread" p) (a::es) [] cp) (tE X aa ab (ME (n+1) Γ a es)):=by
 rcases es with _ | ⟨e,_ | _⟩
 ·exact bh
 ·cases e with
  | Lambda args body scope =>
   show PE X _ (tE X aa ab (match Γ.vf,rF args with | some rs,some xa=>_ | _,_=>cy))
   cases h1:Γ.vf with
   | none=>exact bh
   | some rs=>cases h2:rF args with
    | none=>exact bh
    | some xa =>
     refine pJ λhc=>?_
     rw[ik,aO]at hp;obtain rfl:=yT h2;obtain⟨S1,Z1⟩:=Jb G hc;obtain⟨⟨st,fs,S5,pr,Ns,k,rb,rfl,D,mS,bS,scS,hpr,hr,Mi,hf⟩,L⟩:=G.vf rs h1;exact Mh D mS bS scS hpr L (G.my hg) hr (S.e Γ X aa ab 0 a G) (cu hp.1 _ _) S1 Mi λqual fa cW cl A stack s H yJ t8 hr'=>S.e _ _ yJ t8 0 _ (QX G S1.kind Z1 hf hr' yJ t8)
  | _=>exact bh
 ·cases e<;>exact bh
def aaX(Γ:Gm)(X:Cx)(aa:Hp)(ab:Fz)(m:Nat)(x:Str)(a:Expr)(es:List Expr)(p cp:Pos)(G:GOk Γ X aa ab)(hp:(a::es).all bH=true)(hn:je x=true)(hg:Ah Γ x=true):PE X (.Call (.Name x p) (a::es) [] cp) (tE X aa ab (Wz (n+1) Γ m x a es)):=by
 have El:=hp;rw[ik,aO]at El;obtain⟨n1,n2,n3⟩:=kB hn;have ha:=S.a Γ X aa ab 0 (a::es) G;have h1:=cu El.1 es X.env;have h2:=iL El.2 X.env cp;refine pI (λhx=>?_) ?_
 ·cases aY hx;exact S.sp Γ X aa ab a es p cp G hp hg
 cases hk:Γ.fns.lookup x with
 | some k =>
  obtain⟨j,f,fd,ps,F,hr,q1,q2,q3⟩:=G.fns _ k hk;exact V9 (aeX F hr q3) (G.my hg) q1 q2 ha n1 h1 h2
 | none=>cases hk:Γ.cls.lookup x with
  | some k=>cases m with
   | zero =>
    obtain⟨j,Ca,f,fd,ps,hC,c,M,F,hr,q1,q2⟩:=G.cls _ k hk;exact(O1 (p:=p) M F hr (G.my hg) q1 q2 .nil A0 ha n1 h1 h2).imp λσ H Q h=>QI hC c h
   | succ=>exact bh
  | none =>
   refine pJ λhb=>pI (λhx=>?_) (pI (λhx=>?_) (pI (λhx=>?_) (pI (λhx=>?_) ?_)))
   ·cases aY hx;exact S.is Γ X aa ab a es p cp G hp hg hb
   ·cases aY (ie.mp hx).1;exact S.st Γ X aa ab a es p cp G hp hg hb
   ·cases aY hx;exact S.d Γ X aa ab a es p cp G hp hg hb
   ·cases aY hx;exact S.li Γ X aa ab m a es p cp G hp hg hb
   cases hg':yR x with
   | some g=>exact Wt hg' G.hd (G.my hg) (G.dE _ hb) ha h1 h2
   | none=>exact bh
def aaY(Γ:Gm)(X:Cx)(aa:Hp)(ab:Fz)(m:Nat)(f a:Expr)(es:List Expr)(cp:Pos)(G:GOk Γ X aa ab)(hp:(a::es).all bH=true):PE X (.Call f (a::es) [] cp) (tE X aa ab (Wy (n+1) Γ m f a es cp)):=by
 have El:=hp;rw[ik,aO]at El;cases f with
 | Name=>exact pJ λhn=>pI (λhg=>S.cn Γ X aa ab m _ a es _ cp G hp hn hg) (pJ λhv=>S.o Γ X aa ab _ a es _ cp G hp hn hv)
 | Subscript=>exact QH G.fns G.ns (S.e Γ X aa ab 0 _ G) (S.a Γ X aa ab 0 _ G) (cu El.1 _ _) (iL El.2 _ _)
 | Attribute o g ap =>
  refine pJ λhc=>?_
  simp only[aO,iU]at hc;cases hw:GN g with
  | none=>exact bh
  | some w=>exact aet hw (S.e Γ X aa ab 0 _ G) (S.a Γ X aa ab _ _ G) (rE hc.1.1) (QW hp hc.2) hc.1.2 (cu El.1 _ _) (iL El.2 _ _)
 | _=>exact bh
def aaZ(Γ:Gm)(X:Cx)(aa:Hp)(ab:Fz)(m:Nat)(e:Expr)(G:GOk Γ X aa ab):PE X e (tE X aa ab (bP (n+1) Γ m e)):=by
 cases e with
 | Constant c=>cases c<;>first | exact bh | exact Zz | exact ad4 | exact Zy | exact ZA
 | Name x =>
  show PE X _ (tE X aa ab (Wu Γ x));unfold Wu;split
  ·rename_i hn;split
   ·rename_i hv;split
    ·rename_i i hi;exact SJ i (wA G hn hv hi)
    ·exact bh
   ·split
    ·rename_i hg;split
     ·rename_i q hq;obtain⟨u,v,g1,g2,g3⟩:=G.cons _ q hq;exact A1 (FZ (G.my hg) g1 g2 (kB hn).1) g3
     ·exact bh
    ·exact bh
  ·exact bh
 | BinOp a op b =>
  show PE X _ (tE X aa ab (match QV op with | some g=>op2 g (bP n Γ 0 a) (bP n Γ 0 b) | none=>cy))
  cases h1:QV op with
  | none=>exact bh
  | some=>exact ad5 (Mt h1) (S.e Γ X aa ab 0 _ G) (S.e Γ X aa ab 0 _ G)
 | UnaryOp op=>cases op with
  | Not=>exact ZI (S.e Γ X aa ab 0 _ G)
  | USub=>exact ZV (S.e Γ X aa ab 0 _ G)
  | _=>exact bh
 | BoolOp=>exact S.b Γ X aa ab _ _ _ G
 | Compare=>exact S.k Γ X aa ab _ _ _ _ G
 | IfExp=>exact ad8 (S.t Γ X aa ab _ G) (S.e Γ X aa ab m _ G) (S.e Γ X aa ab m _ G)
 | Tuple=>exact ZK (S.a Γ X aa ab m _ G)
 | List=>cases m with
  | zero=>exact ZL (S.a Γ X aa ab 0 _ G)
  | succ=>exact Vw (S.a Γ X aa ab _ _ G)
 | Dict ks vs=>rcases ks with _ | _<;>rcases vs with _ | _<;>first | exact aaj _ | exact bh
 | Subscript=>exact S.x Γ X aa ab _ _ _ G
 | ListComp=>exact(S.c Γ X aa ab m _ _ _ _ G).1
 | Attribute =>
  show PE X _ (tE X aa ab (ite _ _ _));split
  ·rename_i hb;exact aal (S.e Γ X aa ab 0 _ G) (rE hb)
  ·exact bh
 | Call f as ks=>cases as with
  | cons=>cases ks with
   | cons=>exact bh
   | nil =>
    show PE X _ (tE X aa ab (ite _ _ _));split
    ·rename_i hp;exact S.f Γ X aa ab m _ _ _ _ G hp
    ·exact bh
  | nil=>cases ks with
   | cons=>cases f<;>exact bh
   | nil=>cases f with
    | Attribute =>
     show PE X _ (tE X aa ab (ite _ _ _));split
     ·rename_i hc;rw[aO]at hc;split
      ·rename_i hx;have hx:=aY hx;subst hx;exact aaE (S.e Γ X aa ab 0 _ G) (rE hc.1) hc.2
      split
      ·rename_i w hw;exact aag hw (S.e Γ X aa ab 0 _ G) (rE hc.1) hc.2
      ·exact bh
     ·exact bh
    | _=>exact bh
 | _=>exact bh
end
theorem snd:∀n:Nat,Snd n
 | 0=>ML
 | n+1 =>
  have S:=snd n
  ⟨aaZ S,aaY S,aaW S,aaX S,WE S,WB S,aaS S,WC S,WD S,aaQ S,aaT S,aaR S,aaM S,aaN S,aaO S,aaP S,aaU S,aaV S⟩
structure SOk (Γ:Gm) (X:Cx) (aa:Hp) (ab:Fz):Prop extends GOk Γ X aa ab where
 never:PassesOwn (model X.prog X.w) X.A X.env X.xe
def WG:Expr->Bool
 | .ListComp _ _ _ _=>true
 | _=>false
def Ra:G2:=tQ (λ_ _=>true) λi j=>.int (i+j)
def WH:Operator->Option G2
 | .Add=>some Ra
 | _=>none
noncomputable def sI{c:Prop} [Decidable c] (h:c->PS X e (tS X aa ab f)):PS X e (tS X aa ab (if c then f else cy)):=by
 split
 ·exact h ‹_›
 ·exact jz
section
variable {Γ:Gm} {X:Cx} {x:Str} {p sp:Pos} {e:Expr} {op:Operator} {i:Nat} {aa:Hp} {ab:Fz} {fe:Gx PV} {g:G2}
def Rb(h:WH op=some g):yn X (inplaceOp op) g:=by
 cases op<;>cases h
 exact gX (A5 ON) (λ_ _ _=>trivial) λ_ _ _=>aI.mpr rfl
def Rc{st:dq}(h:rd i st=some r):∃p,st.ρ[i]?=some (some p)/\r=(.ok p,st):=by
 obtain⟨p,e1,e2⟩:=bz h;cases z:st.ρ[i]? with
 | none=>rw[z]at e1;cases e1
 | some o =>
  rw[z]at e1;cases o with
  | none=>cases e1
  | some p'=>cases e1;exact⟨p,rfl,e2.symm⟩
def aa0(ho:yn X (inplaceOp op) g)(he:PE X e (tE X aa ab fe))(hN:X.N.Nodup)(hi:X.N[i]?=some x)(hx:Sg X.env.scope x)(hf:X.fn x=true\/X.env.scope.names.lookup x=some .local):PS X (.AugAssign (.Name x p) op e sp) (tS X aa ab (c6 (op2 g (rd i) fe) (aX i))):=by
 refine(UL hN hi hx he (λae s σ H x y v u Q I r1 r2 t=>ho ae s σ H x y v u Q I r1 r2 t) hf).imp λD σ H h=>?_
 obtain⟨F,st,R,h⟩:=rm h;obtain⟨r,e1,e2⟩:=At.bnd h;obtain⟨q,e3,rfl⟩:=Rc e1;obtain⟨v,h3,h4⟩:=R.l.av i q e3;refine⟨v,h3,F,st,R,Tx.bnd (e2) λy w F1 bA H1 R1 g1 b1 h1=>?_⟩
 obtain⟨z,hz,k⟩:=h1.hp;exact⟨aa,ab,F1,bA,σ,q,y,z,hz,R1,h4.mono g1,b1,k⟩
def BD(G:GOk Γ X aa ab)(hs:slot Γ x=some i)(hx:Yh Γ x=true)(he:PE X e (tE X aa ab fe))(hsw:swapsWith e (some (.Name x p)) sp.line X.env=pure false):PS X (.Assign [.Name x p] e sp) (tS X aa ab (c6 fe (aX i))):=by
 obtain⟨h1,h2⟩:=G.Ws hx;exact(UK G.nd (G.uh hs) h1 he hsw h2).imp λD σ H h=>rm h
def E3 :
  (swapsWith (.ListComp elt gens scope cp) (some (.Name x p)) sp.line X.env=pure true/\X.env.scope.names.lookup x=some .local)\/swapsWith (.ListComp elt gens scope cp) (some (.Name x p)) sp.line X.env=pure false:=by
 have e:swapsWith (.ListComp elt gens scope cp) (some (.Name x p)) sp.line X.env=pure (X.env.blockKind==.function&&X.env.kindOf x==some .local&&p.line==(Expr.ListComp elt gens scope cp).pos.line&&!(scope.names.any fun(n,k)=>n==x&&(k==.local || k==.cell))):=rfl
 rw[e];cases hb:(X.env.blockKind==.function&&X.env.kindOf x==some .local&&p.line==(Expr.ListComp elt gens scope cp).pos.line&&!(scope.names.any fun(n,k)=>n==x&&(k==.local || k==.cell)))with
 | true =>
  refine .inl ⟨rfl,?_⟩;simp only[aO]at hb;exact aY hb.1.1.2
 | false=>exact .inr rfl
def Jc(h:(mx e || WG e)=true)(l:Nat)(env:Env):swapsWith e (some (.Attribute a x p)) l env=pure false:=by
 cases e<;>first | rfl | cases h
def E4(h:rD k=true)(env:Env)(v:Value):assign (.Subscript o k p) env v=(do
   let ov <-holding [v] (eval o env)
   let iv <-holding [v,ov] (eval k env)
   standAt p
   holding [v,ov,iv] (setItem ov iv v)
   release [v,ov,iv] []):=by
 cases k<;>first | rfl | cases h
def E5(env:Env):swappedStores [.Subscript o k p] e env=pure none:=by
 cases e<;>rfl
end
def WHL:Nat:=8000000
def RET:Str:="[return]"
def asName(n:Nat)(Γ:Gm)(x:Str)(e:Expr):Gx eX:=if(Yh Γ x&&(mx e || WG e))=true then(match slot Γ x with | some i=>c6 (bP n Γ (md Γ x) e) (aX i) | none=>cy)else cy
noncomputable def Tc(n:Nat)(Γ:Gm)(tg e:Expr):Gx eX:=match tg with
 | .Name x _=>asName n Γ x e
 | .Tuple ts k p=>if G1 e=true then(match yQ n Γ (.Tuple ts k p)with | some g=>c6 (bP n Γ 0 e) g.1 | none=>cy)else cy
 | .Subscript o k _=>if(rD k&&mx e)=true then QG (bP n Γ (aaK Γ o) e) (bP n Γ 0 o) (bP n Γ 0 k)else cy
 | .Attribute o f _=>if(mx e || WG e)=true then EI Γ.clss Γ.flds f (bP n Γ (md Γ f) e) (bP n Γ 0 o)else cy
 | _=>cy
noncomputable def Td(n:Nat)(Γ:Gm)(tg:Expr)(op:Operator)(e:Expr):Gx eX:=match tg with
 | .Name x _=>if Yh Γ x=true then(match slot Γ x,WH op with | some i,some g=>c6 (op2 g (rd i) (bP n Γ 0 e)) (aX i) | _,_=>cy)else cy
 | _=>cy
mutual
noncomputable def WI:Nat->Gm->Stmt->Gx eX
 | 0,_,_=>cy
 | n+1,Γ,st=>match st with
  | .Pass _=>aN .nx
  | .Break _=>aN .bk
  | .Continue _=>aN .ct
  | .Return none _=>aN (.rt .b9)
  | .Return (some e) _=>retS (bP n Γ (md Γ RET) e)
  | .If c a b _=>dF (vx n Γ c) (lJ n Γ a) (lJ n Γ b)
  | .While c b [] _=>jP (vx n Γ c) (lJ n Γ b) WHL
  | .For tg iter body [] _=>if bH iter=true then(match yQ n Γ tg with | some g=>Bk (MK n Γ tg iter) g.1 (lJ n Γ body) | none=>cy)else cy
  | .Expr e _=>if mx e=true then gQ (bP n Γ 0 e)else cy
  | .Assign [tg] e _=>Tc n Γ tg e
  | .AugAssign tg op e _=>Td n Γ tg op e
  | _=>cy
termination_by structural n=>n
noncomputable def lJ:Nat->Gm->List Stmt->Gx eX
 | 0,_,_=>cy
 | n+1,Γ,[]=>aN .nx
 | n+1,Γ,[st]=>WI n Γ st
 | n+1,Γ,st::Yi=>dW (WI n Γ st) (lJ n Γ Yi)
termination_by structural n=>n
end
structure ae2 (n:Nat):Prop where
 s:∀Γ X aa ab st,SOk Γ X aa ab->PS X st (tS X aa ab (WI n Γ st))
 ss:∀Γ X aa ab Yi,SOk Γ X aa ab->PSs X Yi (tS X aa ab (lJ n Γ Yi))
def WJ:PSs X s (tS X aa ab cy):=λ_ _ _ _ _ _ ⟨F,st,R,r,z,_⟩=>by cases z
def WK(G:GOk Γ X aa ab):PS X (.Assign [tg] e sp) (tS X aa ab (Tc n Γ tg e)):=by
 have S:=snd n;cases tg with
 | Name x p =>
  refine sI λhc=>?_
  rw[aO]at hc;cases hi:slot Γ x with
  | none=>exact jz
  | some i =>
   rcases DP _ _▸hc.2 with hn | hl
   ·exact BD G hi hc.1 (S.e Γ X aa ab _ _ G) (iK hn _ _ _)
   ·cases e<;>try (exact absurd hl dc)
    rcases E3 with⟨z,hl⟩ | z
    ·cases n with
     | zero=>exact yX
     | succ n=>exact((snd n).c Γ X aa ab _ _ _ _ _ G).2 i x p sp (G.uh hi) hl z
    ·exact BD G hi hc.1 (S.e Γ X aa ab _ _ G) z
 | Tuple ts k tp =>
  refine sI λhc=>?_
  cases h1:yQ n Γ (.Tuple ts k tp)with
  | none=>exact jz
  | some g =>
   obtain⟨g1,g2,g3,g4⟩:=nA G n _ g h1;refine ZP (S.e Γ X aa ab _ _ G) g1 (iK (yP hc) (some (Expr.Tuple ts k tp)) sp.line X.env) ?_ (g3 _);cases e<;>first | rfl | cases hc
 | Subscript o k tp =>
  refine sI λhc=>?_
  rw[aO]at hc;exact aai G.un (S.e Γ X aa ab _ _ G) (S.e Γ X aa ab _ _ G) (S.e Γ X aa ab _ _ G) (E4 hc.1 _) (iK hc.2 (some (Expr.Subscript o k tp)) sp.line X.env) (E5 _)
 | Attribute=>exact sI λhc=>aam G.S9 (S.e Γ X aa ab _ _ G) (S.e Γ X aa ab _ _ G) (Jc hc _ _)
 | _=>exact jz
def WL(G:GOk Γ X aa ab):PS X (.AugAssign tg op e sp) (tS X aa ab (Td n Γ tg op e)):=by
 cases tg with
 | Name x p =>
  refine sI λhc=>?_
  cases h1:slot Γ x with
  | none=>exact jz
  | some i=>cases h2:WH op with
   | none=>exact jz
   | some g =>
    obtain⟨l1,l2⟩:=G.Ws hc;exact aa0 (Rb h2) ((snd n).e Γ X aa ab _ _ G) G.nd (G.uh h1) l1 l2
 | _=>exact jz
theorem sns:∀n:Nat,ae2 n
 | 0=>⟨λ_ _ _ _ _ _=>jz,λ_ _ _ _ _ _=>WJ⟩
 | n+1=>by
  have T:=sns n;have S:=snd n;refine⟨λΓ X aa ab st G=>?_,λΓ X aa ab Yi G=>?_⟩
  ·cases st with
   | Pass=>exact Vz
   | Break=>exact Pq
   | Continue=>exact VA
   | Return e=>cases e with
    | none=>exact VB
    | some e=>exact ZM (S.e Γ X aa ab _ _ G.toGOk)
   | If=>exact ad9 (S.t Γ X aa ab _ G.toGOk) (T.ss Γ X aa ab _ G) (T.ss Γ X aa ab _ G)
   | While c b o=>cases o with
    | nil=>exact Pu WHL G.never (S.t Γ X aa ab _ G.toGOk) (T.ss Γ X aa ab _ G)
    | cons=>exact jz
   | For tg iter body o=>cases o with
    | cons=>exact jz
    | nil =>
     refine sI λhp=>?_
     cases h1:yQ n Γ tg with
     | none=>exact jz
     | some g=>exact V4 G.never G.calm (S.i Γ X aa ab _ _ G.toGOk) (nA G.toGOk n _ g h1).1 (T.ss Γ X aa ab _ G) (iw hp _)
   | Expr=>exact sI λhc=>VC (S.e Γ X aa ab _ _ G.toGOk) (iK hc _ _ _)
   | Assign ts=>rcases ts with _ | ⟨_,_ | _⟩<;>first | exact WK G.toGOk | exact jz
   | AugAssign=>exact WL G.toGOk
   | _=>exact jz
  ·rcases Yi with _ | ⟨st,_ | _⟩
   ·exact Vx
   ·exact Vy (T.s Γ X aa ab st G)
   ·exact Pp (T.s Γ X aa ab st G) (T.ss Γ X aa ab _ G)
def E6:Nat:=120
abbrev CT:=Str->qK
def noFn:CT:=λ_ _ _=>none
def WM(P:Pg):List (Str×Nat):=P.cls.map λd=>(d.1,(params d.2).length)
def WN(P:Pg)(x:Str)(st:Stmt)(cls:List (Str×Nat))(make:CT)(vf:Option ((PV->Gx PV)->Nat->qK))(yN:Option (Nat×(PV->Gx PV)))(c:CT):Gm where
 sc:=(au st).names
 N:=cg st
 own:=true
 fns:=P.defs.map λd=>(d.1,(params d.2).length)
 call:=c
 cons:=P.cons
 dE:=P.dE
 tabs:=P.tabs
 cls:=cls
 make:=make
 clss:=P.cls.map (·.1)
 flds:=P.flds
 Yw:=(P.Yw.lookup x).getD []
 vf:=vf
 yN:=yN
def rdI(P:Pg)(C:Str)(st:Stmt)(c:CT):Gx eX:=lJ E6 (WN P C st [] noFn none none c) (dk st)
def Rf(P:Pg)(c:CT):CT:=λC=>match P.cls.lookup C with | some st=>du (rdI P C st c) (cg st).length | none=>λ_ _=>none
def WO(P:Pg)(st:Stmt)(c:CT)(ω:PV->Gx PV)(n:Nat):Gx eX:=lJ E6 (WN P "spread" st [] noFn none (some (n,ω)) c) (dk st)
def WQ(P:Pg)(x:Str)(c:CT):Option ((PV->Gx PV)->Nat->qK):=if P.oQ.contains x=true then(P.defs.lookup ("spread":Str)).map λst=>λω n=>du (WO P st c ω n) (cg st).length else none
def Oa(P:Pg)(x:Str)(st:Stmt)(c:CT):Gx eX:=lJ E6 (WN P x st (WM P) (Rf P c) (WQ P x c) none c) (dk st)
def run(P:Pg):Nat->CT
 | 0=>noFn
 | k+1=>λx=>match P.defs.lookup x with | some st=>du (Oa P x st (run P k)) (cg st).length | none=>λ_ _=>none
def WR{P:Pg}{k:Nat}{x:Str}{st:Stmt}(h:P.defs.lookup x=some st):run P (k+1) x=du (Oa P x st (run P k)) (cg st).length:=by
 show(match P.defs.lookup x with | some st=>du (Oa P x st (run P k)) (cg st).length | none=>λ_ _=>none)=_
 rw[h]
theorem kC{α β:Type}(g:α->β)(x:Str):∀l:List (Str×α),(l.map λd=>(d.1,g d.2)).lookup x=(l.lookup x).map g
 | []=>rfl
 | (n,a)::r=>by
  rw[aE,kc,kc];cases x==n with
  | true=>rfl
  | false=>exact kC g x r
section
variable {prog:Program} {w:World} {K:W.Frag} {mg:Str->Option Value} {base:Heap}
def E7{x:Str}{c T:Addr}(h:W.tabIn K x=some (c,T)):∃f oc od fd Ad,W.nsIn K mainGlobals x=some (some (.ref f))/\K.lookup f=some ⟨oc,od,.func fd,Ad⟩/\fd.code=.ref c:=by
 unfold W.tabIn at h;split at h
 ·grind
 ·cases h
structure WS (P:Pg) (w:World) (K:W.Frag) (mg:Str->Option Value):Prop where
 fns:∀x st,P.defs.lookup x=some st->∃f fd,DV K x x st f fd/\gP K fd (params st) []/\mg x=some (.ref f)/\dB (cg st) (params st) (au st)
 cons:∀x p,P.cons.lookup x=some p->∃u v,mg x=some u/\RelV v u/\∀F,bQ K F p v
 dE:∀x,P.dE.contains x=true->mg x=none
 tabs:∀T rows,P.tabs.lookup T=some rows->GO K mg w.params T rows
 ns:∀x a,W.nsIn K mainGlobals x=some (some (.ref a))->mg x=some (.ref a)
 S9:Mf K (P.cls.map (·.1)) P.flds
 cls:∀C st,P.cls.lookup C=some st->∃Ca f fd,ClsAt K C (.ref Ca)/\HM K Ca/\Mk K Ca f/\mg C=some (.ref Ca)/\DV K "__init__" (C++".__init__") st f fd/\gP K fd (params st) []/\dB (cg st) (params st) (au st)
 vf:∀x st,P.defs.lookup x=some st->P.oQ.contains x=true->x∈dn/\(∃c T,W.tabIn K x=some (c,T)/\W.codeHdIn K c T=true)/\∀st,P.defs.lookup ("spread":Str)=some st->(params st).length=2
def FR(P:Pg)(prog:Program)(w:World)(K:W.Frag)(mg:Str->Option Value)(base:Heap)(k:Nat):Prop:=∀(x:Str) (st:Stmt) (f:Addr) (fd:FuncData),P.defs.lookup x=some st->mg x=some (.ref f)->DV K x x st f fd->dB (cg st) (params st) (au st) ->
 FnOk prog w K mg base (jt prog w) (3*k) f fd (params st) (IP K (params st).length (run P k x))
section
variable {P:Pg} (O:WS P w K mg) {k:Nat} (ih:FR P prog w K mg base k)
include O ih
def Te{X:Cx}(h1:X.prog=prog)(h2:X.w=w)(h3:X.K=K)(h4:X.mg=mg)(h5:X.base=base):Wr X (3*k) (P.defs.map λd=>(d.1,(params d.2).length)) (run P k):=λy n hy=>by
 subst h1 h2 h3 h4 h5;rw[kC (λst=>(params st).length)]at hy
 obtain⟨az,h1,h2⟩:=bz hy;subst h2;obtain⟨f',WT,F1,B1,m1,S1⟩:=O.fns y az h1;exact⟨3*k,f',WT,params az,aq _,ih y az f' WT h1 m1 F1 S1,m1,F1.kp,B1⟩
def MM{st:Stmt}{x q:Str}{f:Addr}{cW:Value}{A:Around}{ay:List Env}{s:Shared}{H aa:Hp}{ab:Fz}{E:XK}{cls:List (Str×Nat)}{make:CT}{vf:Option ((PV->Gx PV)->Nat->qK)}{yN:Option (Nat×(PV->Gx PV))}{j:Nat}(S:dB (cg st) (params st) (au st))
  (hr:dJ j (A.deeper (envOfC q (au st) s.heap.objs.size f cW))) (hj:3*k<=j) (hcl:∀C n,cls.lookup C=some n->∃k' Ca f' fd ps,ClsAt K C (.ref Ca)/\HM K Ca/\Mk K Ca f'/\FnOk prog w K mg base (jt prog w) k' f' fd ps (IP K n (make C))/\dJ (k'+1) (A.deeper (envOfC q (au st) s.heap.objs.size f cW))/\mg C=some (.ref Ca)/\gP K fd ps [])
  (Mi:∀rs,vf=some rs->Mu (WN P x st cls make vf yN (run P k)) (fK (jt prog w) prog w K mg base (cg st) q (au st) f cW A ay s H E) rs)
  (ae3:∀n ω,yN=some (n,ω)->Br (fK (jt prog w) prog w K mg base (cg st) q (au st) f cW A ay s H E) aa ab n ω) :
  SOk (WN P x st cls make vf yN (run P k)) (fK (jt prog w) prog w K mg base (cg st) q (au st) f cW A ay s H E) aa ab:=by
 refine⟨⟨rfl,rfl,S.nd,S.kind,rfl,hr.hd,?_,λ_ _=>rfl,λy n hy=>?_,O.cons,O.dE,O.tabs,O.ns,O.S9,hcl,Mi,ae3⟩,PassesOwn.leaving⟩
 ·have:=hr.un;show(A.deeper _).units+1150<cLine
  lia
 ·obtain⟨i,f',WT,ps,h1,h2,h3,h4,h5⟩:=Te (X:=fK (jt prog w) prog w K mg base (cg st) q (au st) f cW A ay s H E) O ih rfl rfl rfl rfl rfl y n hy;exact⟨i,f',WT,ps,h2,hr.mono (br h1 hj),h3,h4,h5⟩
def WU{st:Stmt}{x:Str}{f:Addr}{cW:Value}{A:Around}{ay:List Env}{s:Shared}{H:Hp}{E:XK}{cls:List (Str×Nat)}{make:CT}{vf:Option ((PV->Gx PV)->Nat->qK)}{yN:Option (Nat×(PV->Gx PV))}{rs:(PV->Gx PV)->Nat->qK}(h:P.defs.lookup x=some st)(hm:mg x=some (.ref f))(hc:EF K f cW)(hB:P.oQ≠[]->AY mg base)
  (hr:dJ (3*k+2) (A.deeper (envOfC x (au st) s.heap.objs.size f cW))) (hs:WQ P x (run P k)=some rs):Mu (WN P x st cls make vf yN (run P k)) (fK (jt prog w) prog w K mg base (cg st) x (au st) f cW A ay s H E) rs:=by
 obtain⟨hl,hs⟩:=bR hs;obtain⟨sp,e1,rfl⟩:=bz hs;obtain⟨hx,⟨c,T,ht,hC⟩,h2⟩:=O.vf x st h hl;obtain⟨fs,S5,F1,B1,m1,S1⟩:=O.fns _ sp e1;refine⟨⟨sp,fs,S5,params sp,cg sp,3*k,WO P sp (run P k),rfl,F1,m1,B1,S1,h2 sp e1,hr,λcW A ay s H E aa ab n ω hr' ho=>?_,Te O ih rfl rfl rfl rfl rfl⟩,⟨⟨x,c,T,hx,ht,hC,(by
  obtain⟨f',oc,od,fd,Ad,h1,h2,h3⟩:=E7 ht;obtain⟨oc',od',WT,aiU,g1,g2⟩:=hc;have:=O.ns x f' h1;rw[hm]at this;cases this;rw[h2]at g1;cases g1;exact g2.symm.trans h3),rfl⟩,hB (λz=>by grind)⟩⟩
 exact(sns E6).ss _ _ aa ab _ (MM O ih S1 hr' (fM _ _) (λ_ _ z=>by cases z) (λ_ z=>by cases z) λ_ _ z=>by cases z;exact ho)
def aa2{C:Str}{st:Stmt}{f:Addr}{fd:FuncData}(h:P.cls.lookup C=some st)(F:DV K "__init__" (C++".__init__") st f fd)(S:dB (cg st) (params st) (au st)):FnOk prog w K mg base (jt prog w) (3*k+1) f fd (params st) (IP K (params st).length (Rf P (run P k) C)):=by
 have e:Rf P (run P k) C=du (rdI P C st (run P k)) (cg st).length:=by
  unfold Rf;rw[h]
 rw[e];exact L9 F S λcW A ay s H E _ hr aa ab=>(sns E6).ss _ _ aa ab _ (MM O ih S hr (aq _) (λ_ _ z=>by cases z) (λ_ z=>by cases z) λ_ _ z=>by cases z)
end
theorem MN{P:Pg}(O:WS P w K mg)(hB:P.oQ≠[]->AY mg base):∀(k:Nat),FR P prog w K mg base k
 | 0=>λx st f fd h Pe F S=>by
  have no:∀vs H Q E,¬IP K (params st).length (run P 0 x) vs H Q E:=λvs H Q E ⟨_,_,_,_,_,_,_,_,_,_,z,_⟩=>by cases z
  exact⟨λvs H Q E h=>absurd h (no vs H Q E),λA ay s H args us vs Q E _ _ _ _ h=>absurd h (no vs H Q E)⟩
 | k+1=>λx st f fd h Pe F S=>by
  have ih:=MN (P:=P) O hB k;rw[WR h];refine L9 (k:=3*k+2) F S λcW A ay s H E Vp hr aa ab=>(sns E6).ss _ _ aa ab _ (MM O ih S hr (fM _ _) (λC n hy=>?_) (λrs e=>WU O ih h Pe Vp hB hr e) λ_ _ z=>by cases z)
  unfold WM at hy;rw[kC (λst=>(params st).length)]at hy
  obtain⟨az,h1,h2⟩:=bz hy;subst h2;obtain⟨Ca,f',WT,a,c,M,m1,F1,B1,S1⟩:=O.cls C az h1;exact⟨3*k+1,Ca,f',WT,params az,a,c,M,aa2 O ih h1 F1 S1,hr,m1,B1⟩
def E8(ns:List Int):PV:=.lst (ns.map .int)
theorem BE{F:Fz}:∀ns:List Int,aF K F (ns.map .int) (ns.map V.int)
 | []=>.nil
 | n::r=>.cons (aI.mpr rfl) (BE r)
end
theorem jS{α β:Type} [BEq α] [LawfulBEq α] {k:α} {v:β}:∀{l:List (α×β)},l.lookup k=some v->(k,v)∈l
 | [],h=>by cases h
 | (a,b)::l,h=>by
  rw[kc]at h;cases z:k==a with
  | true =>
   rw[z]at h;cases h;rw[aY z];exact bg
  | false =>
   rw[z]at h;exact aU _ (jS h)
def HN.at{K:W.Frag}{h:Heap}{mg:Str->Option Value}{P:Params}{T:Str}{rows:List (Str×Str)}(x:HN K P T rows)(X:K.In h)(G:h.Ns mainGlobals mg):GO K mg P T rows:=by
 obtain⟨a,es,n,h1,h2,h3,h4⟩:=x;refine⟨a,es,n,W.mg_of X G h1,h2,h3,λk fn e=>?_⟩
 obtain⟨f,h5,h6⟩:=h4 (k,fn) (jS e);exact⟨f,h5,W.mg_of X G h6,h6⟩
def Kl.at{K:W.Frag}{h base:Heap}{mg:Str->Option Value}(b:Kl K)(X:K.In h)(G:h.Ns mainGlobals mg)(Y:K.In base):AY mg base :=
 let ⟨bm,o,h1,h2,h3,h4,h5⟩:=b;⟨bm,o,W.mg_of X G h1,h2,h3,Y _ _ h4,h5⟩
def BF(K:W.Frag):List (Addr×Str):=dn.filterMap λx=>(W.tabIn K x).map λcT=>(cT.2,Ax x)
theorem wG{α β:Type} [BEq α] [LawfulBEq α] {b:α} {q:β}:∀{l:List (α×β)},(l.map (·.1)).Nodup->(b,q)∈l->l.lookup b=some q
 | [],_,h=>nomatch h
 | (a,v)::l,hn,h=>by
  rw[aE,iW]at hn;rw[kc];rcases aV.mp h with e | h'
  ·grind
  ·have:(b==a)=false:=by
    grind
   rw[this];exact wG hn.2 h'
def Jd(K:W.Frag):(BF K).map (·.1)=dn.filterMap λx=>(W.tabIn K x).map (·.2):=by
 unfold BF;rw[List.map_filterMap]
 congr 1
 funext x
 cases W.tabIn K x<;>rfl
def mM.tabs{K:W.Frag}{h:Heap}(t:mM K h)(X:K.In h):(∀b q,(BF K).lookup b=some q->h.get? b=some {cls:=.none,data:=.fields #[]}/\isCodeTable h b/\K.lookup b=none)/\∀H:Hp,(∀b q,(BF K).lookup b=some q->H b=some (.DU q))->sW K H:=by
 refine⟨λb q e=>?_,λH hH x hx c T e=>?_⟩
 ·have hm:=jS e;unfold BF at hm;obtain⟨x,hx,e2⟩:=sv.mp hm;obtain⟨cT,e3,e4⟩:=sd.mp e2;cases e4;obtain⟨h1,h2,h3⟩:=t.at_ x hx cT.1 cT.2 e3;obtain⟨o,vs,_,_,_,_,_,_,_,g1,g2,g3,g4,_⟩:=W.codeHd_of_K X h1;exact⟨h2,⟨_,o,vs,g1,g2,g3,g4⟩,h3⟩
 ·refine hH T (Ax x) (wG (by rw[Jd];exact t.nd) ?_)
  exact sv.mpr ⟨x,hx,by rw[e];rfl⟩
def WV(P:Pg):Bool:=P.oQ.isEmpty || (match P.defs.lookup ("spread":Str)with | some st=>(params st).length==2 | none=>true)
def ae4{P:Pg}{K:W.Frag}{h:Heap}{mg:Str->Option Value}(X:K.In h)(G:h.Ns mainGlobals mg)(hd:∀d∈P.defs,Kk K d.1 d.2)
  (hc:∀d∈P.cons,∃u v,W.nsIn K mainGlobals d.1=some (some u)/\RelV v u/\∀F,bQ K F d.2 v) (hb:∀x∈P.dE,W.nsIn K mainGlobals x=some none) {w:World} (ht:∀d∈P.tabs,HN K w.params d.1 d.2) (hcl:∀d∈P.cls,T5 K d.1 d.2 P.flds) (LS:WV P=true) (hlm:∀x∈P.oQ,T6 K x):WS P w K mg where
 fns:=λx st e=>by
  obtain⟨⟨f,fd,a,F,b⟩,s⟩:=hd (x,st) (eK e);exact⟨f,fd,F,.all b,W.mg_of X G a,s⟩
 cons:=λx p e=>by
  obtain⟨u,v,a,r,b⟩:=hc (x,p) (eK e);exact⟨u,v,W.mg_of X G a,r,b⟩
 dE:=λx e=>W.mg_none_of X G (hb x (by simpa using e))
 tabs:=λT rows e=>(ht (T,rows) (jS e)).at X G
 ns:=λx a e=>W.mg_of X G e
 S9:=λC e=>by
  have e:C∈P.cls.map (·.1):=by simpa using e
  obtain⟨d,hd,rfl⟩:=aA.mp e;obtain⟨Ca,f,fd,a,M,c,na,F,b,s⟩:=hcl d hd;exact⟨Ca,a,c,λg hg=>na g (by simpa using hg)⟩
 cls:=λC st e=>by
  obtain⟨Ca,f,fd,a,M,c,na,F,b,s⟩:=hcl (C,st) (eK e);exact⟨Ca,f,fd,a,c,M,W.mg_of X G a,F,.all b,s⟩
 vf:=λx st e hs=>by
  obtain⟨h1,h2⟩:=hlm x (by simpa using hs)
  refine⟨h1,h2,λaz e'=>?_⟩
  unfold WV at LS;rw[e']at LS;rcases Bool.or_eq_true_iff.mp LS with z | z
  ·rw[xy.mp z]at hs;cases hs
  ·exact aY z
def Yes(o:Option (Rs PV×List aB)):Prop:=∃h,o=some (.ok (.bl true),h)
def WX{K:W.Frag}{P:Pg}{k:Nat}{H:Hp}{a:Addr}{ns:List Int}(hr:Yes (run P k "law" [E8 ns] []))(hS:kP K H a (ns.map V.int)):IP K 1 (run P k "law") [.ref a] H (λv _=>v=.bl true) λ_ _ _=>False :=
 let ⟨h,e⟩:=hr
 ⟨H,⟨H,[]⟩,[],[E8 ns],_,h,⟨cP.refl H,cP.refl H,Gr.refl _,λ_ _ e=>.inl e,λn a e=>by simp at e,rfl,oG,λn c a e=>by simp at e⟩,λ_ _ e=>.inl e,.cons (gB.mpr ⟨a,_,rfl,hS,BE ns⟩) .nil,rfl,e,λv F' H' _ b=>cf.mp b⟩
def MO{P:Pg}{N:Nat}{x:Str}{st:Stmt}{l:W.OpenLaw}{q:Program}{loose:List Str}{XP:(Str->Option Value)->Heap->Prop}{YP:World->Heap->Prop}{d:DefRec}(qB:P.defs.lookup ("law":Str)=some st)(hx:params st=[x])
  (hn:l.most=some 63) (hdn:d.name="law") (hdf:d.params.defaults=[]) (hr:dJ (3*N) callerA) (LS:WV P=true) (hY:∀(w:World) (h:Heap),YP w h->∃K:W.Frag,K.In h/\Km P w K/\mM K h)
  (ae6:∀ns:List Int,ns.length<=63->Yes (run P N "law" [E8 ns] [])):W.WalkO q loose XP YP l.row.toRowW d [] (λf vs=>PySem.call f vs):=by
 refine Att.AJ hn hdf λw s₀ s₁ mg mb fa o pm cd doc a vs ns G Y ho hd FX Pe Lk Ll eF hg=>?_
 obtain⟨K,KX,T,TH⟩:=hY w _ Y;obtain⟨t1,t2⟩:=TH.tabs KX;have O:=ae4 KX G.T.g T.hd T.hc T.hb T.ht T.hcl LS T.hlm;obtain⟨⟨f,fd,e0,F,b⟩,s⟩:=T.hd ("law",st) (eK qB);rw[hdn]at Pe;have e:=Pe.symm.trans (W.mg_of KX G.T.g e0);cases e;rw[hx]at b;refine Ih (CX:=jt l.prog w) KX G.T.g G.T.b G.T.builtins G.T.nolimit hg t1 t2 Lk Ll (br eF (by decide)) hr (λbase kb _=>?_) (λs u=>.of_eq (b [u] rfl)) (λH hS=>WX (ae6 ns eF) hS) (by rintro _ _ _ ⟨_,_,_,_,_,_,_,_,_,_,_,h,_⟩;exact h)
 have k:=MN (prog:=l.prog) O (λz=>(T.hbm z).at KX G.T.g kb) N "law" st _ fd qB (W.mg_of KX G.T.g e0) F s
 rw[hx]at k;exact k
abbrev Ev{α:Type}(f:Gx α)(s:dq)(a:α)(s':dq):Prop:=f s=some (.ok a,s')
abbrev Ek {α : Type} (f : Gx α) (s : dq) (a : α) : Prop := Ev f s a s
section
variable {α β:Type} {s s1 s2 s3:dq}
def eB(h:Ev f s a s1)(h2:k a s1=r):bnd f k s=r:=by
 show(f s).bind (Zx k)=r;rw[h];exact h2
def eI(h:Ev gc s b s1)(h2:(if b=true then f s1 else g s1)=r):dF gc f g s=r:=eB h (by grind)
def iT(h:Ev gc s true s1)(h2:f s1=r):dF gc f g s=r:=eI h h2
def iF(h:Ev gc s false s1)(h2:g s1=r):dF gc f g s=r:=eI h h2
variable {fa fb fe:Gx PV} {ts:Gx (List PV)} {p q x y z:PV} {ps as:List PV}
def b2(ha:Ev fa s x s1)(hb:Ev fb s1 y s2)(h:g s2.h x y=some z):Ev (op2 g fa fb) s z s2:=eB ha (eB hb (by show(g s2.h x y).map _=_;rw[h];rfl))
def cA(ha:Ev fa s x s1)(hb:Ev ts s1 as s2):Ev (ak fa ts) s (x::as) s2:=eB ha (eB hb rfl)
def tU(h:Ev ts s ps s1)(hl:ps.length<=4000000):Ev (mJ .ao ts) s (.ao ps) s1:=eB h (by show(small ps (.nd .ao ps)).map _=_;rw[show small ps (.nd .ao ps)=some (.nd .ao ps)from if_pos hl];rfl)
def lS(h:Ev ts s ps s1)(hl:ps.length<=4000000):Ev (mJ .lst ts) s (.lst ps) s1:=eB h (by show(small ps (.nd .lst ps)).map _=_;rw[show small ps (.nd .lst ps)=some (.nd .lst ps)from if_pos hl];rfl)
def bV(ha:Ev ts s as s1)(h:g s1.h as=some z):Ev (fX g ts) s z s1:=eB ha (by show(g s1.h as).map _=_;rw[h];rfl)
def bT(h:Ev fa s (.bl b) s1):Ev (toB fa) s b s1:=eB h rfl
def tR(h:Ev fa s p s1)(ht:qG s1.h p=some b):Ev (gi fa) s b s1:=eB h (by show(qG s1.h p).map _=_;rw[ht];rfl)
def nB(h:Ev gc s b s1):Ev (oV gc) s (!b) s1:=eB h rfl
def clV(ha:Ev ts s as s1)(hl:as.length=n)(hn:(s1.h.isEmpty || ah as)=true)(hc:g as []=some (.ok p,h'))(hf:o9 h' p=some q):Ev (bnd ts (bF 0 n g)) s q s1:=eB ha (by
 unfold bF;rw[hn,if_pos (show((0==0)&&true)=true from rfl)]
 unfold pe;rw[if_pos ⟨hl,hn⟩,hc];show(o9 h' p).map _=_;rw[hf];rfl)
def clG(ha:Ev ts s as s1)(hl:as.length=n)(hn:((m==0)&&(s1.h.isEmpty || ah as))=false)(hc:g as s1.h=some (.ok p,h')):Ev (bnd ts (bF m n g)) s p ⟨s1.ρ,h'⟩:=eB ha (by
 unfold bF;rw[hn,if_neg dc];unfold EG;rw[if_pos hl,hc];rfl)
variable {f g:Gx eX} {r:Option (Rs eX×dq)}
def sq(h:Ev f s .nx s1)(h2:g s1=r):dW f g s=r:=eB h h2
def qP(h:Ev f s (.rt p) s1):dW f g s=some (.ok (.rt p),s1):=eB h rfl
def aS(h:Ev fa s p s1)(ht:t p s1=some s2):Ev (c6 fa t) s .nx s2:=eB h (by show(t p s1).map _=_;rw[ht];rfl)
def rS(h:Ev fa s p s1):Ev (retS fa) s (.rt p) s1:=eB h rfl
def dS(h:Ev fa s p s1):Ev (gQ fa) s .nx s1:=eB h rfl
def j6(e:f ⟨gz n as,h⟩=some (.ok (.rt p),⟨J4,h'⟩)):du f n as h=some (.ok p,h'):=by
 unfold du;rw[e];rfl
def Rg(e:f ⟨gz n as,h⟩=some (.ok .nx,⟨J4,h'⟩)):du f n as h=some (.ok .b9,h'):=by
 unfold du;rw[e];rfl
variable {t:Tg} {body:Gx eX}
def fC(ht:t p s=some s1)(hb:Ev body s1 .nx s2)(h:fW t body ps s2=r):fW t body (p::ps) s=r:=eB (show Ev (stp (t p)) s .nx s1 by show(t p s).map _=_;rw[ht];rfl) (eB hb h)
def fR(ht:t p s=some s1)(hb:Ev body s1 (.rt q) s2):fW t body (p::ps) s=some (.ok (.rt q),s2):=eB (show Ev (stp (t p)) s .nx s1 by show(t p s).map _=_;rw[ht];rfl) (eB hb rfl)
def fS(h:Ev fi s (.sq ps) s1)(h2:fW t body ps s1=r):Bk fi t body s=r:=eB h h2
def sV(he:Ev fa s p s1)(hs:yE p=some h):Ev (iu fa) s (.sq h) s1:=eB he (by show(L4 s1.h p).map _=_;unfold L4;rw[hs];rfl)
def sG(h:Ev fi s ps s1):Ev (L3 fi) s (.sq ps) s1:=eB h rfl
theorem BG:∀{ps:List PV},(∀p∈ps,bd p h=some (F p,h))->fH bd ps h=some (ps.filterMap F,h)
 | [],_=>rfl
 | p::ps,H=>by
  show(bd p h).bind _=_;rw[H p bg];show(fH bd ps h).map _=_;rw[BG λq hq=>H q (aU _ hq)]
  cases e:F p with
  | none=>rw[List.filterMap_cons_none e];rfl
  | some v=>rw[List.filterMap_cons_some e];rfl
def cQ(hi:Ev fi s (.sq ps) s1)(hl:ps.length<=4000000)(hb:∀p∈ps,bd (bE link s1.ρ) p s1.h=some (F p,s1.h)):Ev (di false link fi bd) s (.lst (ps.filterMap F)) s1:=eB hi (by
 show(if ps.length<=gF then fH _ ps s1.h else none).bind _=_
 rw[if_pos (show ps.length<=gF from hl),BG hb]
 rfl)
def e1(ht:t p ⟨ρ,h⟩=some ⟨Ag,h1⟩)(he:Ev fe ⟨Ag,h1⟩ q ⟨ρ2,h2⟩):lq t fe ρ p h=some (some q,h2):=by
 unfold lq;rw[ht,dP,he];rfl
def Ob(ht:t p ⟨ρ,h⟩=some ⟨Ag,h1⟩)(hw:Ev ft ⟨Ag,h1⟩ true ⟨ρ2,h2⟩)(he:Ev fe ⟨ρ2,h2⟩ q ⟨ρ3,h3⟩):nk t ft fe ρ p h=some (some q,h3):=by
 unfold nk;rw[ht,dP,hw,dP];show(if true=true then(fe ⟨ρ2,h2⟩).bind _ else _)=_
 rw[if_pos rfl,he];rfl
def Oc(ht:t p ⟨ρ,h⟩=some ⟨Ag,h1⟩)(hw:Ev ft ⟨Ag,h1⟩ false ⟨ρ2,h2⟩):nk t ft fe ρ p h=some (none,h2):=by
 unfold nk;rw[ht,dP,hw];rfl
end
inductive Sh where
 | num | own | bI (n:Int) | bB (ps:List Sh)
mutual
def enc:Sh->PV
 | .num=>.ao [.str "num"]
 | .own=>.ao [.str "own"]
 | .bI n=>.ao [.str "strip",.int n]
 | .bB ps=>.ao [.str "rec",.ao (bY ps)]
def bY:List Sh->List PV
 | []=>[]
 | s::r=>enc s::bY r
end
mutual
def lv:Sh->List Sh
 | .num=>[.num]
 | .own=>[.own]
 | .bI n=>[.bI n]
 | .bB ps=>hV ps
def hV:List Sh->List Sh
 | []=>[]
 | s::r=>lv s++hV r
end
mutual
def dp:Sh->Nat
 | .bB ps=>rH ps+1
 | _=>0
def rH:List Sh->Nat
 | []=>0
 | s::r=>max (dp s) (rH r)
end
def jf:Sh->Bool
 | .bB _=>false
 | _=>true
theorem kD:∀l:List Sh,bY l=l.map enc
 | []=>rfl
 | s::r=>by simp[bY,kD r]
def qb(a b:List Sh):bY (a++b)=bY a++bY b:=by simp[kD]
def e9(a:List Sh):(bY a).length=a.length:=by simp[kD]
theorem uj:∀a b:List Sh,hV (a++b)=hV a++hV b
 | [],b=>by simp[hV]
 | s::r,b=>by simp[hV,uj r b]
mutual
theorem yY:∀s:Sh,∀x∈lv s,jf x=true
 | .num,x,h=>by simp[lv]at h;subst h;rfl
 | .own,x,h=>by simp[lv]at h;subst h;rfl
 | .bI n,x,h=>by simp[lv]at h;subst h;rfl
 | .bB ps,x,h=>BH ps x (by simpa[lv]using h)
theorem BH:∀ps:List Sh,∀x∈hV ps,jf x=true
 | [],x,h=>by simp[hV]at h
 | s::r,x,h=>by
  simp only[hV,bD]at h;rcases h with h | h
  ·exact yY s x h
  ·exact BH r x h
end
def E9(h:jf s=true):lv s=[s]/\dp s=0:=by
 cases s with
 | bB _=>cases h
 | _=>exact⟨by simp[lv],by simp[dp]⟩
mutual
theorem dH:∀s:Sh,noRef (enc s)=true
 | .num=>rfl
 | .own=>rfl
 | .bI _=>rfl
 | .bB ps=>by simp[enc,noRef,ah,rJ ps]
theorem rJ:∀l:List Sh,ah (bY l)=true
 | []=>rfl
 | s::l=>by simp[bY,ah,dH s,rJ l]
end
def xC(hc:h[n]?=some ⟨.lst,ps⟩)(hq:Es h q=some qs)(hl:ps.length+qs.length<=4000000):yB (.ref n) [q] ⟨ρ,h⟩=some (.ok .b9,⟨ρ,h.set n ⟨.lst,ps++qs⟩⟩):=by
 show(Es h q).bind _=_;rw[hq,dP];show(yz h (.ref n)).bind _=_;have e:yz h (.ref n)=some (n,⟨.lst,ps⟩):=by
  show(h[n]?).bind _=_;rw[hc];rfl
 rw[e,dP];show(((if ps.length+qs.length<=gF then some (ps++qs)else none).map _).map _)=_
 rw[if_pos (show ps.length+qs.length<=gF from hl)]
 rfl
def aC(hc:h[n]?=some ⟨.lst,ps⟩)(hl:ps.length<4000000):mq (i8 Be) (.ref n) [q] ⟨ρ,h⟩=some (.ok .b9,⟨ρ,h.set n ⟨.lst,ps++[q]⟩⟩):=by
 show(yz h (.ref n)).bind _=_;have e:yz h (.ref n)=some (n,⟨.lst,ps⟩):=by
  show(h[n]?).bind _=_;rw[hc];rfl
 rw[e,dP];show(((if ps.length<gF then some (ps++[q])else none).map _).map _)=_
 rw[if_pos (show ps.length<gF from hl)]
 rfl
def yZ(h1:Ev fo s (.ref n) s1)(hc:s1.h[n]?=some ⟨.lst,ps⟩)(h2:Ev ts s1 as s2)(h3:w (.ref n) as s2=r):Dj "list" w fo ts s=r:=by
 refine eB h1 (eB (a:=()) ?_ (eB h2 h3));show((cH s1.h (.ref n)).bind _).map _=_;have e:cH s1.h (.ref n)=some (.lst,ps):=by
  show(s1.h[n]?).bind _=_;rw[hc];rfl
 rw[e];rfl
def G3(c:CT):Gx eX:=(gQ (Dj "list" yB (rd 1) (ak (bnd (ak (rd 2) (aN [])) (bF 0 1 (c "leaves"))) (aN []))))
def y0(c:CT):Gx eX :=
 (dW (dF (toB (op2 A6 (op2 aZ (rd 0) (aN (.int 0))) (aN (.str "rec"))))
  (retS (mJ .ao (ak (rd 0) (aN []))))
  (aN .nx))
  (dW (c6 (yq (aN [])) (aX 1))
  (dW (Bk (iu (op2 aZ (rd 0) (aN (.int 1)))) (aX 2) (G3 c))
  (retS (fX Ir (ak (rd 1) (aN [])))))))
def Gives(o:Option (Rs PV×List aB))(q:PV):Prop:=∃p h,o=some (.ok p,h)/\o9 h p=some q
def y8(hp:noRef p=true):o9 h p=some p:=by
 unfold o9;split
 ·rfl
 ·unfold ve;rw[if_pos hp]
theorem qc(X:PV):∀(ps acc:List Sh) (o:Option PV),(∀s∈ps,Gives (c "leaves" [enc s] []) (.ao (bY (lv s))))->acc.length+(hV ps).length<=4000000 ->
  ∃o',fW (aX 2) (G3 c) (bY ps) ⟨[some X,some (.ref 0),o],[⟨.lst,bY acc⟩]⟩=some (.ok .nx,⟨[some X,some (.ref 0),o'],[⟨.lst,bY (acc++hV ps)⟩]⟩)
 | [],acc,o,_,_=>⟨o,by simp[hV];rfl⟩
 | s::r,acc,o,h,hz=>by
  obtain⟨p,h',h1,h2⟩:=h s bg;simp only[hV,bJ]at hz;obtain⟨o',ih⟩:=qc X r (acc++lv s) (some (enc s)) (λs hs=>h s (aU _ hs)) (by grind)
  refine⟨o',?_⟩;rw[cj]at ih;refine fC rfl (dS (yZ rfl rfl (cA (clV rfl rfl (by simp[ah,dH]) h1 h2) rfl) (xC rfl rfl (by rw[e9,e9];lia)))) ?_
  rw[<-qb];exact ih
def kE(h:jf s=true):du (y0 c) 3 [enc s] []=some (.ok (.ao [enc s]),[]):=by
 cases s with
 | bB _=>cases h
 | _=>kernel_rfl
def Fb (h:∀s∈ps,Gives (c "leaves" [enc s] []) (.ao (bY (lv s)))) (hz:(hV ps).length<=4000000):Gives (du (y0 c) 3 [enc (.bB ps)] []) (.ao (bY (hV ps))):=by
 obtain⟨o',q⟩:=qc (enc (.bB ps)) ps [] none h (by simpa using hz)
 refine⟨_,_,j6 (sq (iF (s1:=⟨[some (enc (.bB ps)),none,none],[]⟩) (bT (by kernel_rfl)) rfl) (sq rfl (sq (fS rfl q) (rS rfl)))),y8 ?_⟩
 simp[noRef,rJ]
structure er (R:Nat->CT):Prop where
 run:∀k,R (k+1) "leaves"=du (y0 (R k)) 3
mutual
theorem er.all{R:Nat->CT}(A:er R):∀(s:Sh) (k:Nat),dp s<=k->(lv s).length<=4000000->Gives (R (k+1) "leaves" [enc s] []) (.ao (bY (lv s)))
 | .num,k,_,_=>⟨_,_,by rw[A.run,kE rfl],rfl⟩
 | .own,k,_,_=>⟨_,_,by rw[A.run,kE rfl],rfl⟩
 | .bI n,k,_,_=>⟨_,_,by rw[A.run,kE rfl],rfl⟩
 | .bB ps,0,hd,_=>by simp[dp]at hd
 | .bB ps,k+1,hd,hz=>by
  simp only[dp]at hd;simp only[lv]at hz;rw[A.run];exact Fb (A.each ps k (by lia) hz) hz
theorem er.each{R:Nat->CT}(A:er R):∀ps k,rH ps<=k->(hV ps).length<=4000000->∀s∈ps,Gives (R (k+1) "leaves" [enc s] []) (.ao (bY (lv s)))
 | [],_,_,_,s,hs=>by cases hs
 | p::r,k,hd,hz,s,hs=>by
  simp only[rH]at hd;simp only[hV,bJ]at hz;rcases aV.mp hs with e | e
  ·rw[e];exact er.all A p k (by lia) (by lia)
  ·exact er.each A r k (by lia) (by lia) s e
end
end L2.U
namespace L2.U
open PySem L2
abbrev Rw:=List Int×Int×Int×Sh
noncomputable def qd(k a:Int)(r:Rw):Rw:=(k::r.1,a+r.2.1,r.2.2)
mutual
def tab:Sh->List Rw
 | .num=>[([],0,1,.num)]
 | .own=>[([],0,1,.own)]
 | .bI n=>[([],0,1,.bI n)]
 | .bB ps=>([],0,((hV ps).length:Int),.bB ps)::tabs 0 0 ps
def tabs:Nat->Int->List Sh->List Rw
 | _,_,[]=>[]
 | k,a,s::r=>(tab s).map (qd k a)++tabs (k+1) (a+((lv s).length:Int)) r
end
def sz(s:Sh):Int:=((lv s).length:Int)
def jg:List Sh->Nat
 | []=>0
 | s::l=>(tab s).length+jg l
def MP(h:jf s=true):tab s=[([],0,1,s)]:=by
 cases s with
 | bB _=>cases h
 | _=>rfl
def BI(s:Sh):∃R,tab s=(([],0,sz s,s):Rw)::R:=by
 cases s with
 | bB ps=>exact⟨tabs 0 0 ps,by simp only[tab,sz,lv]⟩
 | num=>exact⟨[],by simp[tab,sz,lv]⟩
 | own=>exact⟨[],by simp[tab,sz,lv]⟩
 | bI n=>exact⟨[],by simp[tab,sz,lv]⟩
theorem iz:∀(l:List Sh) (k:Nat) (a:Int),(tabs k a l).length=jg l
 | [],_,_=>rfl
 | s::l,k,a=>by simp[tabs,jg,iz l]
def G4(s:Sh):1<=(tab s).length:=by
 obtain⟨R,e⟩:=BI s;rw[e];simp
theorem BJ:∀l:List Sh,l.length<=jg l
 | []=>aq _
 | s::l=>by
  have:=G4 s;have:=BJ l;simp only[jg,aM]
  lia
mutual
theorem BL:∀s:Sh,(lv s).length<=(tab s).length
 | .num=>by simp[lv,tab]
 | .own=>by simp[lv,tab]
 | .bI n=>by simp[lv,tab]
 | .bB ps=>by
  have:=Fc ps;simp only[lv,tab,aM,iz]
  lia
theorem Fc:∀l:List Sh,(hV l).length<=jg l
 | []=>by simp[hV]
 | s::l=>by
  have:=BL s;have:=Fc l;simp only[hV,jg,bJ]
  lia
end
mutual
theorem Tf:∀s:Sh,dp s<=(tab s).length
 | .num=>by simp[dp]
 | .own=>by simp[dp]
 | .bI n=>by simp[dp]
 | .bB ps=>by
  have:=MQ ps;simp only[dp,tab,aM,iz]
  lia
theorem MQ:∀l:List Sh,rH l<=jg l
 | []=>by simp[rH]
 | s::l=>by
  have:=Tf s;have:=MQ l;simp only[rH,jg]
  lia
end
mutual
theorem G5:∀(s:Sh),∀r∈tab s,r.1.length<=dp s
 | .num,r,h=>by simp[tab]at h;subst h;simp
 | .own,r,h=>by simp[tab]at h;subst h;simp
 | .bI n,r,h=>by simp[tab]at h;subst h;simp
 | .bB ps,r,h=>by
  simp only[tab,aV]at h;rcases h with rfl | h
  ·simp
  ·simp only[dp];exact BM ps 0 0 r h
theorem BM:∀l k a,∀r∈tabs k a l,r.1.length<=rH l+1
 | [],_,_,r,h=>by simp[tabs]at h
 | s::l,k,a,r,h=>by
  simp only[tabs,bD,aA]at h;simp only[rH];rcases h with⟨r0,h0,rfl⟩ | h
  ·have:=G5 s r0 h0;simp only[qd,aM]
   lia
  ·have:=BM l _ _ r h
   lia
end
theorem BN:∀(l:List Sh) (s:Sh),s∈l->(tab s).length<=jg l
 | s::l,t,h=>by
  simp only[jg];rcases aV.mp h with rfl | h
  ·lia
  ·have:=BN l t h
   lia
def Je(h:s∈ps):(tab s).length<=(tab (.bB ps)).length:=by
 have:=BN ps s h;simp only[tab,aM,iz]
 lia
noncomputable def Th:Sh->Int->Option (Sh×Int)
 | .bB ps,k=>if 0<=k then(ps[k.toNat]?).map λs=>(s,((hV (ps.take k.toNat)).length:Int))else none
 | _,_=>none
def walk:Sh->Int->List Int->Option (Sh×Int)
 | s,a,[]=>some (s,a)
 | s,a,k::p=>(Th s k).bind λx=>walk x.1 (a+x.2) p
mutual
theorem BO:∀(s:Sh),∀r∈tab s,∀b,walk s b r.1=some (r.2.2.2,b+r.2.1)
 | .num,r,h,b=>by simp[tab]at h;subst h;simp[walk]
 | .own,r,h,b=>by simp[tab]at h;subst h;simp[walk]
 | .bI n,r,h,b=>by simp[tab]at h;subst h;simp[walk]
 | .bB ps,r,h,b=>by
  simp only[tab,aV]at h;rcases h with rfl | h
  ·simp[walk]
  ·exact wH ps [] r (by simpa[hV]using h) b
theorem wH:∀(Dk pre:List Sh),∀r∈tabs pre.length ((hV pre).length:Int) Dk,∀b,walk (.bB (pre++Dk)) b r.1=some (r.2.2.2,b+r.2.1)
 | [],pre,r,h,b=>by simp[tabs]at h
 | s::Dk,pre,r,h,b=>by
  simp only[tabs,bD,aA]at h;rcases h with⟨r0,h0,rfl⟩ | h
  ·have:=BO s r0 h0 (b+((hV pre).length:Int));simp only[qd,walk,Th];simp[this]
   lia
  ·have:=wH Dk (pre++[s]) r (by simpa[uj,hV]using h) b
   simpa using this
end
end L2.U
namespace L2.U
open PySem PySem.Spec PyProof.Rows
noncomputable def pj:bK->PV
 | .inl i=>.int i
 | .inr x=>.str x
def dv(ks:List bK):PV:=.ao (ks.map pj)
def wI:Nat:=3000000
abbrev iA:=List (List bK×Int)
noncomputable def Jf(ks:List (List bK))(k:List bK):Bool:=ks.any λj=>decide (j=k)
def fq(ag:iA)(c:Int)(f:List bK):iA:=if Jf (ag.map (·.1)) f=true then ag else ag++[(f,c)]
def dj(ag:iA)(c:Int):List (List bK)->iA
 | []=>ag
 | f::r=>dj (fq ag c f) c r
def px(ag:iA)(c:Int)(f:List bK):(fq ag c f).length<=ag.length+1:=by
 unfold fq;split
 ·lia
 ·grind
theorem pz(c:Int):∀(l:List (List bK)) (ag:iA),(dj ag c l).length<=ag.length+l.length
 | [],_=>aq _
 | g::l,ag=>by
  have h1:=pz c l (fq ag c g);have h2:=px ag c g;show(dj (fq ag c g) c l).length<=_;rw[aM]
  lia
def toldP(t:List bK×Int):PV:=.ao (t.1.map pj++[.int t.2])
def gY(out:List bK->Option (List (List bK))):Nat->Nat->iA->Option iA
 | 0,_,_=>none
 | n+1,k,ag=>match ag[k]? with
  | none=>some ag
  | some t=>(out t.1).bind λfs=>if ag.length+fs.length<gF then gY out n (k+1) (dj ag k fs)else none
theorem hZ [DecidableEq α]:∀(l U:List α),l.Nodup->(∀x∈l,x∈U)->l.length<=U.length
 | [],_,_,_=>dm _
 | x::l,U,hn,hs=>by
  rw[iW]at hn;have hx:=hs x bg;have h1:=hZ l (U.erase x) hn.2 λy hy=>(List.mem_erase_of_ne (λz=>hn.1 (by grind))).mpr (hs y (aU _ hy))
  have h2:=List.length_erase_of_mem hx;have h3:=List.length_pos_of_mem hx;rw[aM]
  lia
def BP:Jf ks k=true↔k∈ks:=by
 unfold Jf;simp only[List.any_eq_true,iU];exact⟨(by rintro⟨x,h,e⟩;exact e▸h),λh=>⟨k,h,rfl⟩⟩
theorem gA(c:Int):∀(fs:List (List bK)) (ag:iA),∃more:iA,dj ag c fs=ag++more/\(∀t∈more,t.2=c/\t.1∈fs)
 | [],ag=>⟨[],by rw[fA];rfl,λ_ z=>nomatch z⟩
 | f::fs,ag=>by
  obtain⟨more,h1,h2⟩:=gA c fs (fq ag c f);show ∃m,dj (fq ag c f) c fs=ag++m/\_
  by_cases h:Jf (ag.map (·.1)) f=true
  ·have e:fq ag c f=ag:=by unfold fq;rw[if_pos h]
   rw[e]at h1 ⊢;exact⟨more,h1,λt ht=>⟨(h2 t ht).1,aU _ (h2 t ht).2⟩⟩
  ·have e:fq ag c f=ag++[(f,c)]:=by unfold fq;rw[if_neg h]
   rw[e]at h1 ⊢;refine⟨(f,c)::more,by rw[h1];simp,λt ht=>?_⟩
   rcases aV.mp ht with rfl | ht
   ·grind
   ·grind
theorem uk(c:Int):∀(fs:List (List bK)) (ag:iA),(ag.map (·.1)).Nodup->((dj ag c fs).map (·.1)).Nodup
 | [],_,h=>h
 | f::fs,ag,h=>by
  refine uk c fs (fq ag c f) ?_;unfold fq;split
  ·exact h
  ·rename_i hm;rw[ck];refine xx.mpr ⟨h,by simp,λa ha b hb z=>?_⟩
   simp at hb;subst z;rw[hb]at ha;exact hm (BP.mpr ha)
theorem pC(c:Int):∀(fs:List (List bK)) (ag:iA),∀f∈fs,f∈(dj ag c fs).map (·.1)
 | [],_,_,h=>nomatch h
 | g::fs,ag,f,h=>by
  rcases aV.mp h with rfl | h
  ·obtain⟨more,h1,_⟩:=gA c fs (fq ag c f);show f∈(dj (fq ag c f) c fs).map (·.1);rw[h1,ck];refine gG _ ?_;unfold fq;split
   ·rename_i hm;exact BP.mp hm
   ·grind
  ·exact pC c fs (fq ag c g) f h
section
variable (out:List bK->Option (List (List bK))) (eu:List (List bK))
def Ti(ag:iA):Prop:=∀(i:Nat) (f:List bK) (c:Int),ag[i]?=some (f,c)->(c = -1/\f∈eu)\/∃(j:Nat) (g:List bK) (d:Int) (fs:List (List bK)),j<i/\c=(j:Int)/\ag[j]?=some (g,d)/\out g=some fs/\f∈fs
def Fd(ag:iA)(k:Nat):Prop:=∀(j:Nat) (g:List bK) (d:Int),j<k->ag[j]?=some (g,d)->∃fs,out g=some fs/\∀f∈fs,f∈ag.map (·.1)
def Jg:Ti out eu (dj [] (-1) eu):=by
 obtain⟨more,h1,h2⟩:=gA (-1) eu [];rw[fN]at h1;intro i f c e;rw[h1]at e;obtain⟨h3,h4⟩:=h2 _ (cB e);exact .inl ⟨h3,h4⟩
def MR{k:Nat}(h:Ti out eu ag)(hk:ag[k]?=some (g,d))(ho:out g=some fs):Ti out eu (dj ag (k:Int) fs):=by
 obtain⟨more,h1,h2⟩:=gA k fs ag;have fL:=(cz.mp hk).1;have old:∀{j:Nat} {x:List bK×Int},ag[j]?=some x->(ag++more)[j]?=some x:=λ{j x} e=>by
  rw[jD (cz.mp e).1];exact e
 intro i f c e;rw[h1]at e ⊢;by_cases hi:i<ag.length
 ·rw[jD hi]at e;rcases h i f c e with z | ⟨j,g',d',Uv,z1,z2,z3,z4,z5⟩
  ·exact .inl z
  ·exact .inr ⟨j,g',d',Uv,z1,z2,old z3,z4,z5⟩
 ·rw[rX (by lia)]at e
  obtain⟨h3,h4⟩:=h2 _ (cB e);exact .inr ⟨k,g,d,fs,by lia,h3,old hk,ho,h4⟩
def Jh(h:Fd out ag k)(hk:ag[k]?=some (g,d))(ho:out g=some fs):Fd out (dj ag (k:Int) fs) (k+1):=by
 obtain⟨more,h1,h2⟩:=gA k fs ag;have fL:=(cz.mp hk).1;intro j g' d' hj e;rw[h1]at e;rw[jD (bW ‹_› ‹_›)]at e;by_cases hjk:j=k
 ·subst hjk;rw[hk]at e;cases e;exact⟨fs,ho,pC j fs ag⟩
 ·obtain⟨Uv,z1,z2⟩:=h j g' d' (by lia) e
  refine⟨Uv,z1,λf hf=>?_⟩
  rw[h1,ck];exact gG _ (z2 f hf)
theorem qe(U:List (List bK))(B:Nat)(hB:U.length+B<gF)(hU:∀g∈U,∃fs,out g=some fs/\(∀f∈fs,f∈U)/\fs.length<=B):∀(n k:Nat) (ag:iA),U.length<n+k->k<=ag.length->(ag.map (·.1)).Nodup->(∀t∈ag,t.1∈U)->Ti out eu ag->Fd out ag k ->
  ∃res,gY out n k ag=some res/\(res.map (·.1)).Nodup/\(∀t∈res,t.1∈U)/\Ti out eu res/\Fd out res res.length/\∃more,res=ag++more
 | n,k,ag,hn,hk,nd,sub,why,done=>by
  have eF:ag.length<=U.length:=by
   have:=hZ (ag.map (·.1)) U nd λx hx=>by
    grind
   rwa [aD]at this
  cases n with
  | zero=>lia
  | succ n =>
   cases ht:ag[k]? with
   | none =>
    have hkl:ag.length<=k:=by grind
    refine⟨ag,?_,nd,sub,why,?_,[],by simp⟩
    ·show(match ag[k]? with | none=>some ag | some t=>_)=_
     rw[ht]
    ·grind
   | some t =>
    obtain⟨g,d⟩:=t;have hg:=sub (g,d) (cB ht);obtain⟨fs,h1,h2,h3⟩:=hU g hg;obtain⟨more,m1,m2⟩:=gA k fs ag;have fL:=(cz.mp ht).1;obtain⟨res,r1,r2,r3,r4,r5,Tj,r6⟩:=qe U B hB hU n (k+1) (dj ag k fs) (by lia) (by grind) (uk _ _ _ nd) (λt ht'=>by
     grind) (MR out eu why ht h1) (Jh out done ht h1)
    refine⟨res,?_,r2,r3,r4,r5,more++Tj,by grind⟩
    show(match ag[k]? with | none=>some ag | some t=>(out t.1).bind λfs=>if ag.length+fs.length<gF then gY out n (k+1) (dj ag k fs)else none)=_
    rw[ht];show((out g).bind λfs=>if ag.length+fs.length<gF then gY out n (k+1) (dj ag k fs)else none)=_
    rw[h1,dP,if_pos (by lia)]
    exact r1
def um(U:List (List bK))(B:Nat)(hB:U.length+B<gF)(hn:U.length<wI)(hU:∀g∈U,∃fs,out g=some fs/\(∀f∈fs,f∈U)/\fs.length<=B)(hf:∀f∈eu,f∈U) :
  ∃res,gY out wI 0 (dj [] (-1) eu)=some res/\(res.map (·.1)).Nodup/\(∀t∈res,t.1∈U)/\Ti out eu res/\Fd out res res.length/\∀f∈eu,f∈res.map (·.1):=by
 obtain⟨more,h1,h2⟩:=gA (-1) eu [];obtain⟨res,r1,r2,r3,r4,r5,Tj,r6⟩:=qe out eu U B hB hU wI 0 (dj [] (-1) eu) (eJ ‹_›) (dm _) (uk _ _ _ oG) (λt ht=>by
  grind) (Jg out eu) (λj g d hj=>absurd hj (DQ _))
 exact⟨res,r1,r2,r3,r4,r5,λf hff=>by rw[r6,ck];exact gG _ (pC _ _ _ f hff)⟩
end
def WY(k:bK):Ba (pj k)=some k:=by cases k<;>rfl
theorem MS:∀ks:List bK,cL Ba (ks.map pj)=some ks
 | []=>rfl
 | k::ks=>by simp only[aE,cL,WY,MS ks,dP,gH]
def G6(h:ks.length<1000):j0 true (dv ks)=some ks:=by
 show(if(ks.map pj).length<1000 then cL Ba (ks.map pj)else none)=_
 rw[aD,if_pos h,MS]
def MT(k:bK):noRef (pj k)=true:=by cases k<;>rfl
theorem G7:∀ks:List bK,ah (ks.map pj)=true
 | []=>rfl
 | k::ks=>by simp[ah,MT,G7 ks]
def Rh(ks:List bK):noRef (dv ks)=true:=by simp[dv,noRef,G7]
def hS(hd:List aB)(ag:iA):List aB:=hd++[⟨.lst,ag.map toldP⟩,⟨.gU true (ag.map (·.1)),ag.map λ_=>.bl true⟩]
section
variable {hd:List aB} {ag:iA}
def WZ:(hS hd ag)[hd.length]?=some ⟨.lst,ag.map toldP⟩:=by simp[hS]
def aa3:(hS hd ag)[hd.length+1]?=some ⟨.gU true (ag.map (·.1)),ag.map λ_=>.bl true⟩:=by simp[hS]
def Tn(h:j<hd.length):(hS hd ag)[j]?=hd[j]?:=by unfold hS;rw[jD h]
def aa4(a b c:aB):(hd++[a,b]).set (hd.length+1) c=hd++[a,c]:=by
 simp_all
def aa5(a b c:aB):(hd++[a,b]).set hd.length c=hd++[c,b]:=by
 grind
end
def nI:Gx eX :=
 (dF (toB (op2 (mK true) (rd 4) (rd 1)))
  (dW (QG (aN (.bl true)) (rd 1) (rd 4))
  (gQ (Dj "list" (mq (i8 Be)) (rd 0) (ak (op2 fD (rd 4) (mJ .ao (ak (rd 3) (aN [])))) (aN [])))))
  (aN .nx))
def wJ(hf:f.length<1000)(hl:ag.length<4000000) :
  Ev nI ⟨[some (.ref hd.length),some (.ref (hd.length+1)),x2,some (.int gZ),some (dv f)],hS hd ag⟩ .nx ⟨[some (.ref hd.length),some (.ref (hd.length+1)),x2,some (.int gZ),some (dv f)],hS hd (fq ag gZ f)⟩:=by
 have dr:cH (hS hd ag) (.ref (hd.length+1))=some (.gU true (ag.map (·.1)),ag.map λ_=>.bl true):=by
  show((hS hd ag)[hd.length+1]?).bind _=_;rw[aa3];rfl
 have t:mK true (hS hd ag) (dv f) (.ref (hd.length+1))=some (.bl (!Jf (ag.map (·.1)) f)):=by
  unfold mK;rw[dr];show(j0 true (dv f)).map _=_;rw[G6 hf];rfl
 unfold nI fq;cases hm:Jf (ag.map (·.1)) f with
 | true =>
  rw[hm]at t;rw[if_pos rfl];exact iF (bT (b2 rfl rfl t)) rfl
 | false =>
  rw[hm]at t;rw[if_neg dc];refine iT (bT (b2 rfl rfl t)) (sq (s1:=⟨[some (.ref hd.length),some (.ref (hd.length+1)),x2,some (.int gZ),some (dv f)],hd++[⟨.lst,ag.map toldP⟩,⟨.gU true (ag.map (·.1)++[f]),(ag.map λ_=>PV.bl true)++[.bl true]⟩]⟩) ?_ ?_)
  ·refine eB rfl (eB rfl (eB rfl ?_));show(IS (.ref (hd.length+1)) (dv f) (.bl true) _).map _=_;have c:yz (hS hd ag) (.ref (hd.length+1))=some (hd.length+1,⟨.gU true (ag.map (·.1)),ag.map λ_=>.bl true⟩):=by
    show((hS hd ag)[hd.length+1]?).bind _=_;rw[aa3];rfl
   unfold IS;rw[c];show((j0 true (dv f)).bind _).map _=_;rw[G6 hf];show Option.map _ (if(ag.map (λt:List bK×Int=>t.1)).length<gF then _ else _)=_
   rw[if_pos (show(ag.map (·.1)).length<gF by rw[aD];have:gF=4000000:=rfl;lia)]
   unfold qI;rw[show ll f (ag.map (·.1))=false from hm,if_neg dc]
   show some (Rs.ok eX.nx,dq.mk _ ((hd++_).set (hd.length+1) _))=_;rw[aa4]
  ·have ad:∀h,fD h (dv f) (.ao [.int gZ])=some (toldP (f,gZ)):=λh=>by
    have e:fD h (dv f) (.ao [.int gZ])=sizeOk ((f.map pj).length+1) (toldP (f,gZ)):=rfl;rw[e,aD];exact if_pos (show f.length+1<=gF by have:gF=4000000:=rfl;lia)
   have hT:(hd++[⟨.lst,ag.map toldP⟩,⟨.gU true (ag.map (·.1)++[f]),(ag.map λ_=>PV.bl true)++[.bl true]⟩]:List aB)[hd.length]?=some ⟨.lst,ag.map toldP⟩:=by simp
   refine dS (p:=.b9) (yZ rfl hT (cA (b2 rfl (tU (cA rfl rfl) (by simp)) (ad _)) rfl) ((aC hT (by rw[aD];lia)).trans ?_))
   rw[aa5];simp[hS]
theorem wK:∀(fs:List (List bK)) (ag:iA) (o:Option PV),(∀f∈fs,f.length<1000)->ag.length+fs.length<4000000 ->
  ∃o',fW (aX 4) nI (fs.map dv) ⟨[some (.ref hd.length),some (.ref (hd.length+1)),x2,some (.int gZ),o],hS hd ag⟩=some (.ok .nx,⟨[some (.ref hd.length),some (.ref (hd.length+1)),x2,some (.int gZ),o'],hS hd (dj ag gZ fs)⟩)
 | [],ag,o,_,_=>⟨o,rfl⟩
 | f::fs,ag,o,hf,hl=>by
  simp only[aM]at hl;have h2:=px ag gZ f;obtain⟨o',ih⟩:=wK fs (fq ag gZ f) (some (dv f)) (λg hg=>hf g (aU _ hg)) (by lia)
  exact⟨o',fC rfl (wJ (hf f bg) (by lia)) ih⟩
def BQ:Gx eX:=Bk (iu (rd 2)) (aX 4) nI
def aa6(c:CT)(ω:PV->Gx PV)(n:Nat):Gx eX :=
 (dW (gQ (bnd (ak (rd 2) (ak (rd 3) (ak (Mg 1 n ω (cutE (op2 aZ (rd 2) (rd 4)) (aN none) (m9 (A9 (aN (.int 1)))))) (ak (rd 4) (aN []))))) (bF 0 4 (c "tell_new"))))
  (c6 (op2 Ra (rd 4) (aN (.int 1))) (aX 4)))
def W0(c:CT)(ω:PV->Gx PV)(n:Nat):Gx eX :=
 (dW (c6 (yq (aN [])) (aX 2))
  (dW (c6 (Mb true) (aX 3))
  (dW (gQ (bnd (ak (rd 2) (ak (rd 3) (ak (rd 0) (ak (A9 (aN (.int 1))) (aN []))))) (bF 0 4 (c "tell_new"))))
  (dW (c6 (aN (.int 0)) (aX 4))
  (dW (jP (toB (op2 Et (rd 4) (fX fB (ak (rd 2) (aN []))))) (aa6 c ω n) WHL)
  (retS (rd 2)))))))
def BR(hf:∀f∈fs,f.length<1000)(hl:ag.length+fs.length<4000000) :
  du BQ 5 [.ref hd.length,.ref (hd.length+1),.lst (fs.map dv),.int gZ] (hS hd ag)=some (.ok .b9,hS hd (dj ag gZ fs)):=by
 obtain⟨o',e⟩:=wK fs ag none hf hl;exact Rg (fS (sV rfl rfl) e)
theorem uo{all:List (List bK)}(hj:hd[j]?=some ⟨.lst,all.map dv⟩):∀(fs:List (List bK)) (i jR:Nat) (ag:iA) (o:Option PV),all.drop i=fs->(∀f∈fs,f.length<1000)->ag.length+fs.length<4000000->fs.length<jR ->
  ∃o',Bj (aX 4) nI j jR i ⟨[some (.ref hd.length),some (.ref (hd.length+1)),x2,some (.int gZ),o],hS hd ag⟩=some (.ok .nx,⟨[some (.ref hd.length),some (.ref (hd.length+1)),x2,some (.int gZ),o'],hS hd (dj ag gZ fs)⟩)
 | fs,i,0,ag,o,_,_,_,h=>by lia
 | fs,i,jR+1,ag,o,As,hf,hl,hfu=>by
  have fL:=(cz.mp hj).1;have nx:GG j (hS hd ag) i=some ((all.map dv)[i]?):=by
   unfold GG;have:cH (hS hd ag) (.ref j)=some (.lst,all.map dv):=by
    show((hS hd ag)[j]?).bind _=_;rw[Tn fL,hj];rfl
   rw[this]
  have st:Bj (aX 4) nI j (jR+1) i ⟨[some (.ref hd.length),some (.ref (hd.length+1)),x2,some (.int gZ),o],hS hd ag⟩=(match GG j (hS hd ag) i with
   | some (some p)=>bnd (stp (aX 4 p)) (λ_=>bnd nI (wb (Bj (aX 4) nI j jR (i+1)))) ⟨[some (.ref hd.length),some (.ref (hd.length+1)),x2,some (.int gZ),o],hS hd ag⟩
   | some none=>some (.ok .nx,⟨[some (.ref hd.length),some (.ref (hd.length+1)),x2,some (.int gZ),o],hS hd ag⟩)
   | none=>none):=rfl
  rw[st,nx,bZ];cases fs with
  | nil =>
   have:=List.drop_eq_nil_iff.mp As;rw[ou this];exact⟨o,rfl⟩
  | cons f fs =>
   have hi:i<all.length:=by
    rcases Nat.lt_or_ge i all.length with h | h
    ·exact h
    ·rw[List.drop_eq_nil_of_le h]at As;cases As
   rw[rZ hi]at As;injection As with e1 e2
   simp only[aM]at hl hfu;have h2:=px ag gZ f;obtain⟨o',ih⟩:=uo hj fs (i+1) jR (fq ag gZ f) (some (dv f)) e2 (λg hg=>hf g (aU _ hg)) (by lia) (by lia)
   refine⟨o',?_⟩;rw[bU hi,e1];exact eB rfl (eB (wJ (hf f bg) (by lia)) ih)
def Ji(hj:hd[j]?=some ⟨.lst,fs.map dv⟩)(hf:∀f∈fs,f.length<1000)(hl:ag.length+fs.length<4000000) :
  du BQ 5 [.ref hd.length,.ref (hd.length+1),.ref j,.int gZ] (hS hd ag)=some (.ok .b9,hS hd (dj ag gZ fs)):=by
 obtain⟨o',e⟩:=uo hj fs 0 gF ag none rfl hf hl (by have:gF=4000000:=rfl;lia)
 have fL:=(cz.mp hj).1;refine Rg (eB (eB rfl ?_) (show Z7 (aX 4) nI (EE.cl j) _=_ from e))
 have:cH (hS hd ag) (.ref j)=some (.lst,fs.map dv):=by
  show((hS hd ag)[j]?).bind _=_;rw[Tn fL,hj];rfl
 unfold L4;show Option.map _ (match cH (hS hd ag) (.ref j)with | some (.lst,_)=>some (EE.cl j) | _=>none)=_
 rw[this];rfl
def W2(e:cH h (.ref n)=some (.lst,ps)):aZ h (.ref n) (.int i)=L2.mh ps i:=by
 unfold aZ;simp only[e];rfl
def MU(ps:List PV)(p:PV):lj (ps++[p]) none (some (-1))=ps:=by
 unfold lj;have e:HT.eZ (ps++[p]).length (ps++[p]).length (some (-1))=ps.length:=by
  simp[HT.eZ]
  lia
 rw[HT.AG,e,xK,Nat.sub_zero];simp
def cE'(h1:Ev fa s p s1)(h2:Ev fl s1 l s2)(h3:Ev fh s2 h s3)(h4:LH s3.h l h p=some q):Ev (cutE fa fl fh) s q s3:=eB h1 (eB h2 (eB h3 (by show(LH s3.h l h p).map _=_;rw[h4];rfl)))
section
variable {c:CT} {hd:List aB} {out:List bK->Option (List (List bK))} {ω:PV->Gx PV} {n:Nat} (hc:c "tell_new"=du BQ 5)
  (hω:∀g fs,out g=some fs->(∀f∈fs,f.length<1000)/\∀ag ρ,ω (dv g) ⟨ρ,hS hd ag⟩=some (.ok (.lst (fs.map dv)),⟨ρ,hS hd ag⟩))
include hc hω
theorem BS(p:Option PV):∀(N k jR:Nat) (ag res:iA),gY out N k ag=some res->N<=jR->ag.length<4000000 ->
  ∃k',jP (toB (op2 Et (rd 4) (fX fB (ak (rd 2) (aN []))))) (aa6 c ω n) jR ⟨[p,some (.ref n),some (.ref hd.length),some (.ref (hd.length+1)),some (.int (k:Int))],hS hd ag⟩=some (.ok .nx,⟨[p,some (.ref n),some (.ref hd.length),some (.ref (hd.length+1)),k'],hS hd res⟩)
 | 0,_,_,_,_,h,_,_=>by cases h
 | N+1,k,jR,ag,res,h,hf,hl=>by
  obtain⟨jR,rfl⟩:∃f,jR=f+1:=⟨jR-1,by lia⟩
  have dT:cH (hS hd ag) (.ref hd.length)=some (.lst,ag.map toldP):=by
   show((hS hd ag)[hd.length]?).bind _=_;rw[WZ];rfl
  have t:Ek (toB (op2 Et (rd 4) (fX fB (ak (rd 2) (aN []))))) ⟨[p,some (.ref n),some (.ref hd.length),some (.ref (hd.length+1)),some (.int k)],hS hd ag⟩ (decide (k<(ag.length:Int))):=bT (b2 rfl (bV (cA rfl rfl) (by
   have e:ZT (hS hd ag) (.ref hd.length)=some ag.length:=by
    unfold ZT;rw[dT];show some (ag.map toldP).length=_;rw[aD]
   show Option.map _ (Option.bind (ZT (hS hd ag) (.ref hd.length)) _)=_;rw[e];rfl)) rfl)
  have h:(match ag[k]? with | none=>some ag | some t=>(out t.1).bind λfs=>if ag.length+fs.length<gF then gY out N (k+1) (dj ag k fs)else none)=some res:=h
  cases hk:ag[k]? with
  | none =>
   rw[hk]at h;cases h;have hkl:=oo.mp hk;rw[iV (by lia)]at t
   exact⟨_,eB t rfl⟩
  | some tt =>
   obtain⟨g,d⟩:=tt;rw[hk]at h;obtain⟨fs,h1,h⟩:=bf h;obtain⟨h2,h⟩:=bR h;have h2:ag.length+fs.length<4000000:=h2;obtain⟨hs,hw⟩:=hω g fs h1;have fL:=(cz.mp hk).1;have tl:=pz k fs ag;obtain⟨k',ih⟩:=BS p N (k+1) jR (dj ag k fs) res h (by lia) (iQ ‹_› ‹_›)
   refine⟨k',?_⟩;rw[bX (by lia)]at t
   have ct:LH (hS hd ag) none (some (-1)) (toldP (g,d))=some (dv g):=by
    show some (PV.ao (lj (g.map pj++[.int d]) none (some (-1))))=_;rw[MU];rfl
   refine eB t ?_;refine eB (sq (dS (clG (cA rfl (cA rfl (cA (eB rfl (eB (show Option.map _ (if n=n then some ()else none)=_ by rw[if_pos rfl];rfl) (eB (cE' (b2 rfl rfl (by
    rw[W2 dT];exact atI_nat (by grind))) rfl rfl ct) (hw ag _)))) (cA rfl rfl)))) rfl (by
    have:(hS hd ag).isEmpty=false:=by simp[hS]
    rw[this];rfl) (by rw[hc];exact BR hs h2))) (aS (b2 rfl rfl rfl) rfl)) ih
def Ri(hp:p=.lst (fk.map dv)\/∃j,p=.ref j/\hd[j]?=some ⟨.lst,fk.map dv⟩)(hk:∀f∈fk,f.length<1000)(hl:fk.length<4000000)(hs:gY out wI 0 (dj [] (-1) fk)=some res) :
  du (W0 c ω n) 5 [p,.ref n] hd=some (.ok (.ref hd.length),hS hd res):=by
 have tl:=pz (-1) fk [];simp only[sH,dy]at tl;obtain⟨k',e⟩:=BS hc hω (some p) wI 0 WHL (dj [] (-1) fk) res hs (by decide) (iQ ‹_› ‹_›)
 have h0:hS hd []=(hd++[⟨.lst,[]⟩])++[⟨.gU true [],[]⟩]:=by simp[hS]
 have a1:Ev (c6 (yq (aN [])) (aX 2)) ⟨[some p,some (.ref n),none,none,none],hd⟩ .nx ⟨[some p,some (.ref n),some (.ref hd.length),none,none],hd++[⟨.lst,[]⟩]⟩:=rfl;have run:c "tell_new" [.ref hd.length,.ref (hd.length+1),p,.int (-1)] (hS hd [])=some (.ok .b9,hS hd (dj [] (-1) fk)):=by
  rw[hc];rcases hp with rfl | ⟨j,rfl,hj⟩
  ·exact BR hk (by grind)
  ·exact Ji hj hk (by grind)
 have a3:Ev (gQ (bnd (ak (rd 2) (ak (rd 3) (ak (rd 0) (ak (A9 (aN (.int 1))) (aN []))))) (bF 0 4 (c "tell_new")))) ⟨[some p,some (.ref n),some (.ref hd.length),some (.ref (hd.length+1)),none],hS hd []⟩ .nx ⟨[some p,some (.ref n),some (.ref hd.length),some (.ref (hd.length+1)),none],hS hd (dj [] (-1) fk)⟩ :=
  dS (clG (s1:=⟨[some p,some (.ref n),some (.ref hd.length),some (.ref (hd.length+1)),none],hS hd []⟩) (cA rfl (cA rfl (cA rfl (cA rfl rfl)))) rfl (by
   have:(hS hd []).isEmpty=false:=by simp[hS]
   rw[this];rfl) run)
 exact j6 (sq a1 (sq (by
  rw[h0,<-show(hd++[(⟨.lst,[]⟩:aB)]).length=hd.length+1 by simp]
  rfl) (sq a3 (sq rfl (sq e (rS rfl))))))
end
end L2.U
namespace cX
open PySem L2 L2.U
abbrev nJ:Stmt:=top 16
abbrev aa7:Stmt:=top 90
abbrev kI (n : Int) : Gx PV := aN (.int n)
abbrev kS (s : Str) : Gx PV := aN (.str s)
abbrev Q0 := ak (rd 1) (aN [])
abbrev Q1 := dM (aX 2) (dM (aX 3) tP)
abbrev Q2 := ak (rd 2) (aN [])
abbrev Q3 := op2 aZ (rd 1) (kI 1)
abbrev Q4 := op2 aZ (rd 1) (kI 0)
abbrev Q5 := dM (aX 4) (dM (aX 5) tP)
abbrev Q6 := dF (toB (op2 jv (rd 2) (op2 aZ (rd 4) (kI 1)))) (dF (gi (rd 3)) (aN true) (toB (op2 jv (rd 5) (kS "lend")))) (aN false)
abbrev Q7 := op2 aZ (rd 2) (kI 2)
abbrev Q8 := yI "listed" (rd 0)
abbrev Q9 := orG (rd 6) (mJ .lst (ak (aN (.ao [(.str "rest"),(.str ""),(.bl false),(.int 0),(.int 0),(.str "")])) (aN [])))
abbrev Qa := dM (aX 4) (dM (aX 5) (dM (aX 6) tP))
abbrev Qb := op2 aZ (rd 2) (kI 1)
abbrev Qc := ak (kS "sole") (aN [])
abbrev Qd := di false [none,none] (iu (op2 aZ (rd 1) (op2 aZ (rd 0) (kI 0)))) (lq (aX 1) (mJ .ao Q0))
abbrev Qe := gW 2 (dM (aX 1) (dM (aX 2) tP))
abbrev Qf := di false [none,none,some 1] (iu (rd 0)) (nk (aX 1) (toB (op2 jv Q4 Q7)) (rd 1))
abbrev Qg := dM (aX 4) (dM (aX 5) (dM (aX 6) (dM (aX 7) (dM (aX 8) tP))))
abbrev Qh := op2 aZ (rd 9) (kI 5)
abbrev Qi := dF (toB (op2 jv (op2 aZ (rd 2) (kI 0)) (kS "strip"))) (gi (rd 3)) (aN false)
abbrev Qj := toB (op2 (mK false) (op2 aZ Q3 (kI 0)) (mJ .ao (ak (kS "lent") Qc)))
abbrev Qk := op2 aZ (rd 5) (kI 0)
abbrev Ql := op2 aZ (rd 0) (rd 1)
abbrev Qm := ak (rd 0) (aN [])
abbrev Qn := ak (rd 3) (aN [])
abbrev Qo := ak (rd 0) Q0
abbrev Qp := dF (toB (op2 jv (rd 2) (rd 4))) (gi (rd 3)) (aN false)
abbrev Qq := toB (op2 Et (op2 fD (rd 4) (kI 1)) (fX fB Q2))
abbrev Qr := gW 3 (dM (aX 1) Q1)
abbrev Qs := ak (mJ .ao (ak (kI 0) (aN []))) (aN [])
abbrev Qt := toB (op2 jv Q3 (kS ""))
abbrev Qu := A9 (kI 1)
abbrev Qv := op2 aZ (rd 1) (kI 3)
abbrev Qw := op2 aZ (rd 3) (kI 1)
abbrev Qx := ak (rd 6) (aN [])
abbrev Qy := op2 aZ (rd 2) (kI 6)
abbrev Qz := ak (kS "lend") Qc
abbrev QA := ak (op2 aZ (rd 11) (kI 1)) (aN [])
abbrev QB := cutE (rd 0) (aN none) (m9 (kI 5))
abbrev QC := fX fB (ak (rd 7) (aN []))
abbrev QD := ak (rd 0) (ak Q3 (aN []))
def W3:List (Str×Nat):=txt.defs.map λd=>(d.1,(params d.2).length)
def Rj:List Str:=["Course"]
abbrev Rn(x:Str)(F:CT->Gx eX)(n:Nat):Prop:=∀k,run txt (k+1) x=du (F (run txt k)) n
open Lean Meta in
dsimproc_decl pqF (Str.mk _):=λe=>do
 let .app _ (.app _ l):=e | return .continue
 let some l <-getListLit? l | return .continue
 return .done (mkApp (mkConst ``Str.ofString) (toExpr (String.ofList (l.toList.map λx=>Char.ofNat (x.nat?.getD 0)))))
open Lean in
dsimproc_decl pqI (Int.ofNat _):=λe=>do
 let .app _ n:=e | return .continue
 let some n:=n.nat? | return .continue
 return .done (toExpr (n:Int))
def gh(x:Str)(i n k:Nat){f:CT->Gx eX}(h:∀k,run txt (k+1) x=du (Oa txt x (top i) (run txt k)) n:=by intro _;kernel_rfl)(e:∀c,Oa txt x (top i) c=f c:=by intro c;conv=>(lhs;reduce;simp only[pqF,pqI])):run txt (k+1) x=du (f (run txt k)) n:=by rw[h,e]
noncomputable def lbP(s:List Stmt):List Nat->List Stmt
 | []=>s
 | i::r=>lbP (match s[i]? with | some (.For _ _ b _ _) | some (.If _ b _ _)=>b | _=>[]) r
def za(x:Str)(i:Nat)(p:List Nat)(c:CT):Gx eX:=lJ E6 (WN txt x (top i) (WM txt) (Rf txt c) (WQ txt x c) none c) (lbP (dk (top i)) p)
abbrev rK(a:Gx eX){f:Gx eX}(_:a=f:=by conv=>(lhs;reduce;simp only[pqF,pqI])):Gx eX:=f
section
seal dW EI op2 aZ rd bnd ak aN bF di iu lq nk aX gQ Dj yB dF toB A6 retS mJ c6 yq Bk fX Ir cy oV chain VH Et fB Ra Iw cutE m9 mK jv fD gW dM tP gi Mb A9 jP QG mq i8 Be Mr Bp Mc orG L3 wt IG GV IV lrg Io QR isV X9 Iv mkP Rf yI ED Bi VG VI gM vn Iu ju Pw PN LN Vu G0 Mg du WO
def BU(c:CT):Gx eX :=
 (dW (EI Rj txt.flds "function" (op2 aZ (rd 1) (rd 2)) (rd 0))
  (dW (EI Rj txt.flds "listed" (bnd (ak (rd 1) Q2) (bF 0 2 (c "acts"))) (rd 0))
  (dW (EI Rj txt.flds "follow" (bnd (ak (rd 1) Q2) (bF 0 2 (c "nexts"))) (rd 0))
  (EI Rj txt.flds "sources" (di false [none,none,some 1] (iu (op2 aZ (op2 aZ (rd 1) (rd 2)) (kI 4))) (lq (aX 1) (bnd (ak (rd 2) Q0) (bF 0 2 (c "source_holders"))))) (rd 0)))))
def Jj(c:CT):Rf txt c "Course"=du (BU c) 3:=by kernel_rfl
def Fe(k:Nat):=gh "leaves" 5 3 k
def uq(k:Nat):=gh "check_part" 6 2 k
noncomputable def MV(c:CT):=rK (za "part" 7 [1] c)
def MW(k:Nat):=gh "part" 7 4 k
noncomputable def Jk(c:CT):=rK (za "first" 8 [2] c)
def Jl(k:Nat):=gh "first" 8 5 k
def vy(k:Nat):=gh "is_copied" 9 1 k
noncomputable def BV(c:CT):=rK (za "kind_of" 12 [0] c)
def BW(k:Nat):=gh "kind_of" 12 4 k
def lK(k:Nat):=gh "is_holder" 13 1 k
def zb(k:Nat):=gh "shape_of" 14 1 k
def zc(k:Nat):=gh "tell_new" 17 5 k
noncomputable def qf(c:CT):=rK (Oa txt "row_nexts" (top 29) c)
def vz:Rn "row_nexts" qf 3:=λ_=>by kernel_rfl
noncomputable def uu(c:CT):Gx eX :=
 (dW (c6 (Bp W3 c (Mc (λk=>(List.lookup k jK).map .fn) Qk) (ak (rd 2) (ak (rd 5) (aN [])))) (aX 6))
  (gQ (Dj "list" yB (rd 3) (ak (di false [none,none,some 4] (iu Q9) (lq (aX 1) (op2 fD (mJ .ao Q2) (rd 1)))) (aN [])))))
noncomputable def W4(c:CT):Gx eX :=
 (dW (c6 Ql (aX 2))
  (dW (c6 (yq (aN [])) (aX 3))
  (dW (Bk (L3 (wt (op2 aZ (rd 2) (kI 4)))) (gW 2 Q5) (uu c))
  (retS (rd 3)))))
def MX:Rn "acts" W4 7:=λ_=>by kernel_rfl
noncomputable def wL(c:CT):=rK (za "nexts" 31 [2] c)
noncomputable def pE(c:CT):=rK (za "nexts" 31 [4] c)
def Jm(k:Nat):=gh "nexts" 31 7 k
def BX(k:Nat):=gh "come_to" 32 2 k
noncomputable def Ff(c:CT):Gx eX :=
 (retS (IV (λω n=>du (WO txt nJ c ω n) 5) (mJ .lst Qs) Qd [some 0]))
theorem zf:Rn "arrivals" Ff 1:=λ_=>by kernel_rfl
def BY(k:Nat):=gh "touched" 34 1 k
def BZ(k:Nat):=gh "touches" 35 3 k
def uv(k:Nat):=gh "is_lending" 36 1 k
def uw(k:Nat):=gh "is_of_call" 37 1 k
def Jn(k:Nat):=gh "touch" 38 6 k
def qQ(k:Nat):=gh "touch_whole" 39 4 k
def B0(k:Nat):=gh "at_acts" 40 2 k
def pF(k:Nat):=gh "operand_acts" 41 2 k
noncomputable def lL(c:CT):=rK (Oa txt "target_acts" (top 42) c)
def qR:Rn "target_acts" lL 2:=λ_=>by kernel_rfl
def zg(k:Nat):=gh "put_acts" 43 2 k
def zh(k:Nat):=gh "set_acts" 44 2 k
def vA(k:Nat):=gh "copy_acts" 45 2 k
def vD(k:Nat):=gh "move_acts" 46 2 k
def vE(k:Nat):=gh "lend_acts" 48 2 k
def vF(k:Nat):=gh "call_acts" 49 3 k
def B2(k:Nat):=gh "arg_act" 50 4 k
def vG(k:Nat):=gh "owner_act" 51 2 k
def B3(k:Nat):=gh "if_acts" 52 2 k
def B4(k:Nat):=gh "go_acts" 53 2 k
def zi(k:Nat):=gh "say_acts" 54 2 k
def lM(k:Nat):=gh "give_acts" 55 2 k
noncomputable def B5(c:CT):=rK (za "held" 58 [2] c)
noncomputable def W5(c:CT):Gx eX :=
 (dW (c6 (mkP "Course" 3 (Rf txt c "Course") Qo) (aX 4))
  (dW (c6 (bnd (ak Ql (aN [])) (bF 1 1 (c "held_at_first"))) (aX 2))
  (dW (Bk (iu (bnd Qo (bF 0 2 (c "come_to")))) (aX 3) (B5 c))
  (retS (IV (λω n=>du (WO txt nJ c ω n) 5) (rd 2) (bnd (ak (rd 1) Qm) (bF 0 2 (c "held_behind"))) [some 4])))))
theorem MY:Rn "held" W5 5:=λ_=>by kernel_rfl
noncomputable def jA(c:CT):=rK (Oa txt "source_holders" (top 60) c)
def mz:Rn "source_holders" jA 3:=λ_=>by kernel_rfl
def lu(k:Nat):=gh "count_leaves_of" 61 2 k
noncomputable def iM(c:CT):=rK (za "held_at_first" 62 [1] c)
def nK(k:Nat):=gh "held_at_first" 62 5 k
noncomputable def uz(c:CT):=rK (za "newly_lent" 63 [3] c)
def uA(k:Nat):=gh "newly_lent" 63 5 k
def uB(k:Nat):=gh "is_through" 64 3 k
noncomputable def qS(c:CT):=rK (za "held_behind" 65 [5] c)
def qT(k:Nat):=gh "held_behind" 65 7 k
def vH(k:Nat):=gh "passed_on" 66 3 k
def pG(k:Nat):=gh "leaves_given" 67 3 k
def zj(k:Nat):=gh "_law_cell_at" 69 2 k
def Fg(k:Nat):=gh "_law_mixed" 70 4 k
noncomputable def uC(c:CT):=rK (za "_law_names" 71 [5,1] c)
noncomputable def uD(c:CT):=rK (za "_law_names" 71 [5] c)
def Fh(k:Nat):=gh "_law_names" 71 10 k
def Fi(k:Nat):=gh "_law_shape" 72 4 k
noncomputable def qg(c:CT):=rK (za "_law_leaves" 73 [2] c)
def qh(k:Nat):=gh "_law_leaves" 73 3 k
noncomputable def Fj(c:CT):=rK (za "_law_parts" 74 [1,0] c)
def uE(k:Nat):=gh "_law_parts" 74 4 k
noncomputable def Jo(c:CT):=rK (za "_law_lets" 75 [3] c)
def Jp(k:Nat):=gh "_law_lets" 75 8 k
noncomputable def Fl(c:CT):=rK (za "_law_spots" 76 [1,3] c)
noncomputable def Fm(c:CT):=rK (za "_law_spots" 76 [1] c)
def Fo(k:Nat):=gh "_law_spots" 76 8 k
noncomputable def nL(c:CT):=rK (za "_law_numbers" 77 [1] c)
def zm(k:Nat):=gh "_law_numbers" 77 7 k
def zq(k:Nat):=gh "_law_operand" 78 3 k
def zu(k:Nat):=gh "_law_carried" 79 9 k
def zw(k:Nat):=gh "_law_lending" 80 9 k
def Jq(k:Nat):=gh "_law_call" 81 10 k
def uF(k:Nat):=gh "_law_small_row" 82 6 k
def MZ(k:Nat):=gh "_law_row" 83 14 k
noncomputable def uG(c:CT):=rK (Oa txt "_law_program" (top 84) c)
def zA:Rn "_law_program" uG 24:=λ_=>by kernel_rfl
def Fp(k:Nat):=gh "_law_whole" 85 1 k
def zB(k:Nat):=gh "_law_sources" 86 3 k
def j4(k:Nat):=gh "_law_of_a_param" 87 9 k
def nM(k:Nat):=gh "_law_of_a_lending" 88 10 k
noncomputable def B6(c:CT):=rK (Oa txt "_law_comes" (top 89) c)
def Fq:Rn "_law_comes" B6 12:=λ_=>by kernel_rfl
noncomputable def G8(c:CT):=rK (za "law" 90 [5] c)
noncomputable def zC(c:CT):=rK (za "law" 90 [7] c)
def Rl(k:Nat):=gh "law" 90 11 k
noncomputable def B7(c:CT)(ω:PV->Gx PV)(n:Nat):Gx eX :=
 (dW (gQ (bnd (ak (rd 2) (ak (rd 3) (ak (Mg 1 n ω (cutE (op2 aZ (rd 2) (rd 4)) (aN none) (m9 Qu))) (ak (rd 4) (aN []))))) (bF 0 4 (c "tell_new"))))
  (c6 (op2 Ra (rd 4) (kI 1)) (aX 4)))
noncomputable def Jr(c:CT)(ω:PV->Gx PV)(n:Nat):Gx eX :=
 (dW (c6 (yq (aN [])) (aX 2))
  (dW (c6 (Mb true) (aX 3))
  (dW (gQ (bnd (ak (rd 2) (ak (rd 3) (ak (rd 0) (ak Qu (aN []))))) (bF 0 4 (c "tell_new"))))
  (dW (c6 (kI 0) (aX 4))
  (dW (jP (toB (op2 Et (rd 4) (fX fB Q2))) (B7 c ω n) WHL)
  (retS (rd 2)))))))
def Fs(c:CT)(ω:PV->Gx PV)(n:Nat):WO txt nJ c ω n=Jr c ω n:=by kernel_rfl
end
abbrev S0(l:List (Option PV)):dq:=⟨l,[]⟩
section
variable {s s1:dq} {ts:Gx (List PV)} {as:List PV} {q:PV}
def cx(ha:Ev ts s as s1)(hl:as.length=n)(hn:(s1.h.isEmpty || ah as)=true)(hc:Gives (g as []) q):Ev (bnd ts (bF 0 n g)) s q s1:=let ⟨_,_,h1,h2⟩:=hc;clV ha hl hn h1 h2
def gV(e:f ⟨gz n as,[]⟩=some (.ok (.rt p),⟨J4,h'⟩))(hp:noRef p=true):Gives (du f n as []) p:=⟨p,h',j6 e,y8 hp⟩
def gN(e:f ⟨gz n as,[]⟩=some (.ok .nx,⟨J4,h'⟩)):Gives (du f n as []) .b9:=⟨.b9,h',Rg e,y8 rfl⟩
end
def dI(h:List aB)(a b:Str):jv h (.str a) (.str b)=some (.bl (a==b)):=rfl
def Yj:Sh->Str
 | .num=>"num"
 | .own=>"own"
 | .bI _=>"strip"
 | .bB _=>"rec"
def qi(h:List aB)(s:Sh):aZ h (enc s) (.int 0)=some (.str (Yj s)):=by cases s<;>rfl
inductive Kn where
 | ow (s:Sh) | ho (ai0:Bool) (s:Sh)
noncomputable def hw(b:Bool):Str:=if b then "sole" else "lent"
def encK:Kn->PV
 | .ow s=>enc s
 | .ho b s=>.ao [.str (hw b),enc s]
def bN:Kn->Sh
 | .ow s=>s
 | .ho _ s=>s
noncomputable def jh:Kn->Bool
 | .ow _=>false
 | .ho _ _=>true
def rL(d:Kn):noRef (encK d)=true:=by
 cases d with
 | ow s=>exact dH s
 | ho b s=>simp[encK,noRef,ah,dH]
def Rm(d:Kn):((aZ [] (encK d) (.int 0)).bind λw=>mK false [] w (.ao [.str "lent",.str "sole"]))=some (.bl (jh d)):=by
 cases d with
 | ow s=>cases s<;>kernel_rfl
 | ho b s=>cases b<;>kernel_rfl
def ez(k:Nat)(d:Kn):Gives (run txt (k+1) "is_holder" [encK d] []) (.bl (jh d)):=by
 rw[lK];obtain⟨w,h1,h2⟩:=r9.mp (Rm d);exact gV (rS (b2 (b2 rfl rfl h1) rfl h2)) rfl
def uH(k:Nat)(d:Kn):Gives (run txt (k+2) "shape_of" [encK d] []) (enc (bN d)):=by
 rw[zb];have h:=ez k d;refine gV (J4:=[some (encK d)]) (h':=[]) (rS (eI (tR (cx (cA rfl rfl) rfl rfl h) rfl) ?_)) (dH _);cases d with
 | ow s=>rfl
 | ho b s=>rfl
abbrev Rk:=Str×Kn
def aK(r:Rk):PV:=.ao [.str r.1,encK r.2]
def lN:List Rk->Str->Option Kn
 | [],_=>none
 | r::l,x=>if r.1=x then some r.2 else lN l x
theorem kZ:∀(l:List Rk) (r:Rk),(l.map (·.1)).Nodup->r∈l->lN l r.1=some r.2
 | s::l,r,hn,h=>by
  rw[aE,iW]at hn;rcases aV.mp h with rfl | h
  ·rw[lN,if_pos rfl]
  ·rw[lN,if_neg,kZ l r hn.2 h];intro e;exact hn.1 (aA.mpr ⟨r,h,e.symm⟩)
theorem wM(c:CT)(f:Option PV)(x:Str):∀(R:List Rk) (o2 o3:Option PV) (d:Kn),lN R x=some d->∃ρ,fW (gW 2 Q1) (BV c) (R.map aK) (S0 [f,some (.str x),o2,o3])=some (.ok (.rt (encK d)),S0 ρ)
 | [],_,_,_,h=>by cases h
 | r::R,o2,o3,d,h=>by
  have t:gW 2 Q1 (aK r) (S0 [f,some (.str x),o2,o3])=some (S0 [f,some (.str x),some (.str r.1),some (encK r.2)]):=rfl;have e:Ek (toB (op2 jv (rd 2) (rd 1))) (S0 [f,some (.str x),some (.str r.1),some (encK r.2)]) (r.1==x):=bT (b2 rfl rfl (dI _ _ _));unfold lN at h;by_cases hx:r.1=x
  ·rw[if_pos hx]at h;cases h;rw[show(r.1==x)=true by grind]at e
   exact⟨_,fR t (iT e (rS rfl))⟩
  ·rw[if_neg hx]at h;obtain⟨ρ,ih⟩:=wM c f x R (some (.str r.1)) (some (encK r.2)) d h;rw[show(r.1==x)=false by grind]at e
   exact⟨ρ,fC t (iF e rfl) ih⟩
def Dl(nm res body:PV)(R1 R2:List Rk):PV:=.ao [nm,.ao (R1.map aK),res,.ao (R2.map aK),body]
def aT(hl:ps.length+qs.length<=4000000):fD h (.ao ps) (.ao qs)=some (.ao (ps++qs)):=if_pos (hl)
def Js(k:Nat)(n res body:PV)(R1 R2:List Rk)(x:Str)(d:Kn)(hd:lN (R1++R2) x=some d)(h:R1.length+R2.length<=1000):Gives (run txt (k+1) "kind_of" [Dl n res body R1 R2,.str x] []) (encK d):=by
 rw[BW];obtain⟨ρ,e⟩:=wM (run txt k) (some (Dl n res body R1 R2)) x (R1++R2) none none d hd;have hs:fD [] (.ao (R1.map aK)) (.ao (R2.map aK))=some (.ao ((R1++R2).map aK)):=by
  rw[ck];exact aT (by simp;lia)
 exact gV (qP (fS (sV (b2 (b2 rfl rfl rfl) (b2 rfl rfl rfl) hs) rfl) e)) (rL d)
def LA:er (run txt):=⟨λk=>Fe k⟩
def G9(h0:0<=i)(hg:ps[i.toNat]?=some y):L2.mh (bY ps) i=some (enc y):=by
 have:=atI_nat (xs:=bY ps) (by rw[kD,bZ,hg];rfl)
 rw[oz h0]at this;exact this
def uI(h:Th s i=some x):∃ps,s=.bB ps/\0<=i/\ps[i.toNat]?=some x.1/\x.2=((hV (ps.take i.toNat)).length:Int):=by
 cases s with
 | bB ps =>
  simp only[Th]at h;by_cases h0:0<=i
  ·grind
  ·grind
 | num=>simp[Th]at h
 | own=>simp[Th]at h
 | bI n=>simp[Th]at h
def W6(h:y∈ps):dp y<=rH ps:=by
 induction ps with
 | nil=>cases h
 | cons z zs ih =>
  simp only[rH];rcases aV.mp h with rfl | hm
  ·lia
  ·grind
mutual
theorem M3:∀(s:Sh),∀r∈tab s,r.2.2.1=sz r.2.2.2
 | .num,r,h=>by simp[tab]at h;subst h;simp[sz,lv]
 | .own,r,h=>by simp[tab]at h;subst h;simp[sz,lv]
 | .bI n,r,h=>by simp[tab]at h;subst h;simp[sz,lv]
 | .bB ps,r,h=>by
  simp only[tab,aV]at h;rcases h with rfl | h
  ·simp[sz,lv]
  ·exact Ha ps 0 0 r h
theorem Ha:∀l k a,∀r∈tabs k a l,r.2.2.1=sz r.2.2.2
 | [],_,_,r,h=>by simp[tabs]at h
 | s::l,k,a,r,h=>by
  simp only[tabs,bD,aA]at h;rcases h with⟨r0,h0,rfl⟩ | h
  ·exact M3 s r0 h0
  ·exact Ha l _ _ r h
end
mutual
theorem zD:∀(s:Sh),∀r∈tab s,dp r.2.2.2<=dp s/\(lv r.2.2.2).length<=(lv s).length
 | .num,r,h=>by simp[tab]at h;subst h;simp
 | .own,r,h=>by simp[tab]at h;subst h;simp
 | .bI n,r,h=>by simp[tab]at h;subst h;simp
 | .bB ps,r,h=>by
  simp only[tab,aV]at h;rcases h with rfl | h
  ·simp
  ·have:=Hb ps 0 0 r h;simp only[dp,lv]
   lia
theorem Hb:∀l k a,∀r∈tabs k a l,dp r.2.2.2<=rH l/\(lv r.2.2.2).length<=(hV l).length
 | [],_,_,r,h=>by simp[tabs]at h
 | s::l,k,a,r,h=>by
  simp only[tabs,bD,aA]at h;simp only[rH,hV,bJ];rcases h with⟨r0,h0,rfl⟩ | h
  ·have:=zD s r0 h0;simp only[qd]
   lia
  ·have:=Hb l _ _ r h
   lia
end
section
variable {s s1 s2 s3:dq} {fa fb fc:Gx PV} {x y z r:PV}
def eCh(ha:Ev fa s x s1)(hb:Ev fb s1 y s2)(h1:g s2.h x y=some (.bl true))(hc:Ev fc s2 z s3)(h2:g' s3.h y z=some r):Ev (chain g g' fa fb fc) s r s3 :=
 eB ha (eB hb (eB (by show((g s2.h x y).bind v9).map _=_;rw[h1];rfl) (by rw[if_pos rfl];exact eB hc (by show(g' s3.h y z).map _=_;rw[h2];rfl))))
end
def le_int(h:List aB)(i j:Int):VH h (.int i) (.int j)=some (.bl (decide (i<=j))):=rfl
def lt_int(h:List aB)(i j:Int):Et h (.int i) (.int j)=some (.bl (decide (i<j))):=rfl
def Hc(k:Nat)(hx:Th s i=some x):Gives (run txt (k+1) "check_part" [enc s,.int i] []) .b9:=by
 obtain⟨ps,rfl,h0,hg,_⟩:=uI hx;rw[uq];have hl:=(cz.mp hg).1;exact gN (sq (iF (s1:=S0 [some (enc (.bB ps)),some (.int i)]) (bT (by kernel_rfl)) rfl) (iF (nB (b:=true) (bT (eCh rfl rfl (by rw[le_int,bX h0]) (bV (cA (b2 rfl rfl rfl) rfl) rfl) (by rw[lt_int,bX (by rw[e9];lia)])))) rfl))
theorem wN(k:Nat)(A P:Option PV):∀(p:List Int) (s:Sh) (a:Int) (o:Option PV) (s':Sh) (a':Int),walk s a p=some (s',a')->∃o',fW (aX 3) (MV (run txt (k+1))) (p.map .int) (S0 [A,P,some (enc s),o])=some (.ok .nx,S0 [A,P,some (enc s'),o'])
 | [],s,a,o,s',a',h=>by
  simp[walk]at h;obtain⟨rfl,rfl⟩:=h;exact⟨o,rfl⟩
 | i::p,s,a,o,s',a',h=>by
  obtain⟨x,hx,hw⟩:=r9.mp (h);have hc:=Hc k hx;obtain⟨ps,rfl,h0,hg,_⟩:=uI hx;obtain⟨o',q⟩:=wN k A P p x.1 (a+x.2) (some (.int i)) s' a' hw;have yM:=G9 h0 hg;exact⟨o',fC rfl (sq (dS (cx (cA rfl (cA rfl rfl)) rfl rfl hc)) (aS (b2 (b2 rfl rfl rfl) rfl yM) rfl)) q⟩
def W7(k:Nat)(s:Sh)(p:List Int)(x:Sh×Int)(h:walk s 0 p=some x):Gives (run txt (k+2) "part" [enc s,.ao (p.map .int)] []) (enc x.1):=by
 rw[MW];obtain⟨o',q⟩:=wN k (some (enc s)) (some (.ao (p.map .int))) p s 0 none x.1 x.2 h;exact gV (sq (aS rfl rfl) (sq (fS rfl q) (rS rfl))) (dH _)
def Rq(l:List Sh):(l.map λs=>((lv s).length:Int)).sum=((hV l).length:Int):=by
 induction l with
 | nil=>simp[hV]
 | cons s l ih=>simp[hV,ih]
theorem pH:∀ns:List Int,lF (ns.map .int)=some ns
 | []=>rfl
 | n::r=>by
  have e:cL m8 (r.map PV.int)=some r:=pH r;simp only[lF,aE,cL,m8,dP,e,gH]
def Jt(h:List aB)(ns:List Int):Iw h [.lst (ns.map .int)]=some (.int ns.sum):=by
 show(lF _).map _=_;rw[pH];rfl
def W8(ps:List PV)(q:Nat):lj ps none (some (q:Int))=ps.take q:=by
 unfold lj;rw[HT.yc,HT.AG,xK,Nat.sub_zero];by_cases h:q<=ps.length
 ·grind
 ·grind
def cM{l:List α}(hi:Ev fi s (.sq (l.map e)) s1)(hl:l.length<=4000000)(hb:∀a∈l,bd (bE link s1.ρ) (e a) s1.h=some (some (G a),s1.h)):Ev (di false link fi bd) s (.lst (l.map G)) s1:=eB hi (by
 have:∀l:List α,(∀a∈l,bd (bE link s1.ρ) (e a) s1.h=some (some (G a),s1.h))->fH (bd (bE link s1.ρ)) (l.map e) s1.h=some (l.map G,s1.h):=by
  intro l;induction l with
  | nil=>intro _;rfl
  | cons a l ih =>
   intro H;show(bd (bE link s1.ρ) (e a) s1.h).bind _=_;rw[H a bg];show(fH (bd (bE link s1.ρ)) (l.map e) s1.h).map _=_;rw[ih λb hb=>H b (aU _ hb)]
   rfl
 show(if(l.map e).length<=gF then fH _ (l.map e) s1.h else none).bind _=_
 rw[if_pos (show(l.map e).length<=gF by rw[aD];exact hl),this l hb]
 rfl)
def cE(h1:Ev fa s p s1)(h2:Ev fl s1 l s2)(h3:Ev fh s2 h s3)(h4:LH s3.h l h p=some q):Ev (cutE fa fl fh) s q s3:=eB h1 (eB h2 (eB h3 (by show(LH s3.h l h p).map _=_;rw[h4];rfl)))
def Ru(k:Nat)(ps:List Sh)(q:Nat)(hd:rH ps<=k)(hl:(hV ps).length<=1000)(hn:ps.length<=1000)(a b d:Option PV) :
  Ek (fX Iw (ak (di false [none,none] (iu (cutE Qb (aN none) (m9 (rd 4)))) (lq (aX 1) (fX fB (ak (bnd Q0 (bF 0 1 (run txt (k+1) "leaves"))) (aN []))))) (aN []))) (S0 [a,b,some (enc (.bB ps)),d,some (.int (q:Int))]) (.int ((hV (ps.take q)).length:Int)):=by
 have e2:=Jt [] ((ps.take q).map λs=>((lv s).length:Int))
 rw[Rq,b6]at e2;have ae9:LH [] none (some q) (.ao (bY ps))=some (.ao ((ps.take q).map enc)):=by
  show some (PV.ao (lj (bY ps) none (some q)))=_;rw[W8,kD,List.map_take]
 refine bV (cA (cM (sV (cE (b2 rfl rfl rfl) rfl rfl ae9) rfl) (by grind) λs hs=>?_) rfl) e2
 have hm:=er.each LA ps k hd (by lia) s (List.mem_of_mem_take hs)
 refine e1 rfl (bV (cA (cx (cA rfl rfl) rfl rfl hm) rfl) ?_);show some (PV.int ((bY (lv s)).length:Int))=_;rw[e9];rfl
theorem uJ(k:Nat)(A P:Option PV):∀(p:List Int) (s:Sh) (a:Int) (o:Option PV) (s':Sh) (a':Int),(tab s).length<=500->dp s<=k->walk s a p=some (s',a')->∃o',fW (aX 4) (Jk (run txt (k+1))) (p.map .int) (S0 [A,P,some (enc s),some (.int a),o])=some (.ok .nx,S0 [A,P,some (enc s'),some (.int a'),o'])
 | [],s,a,o,s',a',_,_,h=>by
  simp[walk]at h;obtain⟨rfl,rfl⟩:=h;exact⟨o,rfl⟩
 | i::p,s,a,o,s',a',ht,hd,h=>by
  obtain⟨x,hx,hw⟩:=r9.mp (h);have hc:=Hc k hx;obtain⟨ps,rfl,h0,hg,hx2⟩:=uI hx;have EO:=cB hg;have vX:=Je EO;have htl:(tab (.bB ps)).length=jg ps+1:=by simp only[tab,aM,iz]
  have hll:=Fc ps;have hnl:=BJ ps;have hdm:=W6 EO;have hdd:rH ps+1<=k:=by simpa only[dp]using hd
  obtain⟨o',q⟩:=uJ k A P p x.1 (a+x.2) (some (.int i)) s' a' (br ‹_› ‹_›) (by lia) hw
  have M6:=Ru k ps i.toNat (dz ‹_›) (by lia) (by lia) A P (some (.int a))
  rw[oz h0,<-hx2]at M6;have yM:=G9 h0 hg;exact⟨o',fC rfl (sq (dS (cx (cA rfl (cA rfl rfl)) rfl rfl hc)) (sq (aS (b2 rfl M6 rfl) rfl) (aS (b2 (b2 rfl rfl rfl) rfl yM) rfl))) q⟩
def Rv(k:Nat)(s:Sh)(p:List Int)(x:Sh×Int)(ht:(tab s).length<=500)(hd:dp s<=k)(h:walk s 0 p=some x):Gives (run txt (k+2) "first" [enc s,.ao (p.map .int)] []) (.int x.2):=by
 rw[Jl];obtain⟨o',q⟩:=uJ k (some (enc s)) (some (.ao (p.map .int))) p s 0 none x.1 x.2 ht hd h;exact gV (sq (aS rfl rfl) (sq (aS rfl rfl) (sq (fS rfl q) (rS rfl)))) rfl
structure de where
 w:Str
 n:Str
 t:Bool
 f:Int
 m:Int
 k:Str
def lx(a:de):PV:=.ao [.str a.w,.str a.n,.bl a.t,.int a.f,.int a.m,.str a.k]
noncomputable def M7:de:=⟨"rest","",false,0,0,""⟩
def qj:de:=⟨"hand","",false,0,0,""⟩
def spT(x:Str)(th:Bool)(p:List Int)(at_:PV):PV:=.ao [.str x,.bl th,.ao (p.map .int),at_]
def zE(s:Sh):Prop:=(tab s).length<=100/\dp s<=3
def uK(F:PV)(ks:List Rk):Prop:=∀k,∀r∈ks,Gives (run txt (k+1) "kind_of" [F,.str r.1] []) (encK r.2)
def tA(w x:Str)(d:Kn)(r:Rw)(t:Str):de:=⟨w,x,jh d,r.2.1,r.2.2.1,t⟩
def Ld(n res body:PV)(R1 R2:List Rk)(h:R1.length+R2.length<=1000)(hn:((R1++R2).map (·.1)).Nodup):uK (Dl n res body R1 R2) (R1++R2):=λk r hr=>Js k n res body R1 R2 r.1 r.2 (kZ _ r hn hr) h
def g8(hF:uK F ks)(k:Nat)(hk:3<=k)(w t:Str)(hx:(x,d)∈ks)(hs:zE (bN d))(hr:r∈tab (bN d))(a:PV):Gives (run txt (k+3) "touch" [F,.str w,spT x (jh d) r.1 a,.str t] []) (lx (tA w x d r t)):=by
 rw[Jn];have hw:=BO (bN d) r hr 0;have hd:=zD (bN d) r hr;have hl:=BL (bN d);have h1:=hF (k+1) (x,d) hx;have h2:=uH k d;have h3:=W7 k (bN d) r.1 _ hw;have h4:=er.all LA r.2.2.2 (k+1) (by have:=hs.2;lia) (by have:=hs.1;lia)
 have h5:=Rv k (bN d) r.1 _ (by have:=hs.1;lia) (by have:=hs.2;lia) hw
 have h6:=M3 (bN d) r hr;have e4:0+r.2.1=r.2.1:=by lia
 rw[e4]at h5;have eF:fB [] [.ao (bY (lv r.2.2.2))]=some (.int r.2.2.1):=by
  show some (PV.int ((bY (lv r.2.2.2)).length:Int))=_;rw[e9,h6];rfl
 exact gV (sq (aS (cx (cA (cx (cA rfl (cA (b2 rfl rfl rfl) rfl)) rfl rfl h1) rfl) rfl rfl h2) rfl)
  (sq (aS (bV (cA (cx (cA (cx (cA rfl (cA (b2 rfl rfl rfl) rfl)) rfl rfl h3) rfl) rfl rfl h4) rfl) eF) rfl)
  (rS (tU (cA rfl (cA (b2 rfl rfl rfl) (cA (b2 rfl rfl rfl) (cA (cx (cA rfl (cA (b2 rfl rfl rfl) rfl)) rfl rfl h5) (cA rfl (cA rfl rfl)))))) (by simp))))) rfl
def iB(s:Sh):(([],0,sz s,s):Rw)∈tab s:=by
 obtain⟨L,e⟩:=BI s;rw[e];exact bg
def fu(hF:uK F ks)(k:Nat)(hk:3<=k)(w t:Str)(hx:(x,d)∈ks)(hs:zE (bN d)):Gives (run txt (k+4) "touch_whole" [F,.str w,.str x,.str t] []) (lx (tA w x d ([],0,sz (bN d),bN d) t)):=by
 rw[qQ];have h1:=hF (k+2) (x,d) hx;have h2:=ez (k+2) d;have h3:=g8 hF k hk w t hx hs (iB (bN d)) .b9;exact gV (rS (cx (cA rfl (cA rfl (cA (tU (cA rfl (cA (cx (cA (cx (cA rfl (cA rfl rfl)) rfl rfl h1) rfl) rfl rfl h2) (cA (tU rfl (by simp)) (cA rfl rfl)))) (by simp)) (cA rfl rfl)))) rfl rfl h3)) rfl
def f9(as:List de):PV:=.lst (as.map lx)
def afa(a:de):noRef (lx a)=true:=rfl
theorem M8:∀as:List de,ah (as.map lx)=true
 | []=>rfl
 | a::as=>by simp[ah,afa,M8 as]
def B8(as:List de):noRef (f9 as)=true:=by simp[f9,noRef,M8]
def aL(hl:ps.length+qs.length<=4000000):fD h (.lst ps) (.lst qs)=some (.lst (ps++qs)):=by
 have e:fD h (.lst ps) (.lst qs)=sizeOk (ps.length+qs.length) (.lst (ps++qs)):=rfl;rw[e];exact if_pos (hl)
def lE(as bs:List de)(h:List aB)(hl:as.length+bs.length<=1000):fD h (f9 as) (f9 bs)=some (f9 (as++bs)):=by
 unfold f9;rw[ck];exact aL (by grind)
inductive B9 (ks:List Rk):PV->Prop
 | b9:B9 ks .b9
 | int (i:Int):B9 ks (.int i)
 | str (y:Str) (h:(y,Kn.ow .num)∈ks):B9 ks (.str y)
noncomputable def J5:PV->List de
 | .str y=>[⟨"read",y,false,0,1,""⟩]
 | _=>[]
def wO(hF:uK F ks)(k:Nat)(hk:3<=k)(x:Str)(th:Bool)(p:List Int)(ha:B9 ks a):Gives (run txt (k+5) "at_acts" [F,spT x th p a] []) (f9 (J5 a)):=by
 rw[B0];cases ha with
 | b9=>exact gV (qP (iT (nB (tR (p:=.bl false) (by rfl) rfl)) (rS rfl))) rfl
 | int i=>exact gV (qP (iT (nB (tR (p:=.bl false) (by rfl) rfl)) (rS rfl))) rfl
 | str y h =>
  have h1:=fu hF k hk "read" "" h ⟨by simp[bN,tab],by simp[bN,dp]⟩
  have e:tA "read" y (.ow .num) ([],0,sz (bN (.ow .num)),bN (.ow .num)) ""=⟨"read",y,false,0,1,""⟩:=by
   simp[tA,jh,bN,sz,lv]
  rw[e]at h1;exact gV (sq (iF (nB (tR (p:=.bl true) (by rfl) rfl)) rfl) (rS (lS (cA (cx (cA rfl (cA rfl (cA (b2 rfl rfl rfl) (cA rfl rfl)))) rfl rfl h1) rfl) (by show 1<=4000000;decide)))) rfl
structure Sp where
 x:Str
 d:Kn
 r:Rw
 a:PV
def b8(s:Sp):PV:=spT s.x (jh s.d) s.r.1 s.a
structure dh (ks:List Rk) (s:Sp):Prop where
 mem:(s.x,s.d)∈ks
 ok:zE (bN s.d)
 row:s.r∈tab (bN s.d)
 at_:B9 ks s.a
def rM(w:Str)(s:Sp)(t:Str):de:=tA w s.x s.d s.r t
inductive Op where
 | n (i:Int) | s (s:Sp)
def gd:Op->PV
 | .n i=>.int i
 | .s s=>b8 s
def eA(ks:List Rk):Op->Prop
 | .n _=>True
 | .s s=>dh ks s
def pK:Op->List de
 | .n _=>[]
 | .s s=>J5 s.a++[rM "read" s ""]
def zF(a:PV):(J5 a).length<=1:=by
 unfold J5;split<;>simp
def dt(hF:uK F ks)(k:Nat)(hk:3<=k)(ho:eA ks o):Gives (run txt (k+6) "operand_acts" [F,gd o] []) (f9 (pK o)):=by
 rw[pF];cases o with
 | n i=>exact gV (qP (iT (nB (tR (p:=.bl false) (by rfl) rfl)) (rS rfl))) rfl
 | s s =>
  obtain⟨h1,h2,h3,h4⟩:=ho;have e1:=wO hF k hk s.x (jh s.d) s.r.1 h4;have e2:=g8 hF (k+2) (eJ ‹_›) "read" "" h1 h2 h3 s.a;have hl:=zF s.a;exact gV (sq (iF (nB (tR (p:=.bl true) (by rfl) rfl)) rfl) (rS (b2 (cx (cA rfl (cA rfl rfl)) rfl rfl e1) (lS (cA (cx (cA rfl (cA rfl (cA rfl (cA rfl rfl)))) rfl rfl e2) rfl) (by simp)) (lE (J5 s.a) [rM "read" s ""] [] (by simp;lia))))) (B8 _)
def Cc(s:Sp):List de:=match s.a with
 | .b9=>[rM "fill" s ""]
 | a=>J5 a++[rM "turn" s ""]
def lO(hF:uK F ks)(k:Nat)(hk:3<=k)(hs:dh ks s):Gives (run txt (k+6) "target_acts" [F,b8 s] []) (f9 (Cc s)):=by
 rw[qR];obtain⟨h1,h2,h3,h4⟩:=hs;have e1:=wO hF k hk s.x (jh s.d) s.r.1 h4;have ef:=g8 hF (k+2) (eJ ‹_›) "fill" "" h1 h2 h3 s.a;have et:=g8 hF (k+2) (eJ ‹_›) "turn" "" h1 h2 h3 s.a;obtain⟨x,d,r,a⟩:=s;have hl:=zF a;have mP:∀(z:X9 [] a .b9=some (.bl false)) (q:Cc ⟨x,d,r,a⟩=J5 a++[rM "turn" ⟨x,d,r,a⟩ ""]),Gives (du (lL (run txt (k+5))) 2 [F,b8 ⟨x,d,r,a⟩] []) (f9 (Cc ⟨x,d,r,a⟩)):=by
  intro z q;rw[q];exact gV (sq (iF (bT (b2 (b2 rfl rfl rfl) rfl z)) rfl) (rS (b2 (cx (cA rfl (cA rfl rfl)) rfl rfl e1) (lS (cA (cx (cA rfl (cA rfl (cA rfl (cA rfl rfl)))) rfl rfl et) rfl) (by simp)) (lE (J5 a) [rM "turn" ⟨x,d,r,a⟩ ""] [] (by simp;lia))))) (B8 _)
 cases h4 with
 | b9=>exact gV (qP (iT (bT (b2 (b2 rfl rfl rfl) rfl rfl)) (rS (lS (cA (cx (cA rfl (cA rfl (cA rfl (cA rfl rfl)))) rfl rfl ef) rfl) (by show 1<=4000000;decide))))) rfl
 | int i=>exact mP rfl rfl
 | str y h=>exact mP rfl rfl
def ji(o:Op):(pK o).length<=2:=by
 cases o with
 | n i=>simp[pK]
 | s s=>have:=zF s.a;simp[pK];lia
def zG(s:Sp):(Cc s).length<=2:=by
 unfold Cc;split
 ·simp
 ·rename_i a _;have:=zF s.a;simp
  lia
section
variable {F:PV} {ks:List Rk} (hF:uK F ks) (k:Nat) (hk:3<=k)
include hF hk
def Fu(w:Str)(hs:dh ks s)(ho:eA ks o):Gives (run txt (k+7) "put_acts" [F,.ao [.str w,b8 s,gd o]] []) (f9 (pK o++Cc s)):=by
 rw[zg];have h1:=dt hF k hk ho;have h2:=lO hF k hk hs;have l1:=ji o;have l2:=zG s;exact gV (rS (b2 (cx (cA rfl (cA (b2 rfl rfl rfl) rfl)) rfl rfl h1) (cx (cA rfl (cA (b2 rfl rfl rfl) rfl)) rfl rfl h2) (lE _ _ _ (by lia)))) (B8 _)
def Fv(w:Str)(hs:dh ks s)(q:PV)(ha:eA ks a)(hb:eA ks b):Gives (run txt (k+7) "set_acts" [F,.ao [.str w,b8 s,q,gd a,gd b]] []) (f9 (pK a++pK b++Cc s)):=by
 rw[zh];have h1:=dt hF k hk ha;have h3:=dt hF k hk hb;have h2:=lO hF k hk hs;have l1:=ji a;have l3:=ji b;have l2:=zG s;exact gV (rS (b2 (b2 (cx (cA rfl (cA (b2 rfl rfl rfl) rfl)) rfl rfl h1) (cx (cA rfl (cA (b2 rfl rfl rfl) rfl)) rfl rfl h3) (lE _ _ _ (by lia))) (cx (cA rfl (cA (b2 rfl rfl rfl) rfl)) rfl rfl h2) (lE _ _ _ (by grind)))) (B8 _)
def Ju(w:Str)(q:PV)(ha:eA ks a)(hb:eA ks b):Gives (run txt (k+7) "if_acts" [F,.ao [.str w,gd a,gd b,q]] []) (f9 (pK a++pK b)):=by
 rw[B3];have h1:=dt hF k hk ha;have h3:=dt hF k hk hb;have l1:=ji a;have l3:=ji b;exact gV (rS (b2 (cx (cA rfl (cA (b2 rfl rfl rfl) rfl)) rfl rfl h1) (cx (cA rfl (cA (b2 rfl rfl rfl) rfl)) rfl rfl h3) (lE _ _ _ (by lia)))) (B8 _)
def Fw(w:Str)(ha:eA ks a):Gives (run txt (k+7) "say_acts" [F,.ao [.str w,gd a]] []) (f9 (pK a)):=by
 rw[zi];have h1:=dt hF k hk ha;exact gV (rS (cx (cA rfl (cA (b2 rfl rfl rfl) rfl)) rfl rfl h1)) (B8 _)
omit hF hk in
def Jv(p:PV):Gives (run txt (k+7) "go_acts" [F,p] []) (f9 []):=by
 rw[B4];exact gV (rS rfl) rfl
omit hF hk in
def zH(w:Str):Gives (run txt (k+7) "give_acts" [F,.ao [.str w,.str ""]] []) (f9 []):=by
 rw[lM];exact gV (qP (iT (bT (b2 (b2 rfl rfl rfl) rfl (show jv [] (.str "") (.str "")=some (.bl true) by kernel_rfl))) (rS rfl))) rfl
theorem Cd(w:Str)(hs:dh ks s)(ht:dh ks t):Gives (run txt (k+7) "copy_acts" [F,.ao [.str w,b8 s,b8 t]] []) (f9 [rM "read" t "",rM "fill" s ""]):=by
 rw[vA];have h1:=g8 hF (k+3) (iX _ _) "read" "" ht.mem ht.ok ht.row t.a;have h2:=g8 hF (k+3) (iX _ _) "fill" "" hs.mem hs.ok hs.row s.a;exact gV (rS (lS (cA (cx (cA rfl (cA rfl (cA (b2 rfl rfl rfl) (cA rfl rfl)))) rfl rfl h1) (cA (cx (cA rfl (cA rfl (cA (b2 rfl rfl rfl) (cA rfl rfl)))) rfl rfl h2) rfl)) (by simp))) rfl
theorem Cf(w:Str)(hs:dh ks s)(ht:dh ks t):Gives (run txt (k+7) "move_acts" [F,.ao [.str w,b8 s,b8 t]] []) (f9 [rM "empty" t "",rM "fill" s ""]):=by
 rw[vD];have h1:=g8 hF (k+3) (iX _ _) "empty" "" ht.mem ht.ok ht.row t.a;have h2:=g8 hF (k+3) (iX _ _) "fill" "" hs.mem hs.ok hs.row s.a;exact gV (rS (lS (cA (cx (cA rfl (cA rfl (cA (b2 rfl rfl rfl) (cA rfl rfl)))) rfl rfl h1) (cA (cx (cA rfl (cA rfl (cA (b2 rfl rfl rfl) (cA rfl rfl)))) rfl rfl h2) rfl)) (by simp))) rfl
theorem Cg(w t:Str)(hs:dh ks s):Gives (run txt (k+7) "lend_acts" [F,.ao [.str w,.str t,b8 s]] []) (f9 [rM w s t]):=by
 rw[vE];have h1:=g8 hF (k+3) (iX _ _) w t hs.mem hs.ok hs.row s.a;exact gV (rS (lS (cA (cx (cA rfl (cA (b2 rfl rfl rfl) (cA (b2 rfl rfl rfl) (cA (b2 rfl rfl rfl) rfl)))) rfl rfl h1) rfl) (by simp))) rfl
end
noncomputable def qk:Sh->Bool
 | .own=>true
 | _=>false
abbrev oP:PV:=.ao [.str "own"]
mutual
def Ai:Sh->Tr
 | .num=>.ao [.str "num"]
 | .own=>.ao [.str "own"]
 | .bI n=>.ao [.str "strip",.int n]
 | .bB ps=>.ao [.str "rec",.ao (qU ps)]
def qU:List Sh->List Tr
 | []=>[]
 | s::l=>Ai s::qU l
end
mutual
theorem toT_enc(h:List aB):∀(s:Sh) (n:Nat),2*dp s+2<n->toT h n (enc s)=some (Ai s)
 | .num,n+3,_=>rfl
 | .own,n+3,_=>rfl
 | .bI _,n+3,_=>rfl
 | .bB ps,n+3,hn=>by
  have:=toT_encs h ps (n+1) (by simp only[dp]at hn;lia)
  have e1:toT h (n+2) (.str "rec")=some (.str "rec"):=rfl;have e2:toT h (n+2) (.ao (bY ps))=some (.ao (qU ps)):=by
   show((cL (toT h (n+1)) (bY ps)).bind (LD .ao))=_;rw[this];rfl
  show((cL (toT h (n+2)) [.str "rec",.ao (bY ps)]).bind (LD .ao))=_;simp only[cL,e1,e2,dP,gH,Ai,LD]
 | .num,0,hn=>by lia
 | .num,1,hn=>by lia
 | .num,2,hn=>by lia
 | .own,0,hn=>by lia
 | .own,1,hn=>by lia
 | .own,2,hn=>by lia
 | .bI _,0,hn=>by lia
 | .bI _,1,hn=>by lia
 | .bI _,2,hn=>by lia
 | .bB _,0,hn=>by lia
 | .bB _,1,hn=>by lia
 | .bB _,2,hn=>by lia
theorem toT_encs h:∀l n,2*rH l+2<n->cL (toT h n) (bY l)=some (qU l)
 | [],_,_=>rfl
 | s::l,n,hn=>by
  simp only[rH]at hn;have h1:=toT_enc h s n (by lia)
  have h2:=toT_encs h l n (by lia)
  simp only[bY,cL,h1,h2,dP,gH,qU]
end
def W9(s:Sh):eqT (Ai s) (.ao [.str "own"])=qk s:=by
 cases s with
 | bB ps=>show((Str.ofString "rec"==Str.ofString "own")&&oX [.ao (qU ps)] [])=false;rw[show(Str.ofString "rec"==Str.ofString "own")=false by decide +kernel];rfl
 | num=>decide +kernel
 | own=>decide +kernel
 | bI n=>show((Str.ofString "strip"==Str.ofString "own")&&oX [.int n] [])=false;rw[show(Str.ofString "strip"==Str.ofString "own")=false by decide +kernel];rfl
theorem Fx:∀l:List Sh,((qU l).any λy=>eqT y (.ao [.str "own"]))=l.any qk
 | []=>rfl
 | s::l=>by rw[qU,gp,gp,Fx l,W9]
def cpd(s:Sh):Bool:=!(lv s).any qk
theorem uL:∀{l:List Sh},(∀x∈l,jf x=true)->rH l=0
 | [],_=>rfl
 | s::l,h=>by
  have h1:=(E9 (h s bg)).2;have h2:=uL λx hx=>h x (aU _ hx)
  simp only[rH]
  lia
def Xa(s:Sh):mK true [] oP (.ao (bY (lv s)))=some (.bl (cpd s)):=by
 have hd:=uL (yY s);have e:=toT_encs [] (lv s) eY (by rw[hd];decide)
 have e0:Ip [] oP (bY (lv s))=some ((lv s).any qk):=by
  unfold Ip;rw[e,show toT [] eY oP=some (.ao [.str "own"])from rfl,<-Fx]
  rfl
 have e1:mK true [] oP (.ao (bY (lv s)))=(Ip [] oP (bY (lv s))).map λb=>.bl (if true=true then !b else b):=rfl
 rw[e1,e0];unfold cpd;cases(lv s).any qk<;>rfl
def oW(s:Sh):Str:=if cpd s=true then "read" else "empty"
abbrev Fy(s:Sh):Rw:=([],0,sz s,s)
def tkA(x:Str)(d:Kn)(t:Str):de:=match d with
 | .ow s=>tA (oW s) x (.ow s) (Fy s) ""
 | .ho b s=>tA (if b=true then "sole" else "lend") x (.ho b s) (Fy s) t
def gvA(x:Str)(d:Kn):de:=match d with
 | .ow s=>tA (oW s) x (.ow s) (Fy s) ""
 | .ho b s=>tA "give" x (.ho b s) (Fy s) ""
def Ci(k:Nat)(s:Sh)(hd:dp s<=k)(hz:(lv s).length<=4000000):Gives (run txt (k+2) "is_copied" [enc s] []) (.bl (cpd s)):=by
 rw[vy];have h:=er.all LA s k hd hz;exact gV (rS (b2 (tU (cA rfl rfl) (by simp)) (cx (cA rfl rfl) rfl rfl h) (Xa s))) rfl
section
variable {F:PV} {ks:List Rk} (hF:uK F ks) (k:Nat) (hk:3<=k)
include hF hk
def ql(hx:(x,Kn.ow s)∈ks)(hs:zE s):Gives (run txt (k+5) "owner_act" [F,.str x] []) (lx (tA (oW s) x (.ow s) (Fy s) "")):=by
 rw[vG];have h1:=hF (k+3) _ hx;have hl:=BL s;have h2:=Ci (k+2) s (by have:=hs.2;lia) (by have:=hs.1;lia)
 have h3:=fu hF k hk (oW s) "" hx hs;exact gV (rS (cx (cA rfl (cA (by
  refine eI (tR (cx (cA (cx (cA rfl (cA rfl rfl)) rfl rfl h1) rfl) rfl rfl h2) rfl) ?_;unfold oW;cases cpd s<;>rfl) (cA rfl (cA rfl rfl)))) rfl rfl h3)) rfl
def Jw(hx:(x,d)∈ks)(hs:zE (bN d))(t:Str):Gives (run txt (k+6) "arg_act" [F,.str x,.str t] []) (lx (tkA x d t)):=by
 rw[B2];have h1:=hF (k+4) _ hx;have h2:=ez (k+4) d;have a0:Ev (c6 (bnd Qo (bF 0 2 (run txt (k+5) "kind_of"))) (aX 3)) (S0 [some F,some (.str x),some (.str t),none]) .nx (S0 [some F,some (.str x),some (.str t),some (encK d)]):=aS (cx (cA rfl (cA rfl rfl)) rfl rfl h1) rfl;have t0:Ek (oV (gi (bnd Qn (bF 0 1 (run txt (k+5) "is_holder"))))) (S0 [some F,some (.str x),some (.str t),some (encK d)]) (!jh d):=nB (tR (cx (cA rfl rfl) rfl rfl h2) rfl);cases d with
 | ow s =>
  have h3:=ql hF k hk hx hs;exact gV (sq a0 (qP (iT t0 (rS (cx (cA rfl (cA rfl rfl)) rfl rfl h3))))) rfl
 | ho b s =>
  have h3:=fu hF (k+1) (eJ ‹_›) (if b=true then "sole" else "lend") t hx hs
  have hw:Ek (dF (toB (op2 jv (op2 aZ (rd 3) (kI 0)) (aN (PV.str "lent")))) (aN (PV.str "lend")) (aN (PV.str "sole"))) (S0 [some F,some (.str x),some (.str t),some (encK (.ho b s))]) (PV.str (if b=true then "sole" else "lend")):=by
   cases b with
   | false=>exact iT (bT (b2 (b2 rfl rfl rfl) rfl (show jv [] (.str (hw false)) (.str "lent")=some (.bl true) by kernel_rfl))) rfl
   | true=>exact iF (bT (b2 (b2 rfl rfl rfl) rfl (show jv [] (.str (hw true)) (.str "lent")=some (.bl false) by kernel_rfl))) rfl
  exact gV (sq a0 (sq (iF t0 rfl) (rS (cx (cA rfl (cA hw (cA rfl (cA rfl rfl)))) rfl rfl h3)))) rfl
def Cj(w:Str)(hx:(x,d)∈ks)(hs:zE (bN d))(hne:(x==(Str.ofString ""))=false):Gives (run txt (k+7) "give_acts" [F,.ao [.str w,.str x]] []) (f9 [gvA x d]):=by
 rw[lM];have h1:=hF (k+5) _ hx;have h2:=ez (k+5) d;have t0:Ek Qt (S0 [some F,some (.ao [.str w,.str x])]) false:=by
  refine bT (b2 (b2 rfl rfl rfl) rfl ?_);rw[dI,hne]
 have t1:Ek (gi (bnd (ak (bnd QD (bF 0 2 (run txt (k+6) "kind_of"))) (aN [])) (bF 0 1 (run txt (k+6) "is_holder")))) (S0 [some F,some (.ao [.str w,.str x])]) (jh d):=tR (cx (cA (cx (cA rfl (cA (b2 rfl rfl rfl) rfl)) rfl rfl h1) rfl) rfl rfl h2) rfl;cases d with
 | ow s =>
  have h3:=ql hF (k+1) (eJ ‹_›) hx hs;exact gV (sq (iF t0 rfl) (sq (iF t1 rfl) (rS (lS (cA (cx (cA rfl (cA (b2 rfl rfl rfl) rfl)) rfl rfl h3) rfl) (by simp))))) rfl
 | ho b s =>
  have h3:=fu hF (k+2) (eJ ‹_›) "give" "" hx hs;exact gV (sq (iF t0 rfl) (qP (iT t1 (rS (lS (cA (cx (cA rfl (cA rfl (cA (b2 rfl rfl rfl) (cA rfl rfl)))) rfl rfl h3) rfl) (by simp)))))) rfl
end
noncomputable abbrev sI(i:Nat):Str:=Str.ofString (toString (i:Int))
def jT:Nat->List Rk->List de
 | _,[]=>[]
 | i,r::l=>tkA r.1 r.2 (sI i)::jT (i+1) l
theorem uM:∀(l:List Rk) (i:Nat),(jT i l).length=l.length
 | [],_=>rfl
 | r::l,i=>by simp[jT,uM l]
def nN:Option Rk->List de
 | none=>[]
 | some (x,.ow s)=>[tA "fill" x (.ow s) (Fy s) ""]
 | some (x,.ho _ _)=>[⟨"take","",false,0,0,x⟩]
def FA:Option Rk->Str
 | none=>""
 | some r=>r.1
def Yk(ks:List Rk):Prop:=∀q∈ks,zE (bN q.2)
def M9(h:List aB)(i:Nat)(hi:i<1000):Iv h [.int (i:Int)]=some (.str (sI i)):=if_pos ⟨by lia,by lia⟩
theorem cF:∀l:List α,(∀a∈l,bd (e a) h=some (some (G a),h))->fH bd (l.map e) h=some (l.map G,h)
 | [],_=>rfl
 | a::l,H=>by
  show(bd (e a) h).bind _=_;rw[H a bg];show(fH bd (l.map e) h).map _=_;rw[cF l λb hb=>H b (aU _ hb)]
  rfl
def cN(hi:Ev fi s (.sq ps) s1)(hl:ps.length<=4000000)(hb:fH (bd (bE link s1.ρ)) ps s1.h=some (qs,s1.h)):Ev (di true link fi bd) s (.ref s1.h.length) ⟨s1.ρ,s1.h++[⟨.lst,qs⟩]⟩:=eB hi (by
 show(if ps.length<=gF then fH _ ps s1.h else none).bind _=_
 rw[if_pos (show ps.length<=gF from hl),hb]
 rfl)
theorem He:∀ps:List PV,ah ps=true->cL (ve h n) ps=some ps
 | [],_=>rfl
 | p::ps,hp=>by
  simp only[ah,aO]at hp;have e:ve h n p=some p:=by cases n<;>(unfold ve;rw[if_pos hp.1])
  simp only[cL,e,He ps hp.2,dP,gH]
def mB(hp:ah ps=true):o9 (⟨.lst,ps⟩::r) (.ref 0)=some (.lst ps):=by
 unfold o9;rw[if_neg (by simp)]
 unfold ve;rw[if_neg (by simp[noRef])]
 show((cL (ve _ 3) ps).map _)=_;rw[He ps hp];rfl
theorem Hf:∀(l:List Rk) (i:Nat),(∀r∈l,∀j:Nat,j<1000->bd (pZ (.int (j:Int)) (.str r.1)) h=some (some (lx (tkA r.1 r.2 (sI j))),h))->i+l.length<=1000->fH bd (dN i (l.map λr=>PV.str r.1)) h=some ((jT i l).map lx,h)
 | [],_,_,_=>rfl
 | r::l,i,H,hz=>by
  simp only[aM]at hz;show(bd (pZ (.int i) (.str r.1)) h).bind _=_;rw[H r bg i (by lia)]
  show(fH bd (dN (i+1) (l.map λr=>PV.str r.1)) h).map _=_
  rw[Hf l (i+1) (λq hq=>H q (aU _ hq)) (by lia)]
  rfl
theorem wQ:∀(l:List PV) (i:Nat),(dN i l).length=l.length
 | [],_=>rfl
 | a::l,i=>by simp[dN,wQ l]
def eV(h:Ev fa s p s1)(hp:yE p=some ps):Ev (wt fa) s (dN 0 ps) s1:=eB h (by show((yE p).map _).map _=_;rw[hp];rfl)
section
variable {F:PV} {ks:List Rk} (hF:uK F ks) (k:Nat) (hk:3<=k) (hN:noRef F=true)
include hF hk hN
def Ck(w:Str)(fn:PV)(ha:∀r∈ar,r∈ks)(ho:Yk ks)(hl:ar.length<=10)(ht:∀r,tk=some r->r∈ks/\(r.1==(Str.ofString ""))=false):Gives (run txt (k+7) "call_acts" [F,.ao [.str w,.str (FA tk),fn,.ao (ar.map λr=>.str r.1)]] []) (f9 (jT 0 ar++qj::nN tk)):=by
 rw[vF];obtain⟨p,hp⟩:=nw (PV.ao [.str w,.str (FA tk),fn,.ao (ar.map λr=>.str r.1)])
 have i3:∀h,aZ h p (.int 3)=some (.ao (ar.map λr=>.str r.1)):=λh=>by rw[hp];rfl
 have i1:∀h,aZ h p (.int 1)=some (.str (FA tk)):=λh=>by rw[hp];rfl
 rw[<-hp];have tl:=uM ar 0;have s1:Ev (c6 (di true [none,none,none,some 0] (L3 (wt Qv)) (lq Qe (bnd (ak (rd 3) (ak (rd 2) (ak (fX Iv Q0) (aN [])))) (bF 0 3 (run txt (k+6) "arg_act"))))) (aX 2)) (S0 [some F,some p,none]) .nx ⟨[some F,some p,some (.ref 0)],[⟨.lst,(jT 0 ar).map lx⟩]⟩:=by
  refine aS (cN (sG (eV (b2 rfl rfl (i3 _)) rfl)) (by rw[wQ,aD];lia) (Hf ar 0 (λr hr j hj=>?_) (by lia))) rfl
  have h:=Jw hF k hk (ha r hr) (ho r (ha r hr)) (sI j);exact e1 rfl (cx (cA rfl (cA rfl (cA (bV (cA rfl rfl) (M9 _ j hj)) rfl))) rfl rfl h)
 obtain⟨L,hL⟩:=nw ((jT 0 ar++[qj]).map lx);have hLl:L.length<=100:=by rw[hL];simp[tl];lia
 have s2:Ev (gQ (Dj "list" (mq (i8 Be)) (rd 2) (ak (aN (.ao [(.str "hand"),(.str ""),(.bl false),(.int 0),(.int 0),(.str "")])) (aN [])))) ⟨[some F,some p,some (.ref 0)],[⟨.lst,(jT 0 ar).map lx⟩]⟩ .nx ⟨[some F,some p,some (.ref 0)],[⟨.lst,L⟩]⟩:=by
  rw[hL,ck];exact dS (yZ rfl rfl (cA rfl rfl) (aC rfl (by rw[aD];lia)))
 have t0:Ek Qt ⟨[some F,some p,some (.ref 0)],[⟨.lst,L⟩]⟩ (FA tk==(Str.ofString "")):=bT (b2 (b2 rfl rfl (i1 _)) rfl (dI _ _ _));have nrL:ah L=true:=by rw[hL];exact M8 _
 have add:∀q:de,fD [⟨.lst,L⟩] (.ref 0) (.lst [lx q])=some (f9 (jT 0 ar++qj::[q])):=λq=>by
  have e:fD [⟨.lst,L⟩] (.ref 0) (.lst [lx q])=sizeOk (L.length+1) (.lst (L++[lx q])):=rfl;rw[e];refine(if_pos (by have:gF=4000000:=rfl;lia)).trans ?_
  rw[hL];simp[f9]
 cases tk with
 | none =>
  rw[show(FA none==(Str.ofString ""))=true by decide +kernel]at t0
  refine⟨_,_,j6 (sq s1 (sq s2 (qP (iT t0 (rS rfl))))),?_⟩;rw[mB nrL,hL];rfl
 | some r =>
  obtain⟨g1,g2⟩:=ht r rfl;obtain⟨x,d⟩:=r;have i1:∀h,aZ h p (.int 1)=some (.str x):=i1
  simp only at g2;have t2:Ek Qt ⟨[some F,some p,some (.ref 0)],[⟨.lst,L⟩]⟩ false:=bT (b2 (b2 rfl rfl (i1 _)) rfl (by rw[dI,g2]))
  have h1:=hF (k+5) _ g1;have h2:=ez (k+5) d;have nFx:ah [F,PV.str x]=true:=by simp[ah,hN,noRef]
  have t1:Ek (gi (bnd (ak (bnd QD (bF 0 2 (run txt (k+6) "kind_of"))) (aN [])) (bF 0 1 (run txt (k+6) "is_holder")))) ⟨[some F,some p,some (.ref 0)],[⟨.lst,L⟩]⟩ (jh d):=tR (cx (cA (cx (cA rfl (cA (b2 rfl rfl (i1 _)) rfl)) rfl (by rw[nFx];rfl) h1) rfl) rfl (by simp[ah,rL]) h2) rfl
  cases d with
  | ho b s =>
   exact gV (sq s1 (sq s2 (sq (iF t2 rfl) (qP (iT t1 (rS (b2 rfl (lS (cA (tU (cA rfl (cA rfl (cA rfl (cA rfl (cA rfl (cA (b2 rfl rfl (i1 _)) rfl)))))) (by simp)) rfl) (by simp)) (add ⟨"take","",false,0,0,x⟩)))))))) (B8 _)
  | ow s =>
   have h3:=fu hF (k+2) (eJ ‹_›) "fill" "" g1 (ho _ g1);exact gV (sq s1 (sq s2 (sq (iF t2 rfl) (sq (iF t1 rfl) (rS (b2 rfl (lS (cA (cx (cA rfl (cA rfl (cA (b2 rfl rfl (i1 _)) (cA rfl rfl)))) rfl (by simp[ah,hN,noRef]) h3) rfl) (by simp)) (add (tA "fill" x (.ow s) (Fy s) "")))))))) (B8 _)
end
def mD(i:Nat)(a:de):PV:=.ao [.int i,.str a.w,.str a.n,.bl a.t,.int a.f,.int a.m,.str a.k]
def dY:List de->List de
 | []=>[M7]
 | a::r=>a::r
structure Na (c:CT) (F p:PV) (as:List de):Prop where
 ex:∃w fn rest,p=.ao (.str w::rest)/\jK.lookup w=some fn/\W3.lookup fn=some 2/\Gives (c fn [F,p] []) (f9 as)
 few:as.length<=20
 nr:noRef p=true
def To(h:as.length<=20):(dY as).length<=20:=by
 cases as with
 | nil=>simp[dY]
 | cons a r=>exact h
def clF{tab:List (Str×Str)}{q:PV}(hk:Ev fk s (.str w) s1)(h1:tab.lookup w=some fn)(h2:fns.lookup fn=some n)(ha:Ev ts s1 as s2)(hl:as.length=n)(hn:(s2.h.isEmpty || ah as)=true)(hc:Gives (c fn as []) q):Ev (Bp fns c (Mc (λk=>(List.lookup k tab).map .fn) fk) ts) s q s2:=by
 obtain⟨p,h',e1,e2⟩:=hc;refine eB (eB hk (show(lb ((Wb (.str w)).bind λk=>(List.lookup k tab).map PV.fn)) s1=some (.ok (.fn fn),s1)from ?_)) (eB (a:=(fn,n)) ?_ (eB ha ?_))
 ·show((List.lookup w tab).map PV.fn).map _=_;rw[h1];rfl
 ·show((fns.lookup fn).map _).map _=_;rw[h2];rfl
 ·unfold pe;rw[if_pos ⟨hl,hn⟩,e1];show(o9 h' p).map _=_;rw[e2];rfl
def mkN(i:Nat)(a:de)(h:List aB):fD h (.ao [.int (i:Int)]) (lx a)=some (mD i a):=aT (by simp)
def Jx(hN:noRef F=true)(M:Na c F p as)(i:Nat)(ag:List PV)(hl:ag.length<=90000)(x0 x1 x6:Option PV):Ev (uu c) ⟨[x0,x1,some F,some (.ref 0),some (.int (i:Int)),some p,x6],[⟨.lst,ag⟩]⟩ .nx ⟨[x0,x1,some F,some (.ref 0),some (.int (i:Int)),some p,some (f9 as)],[⟨.lst,ag++(dY as).map (mD i)⟩]⟩:=by
 obtain⟨w,fn,rest,rfl,h1,h2,h3⟩:=M.ex;have hf:=M.few;have hn:=M.nr;have i0:∀h,aZ h (.ao (.str w::rest)) (.int 0)=some (.str w):=λh=>(rfl).trans (atI_nat rfl)
 refine sq (aS (clF (b2 rfl rfl (i0 _)) h1 h2 (cA rfl (cA rfl rfl)) rfl (by simp[ah,hN,hn]) h3) rfl) ?_
 have ho:Ek Q9 ⟨[x0,x1,some F,some (.ref 0),some (.int i),some (.ao (.str w::rest)),some (f9 as)],[⟨.lst,ag⟩]⟩ (f9 (dY as)):=by
  cases as with
  | nil=>rfl
  | cons a r=>rfl
 have hor:=To hf;exact dS (yZ rfl rfl (cA (cM (sV ho rfl) (c7 ‹_›) λa _=>e1 rfl (b2 (tU (cA rfl rfl) (by simp)) rfl (mkN i a _))) rfl) (xC rfl rfl (by grind)))
def uN:Nat->List (List de)->List PV
 | _,[]=>[]
 | i,as::r=>(dY as).map (mD i)++uN (i+1) r
theorem wR(hN:noRef F=true)(x0 x1:Option PV):∀(L:List (PV×List de)) (i:Nat) (ag:List PV) (x4 x5 x6:Option PV),(∀q∈L,Na c F q.1 q.2)->ag.length+20*L.length<=90000 ->
  ∃Aj vg J6,fW (gW 2 Q5) (uu c) (dN i (L.map (·.1))) ⟨[x0,x1,some F,some (.ref 0),x4,x5,x6],[⟨.lst,ag⟩]⟩=some (.ok .nx,⟨[x0,x1,some F,some (.ref 0),Aj,vg,J6],[⟨.lst,ag++uN i (L.map (·.2))⟩]⟩)
 | [],i,ag,x4,x5,x6,_,_=>⟨x4,x5,x6,by simp[uN];rfl⟩
 | (p,as)::L,i,ag,x4,x5,x6,h,hz=>by
  have M:=h (p,as) bg;have hor:=To (as:=as) M.few;simp only[aM]at hz;obtain⟨Aj,vg,J6,e⟩:=wR hN x0 x1 L (i+1) (ag++(dY as).map (mD i)) (some (.int i)) (some p) (some (f9 as)) (λq hq=>h q (aU _ hq)) (by grind)
  refine⟨Aj,vg,J6,?_⟩;rw[cj]at e;exact fC rfl (Jx hN M i ag (by lia) x0 x1 x6) e
theorem Cn:∀(L:List (List de)) (i:Nat),∀p∈uN i L,∃j a,p=mD j a
 | [],i,p,h=>by simp[uN]at h
 | as::L,i,p,h=>by
  rw[uN,bD]at h;rcases h with h | h
  ·grind
  ·exact Cn L (i+1) p h
def Xb(L:List (List de))(i:Nat):ah (uN i L)=true:=by
 have:∀l:List PV,(∀p∈l,noRef p=true)->ah l=true:=λl=>by
  induction l with
  | nil=>intro _;rfl
  | cons p l ih=>intro h;simp[ah,h p bg,ih λq hq=>h q (aU _ hq)]
 exact this _ λp hp=>by
  obtain⟨j,a,rfl⟩:=Cn L i p hp;rfl
def Xc{L:List (PV×List de)}(k:Nat)(hP:∀h,aZ h P (.int at_)=some F)(hF:F=.ao [a,b,d,e,.ao (L.map (·.1))])(hN:noRef F=true)(hM:∀q∈L,Na (run txt k) F q.1 q.2)(hl:L.length<=1000):Gives (run txt (k+1) "acts" [P,.int at_] []) (.lst (uN 0 (L.map (·.2)))):=by
 rw[MX];obtain⟨Aj,vg,J6,q⟩:=wR hN (some P) (some (.int at_)) L 0 [] none none none hM (by simp;lia)
 have h4:∀h,aZ h F (.int 4)=some (.ao (L.map (·.1))):=λh=>by rw[hF];rfl
 refine⟨_,_,j6 (sq (aS (b2 rfl rfl (hP _)) rfl) (sq rfl (sq (fS (sG (eV (b2 rfl rfl (h4 _)) rfl)) q) (rS rfl)))),?_⟩;exact mB (Xb _ _)
def zI(hc:h[n]?=some ⟨.lst,ps⟩)(hp:ah ps=true):o9 h (.ref n)=some (.lst ps):=by
 have hne:h.isEmpty=false:=by
  cases h with
  | nil=>simp at hc
  | cons a r=>rfl
 unfold o9;rw[hne,if_neg dc];unfold ve;rw[if_neg (by simp[noRef])]
 show((h[n]?).bind _)=_;rw[hc,dP];rw[if_pos (show live ⟨.lst,ps⟩=true from rfl),He ps hp]
 rfl
theorem zJ:∀t:iA,ah (t.map toldP)=true
 | []=>rfl
 | q::t=>by
  have:noRef (toldP q)=true:=by
   have h:∀l:List bK,ah (l.map pj++[.int q.2])=true:=λl=>by
    induction l with
    | nil=>rfl
    | cons k l ih=>simp only[aE,List.cons_append,ah,MT,ih,Bool.and_self]
   simpa[toldP,noRef]using h q.1
  simp[ah,this,zJ t]
def Nb(h:Ev fe s p s1)(hp:p=.lst (fk.map dv)\/∃j,p=.ref j/\s1.h[j]?=some ⟨.lst,fk.map dv⟩)
  (hc:c "tell_new"=du BQ 5) (hrs:∀ω n,rs ω n=du (W0 c ω n) 5) (hk:∀f∈fk,f.length<1000) (hl:fk.length<4000000) (hs:gY out wI 0 (dj [] (-1) fk)=some res)
  (hb:∀g fs,out g=some fs->(∀f∈fs,f.length<1000)/\∀ag,∃J4,fb ⟨some (dv g)::bE link s1.ρ,hS (s1.h++[nq]) ag⟩=some (.ok (.lst (fs.map dv)),⟨J4,hS (s1.h++[nq]) ag⟩)) :
  Ev (IV rs fe fb link) s (.ref (s1.h.length+1)) ⟨s1.ρ,hS (s1.h++[nq]) res⟩:=by
 refine eB h ?_;have hd:(s1.h++[nq]).length=s1.h.length+1:=by simp
 have r:=Ri (ω:=QJ fb (bE link s1.ρ)) (n:=s1.h.length) hc (λg fs e=>⟨(hb g fs e).1,λag ρ=>by
  obtain⟨J4,e2⟩:=(hb g fs e).2 ag;show(fb ⟨some (dv g)::bE link s1.ρ,hS (s1.h++[nq]) ag⟩).bind _=_;rw[e2];rfl⟩) (hp.imp id (by rintro⟨j,h1,h2⟩;exact⟨j,h1,by grind⟩)) hk hl hs
 show(rs (QJ fb (bE link s1.ρ)) s1.h.length [p,.ref s1.h.length] (s1.h++[nq])).map _=_;rw[hrs,r,hd];rfl
noncomputable def kN(n:Nat):List bK:=[.inl (n:Int)]
def iN(n:Nat):PV:=.int (n:Int)
def nT(l:List Nat):PV:=.ao (l.map iN)
structure Xd (ls:List (List Nat)) (N:Nat):Prop where
 len:ls.length=N
 ok:∀l∈ls,l.length<=2/\∀m∈l,m<N
 pos:0<N
 few:N<128
def FC(ls:List (List Nat)):List bK->Option (List (List bK))
 | [.inl i]=>if 0<=i then(ls[i.toNat]?).map λl=>l.map kN else none
 | _=>none
def Hg(hl:ls[n]?=some l):FC ls (kN n)=some (l.map kN):=by
 show(if 0<=n then(ls[(n:Int).toNat]?).map _ else none)=_
 rw[if_pos (dm _),ei,hl];rfl
def Nc(h:kN a=kN b):a=b:=by
 unfold kN at h;injection h with h _
 injection h with h
 exact Int.ofNat.inj h
def Hh(k:Nat):run txt (k+1) "tell_new"=du BQ 5:=zc k
def Nd(k:Nat)(ω:PV->Gx PV)(n:Nat):du (WO txt nJ (run txt k) ω n) 5=du (W0 (run txt k) ω n) 5:=by
 rw[Fs];rfl
def Nf(H:Xd ls N)(hd:List aB)(g:List bK)(fs:List (List bK))(e:FC ls g=some fs):(∀f∈fs,f.length<1000)/\∀ag,∃J4,Qd ⟨some (dv g)::[some (.lst (ls.map nT))],hS hd ag⟩=some (.ok (.lst (fs.map dv)),⟨J4,hS hd ag⟩):=by
 unfold FC at e;split at e
 ·rename_i i;obtain⟨h0,e⟩:=bR e;obtain⟨l,h1,rfl⟩:=bz e;refine⟨λf hf=>?_,λag=>⟨some (dv [.inl i])::[some (.lst (ls.map nT))],?_⟩⟩
  ·obtain⟨m,_,rfl⟩:=aA.mp hf;show 1<1000
   lia
  ·have h2:=(H.ok l (cB h1)).1;have ix:∀h,aZ h (.lst (ls.map nT)) (.int i)=some (nT l):=λh=>by
    have:=atI_nat (v:=nT l) (by rw[bZ,h1];rfl)
    rw[oz h0]at this;exact this
   have r:=cM (link:=[none,none]) (bd:=lq (aX 1) (mJ .ao Q0)) (s:=⟨some (dv [.inl i])::[some (.lst (ls.map nT))],hS hd ag⟩) (fi:=iu (op2 aZ (rd 1) (op2 aZ (rd 0) (kI 0)))) (sV (b2 rfl (b2 rfl rfl rfl) (ix _)) rfl) (c7 ‹_›) (λm _=>e1 rfl (tU (cA rfl rfl) (show 1<=4000000 by decide)))
   rw[b6];exact r
 ·cases e
def FE(H:Xd ls N):∃(ag:iA) (ns:List Nat),(∀k,Gives (run txt (k+2) "arrivals" [.lst (ls.map nT)] []) (.lst (ag.map toldP)))/\ag.map (·.1)=ns.map kN/\ns.Nodup/\(∀n∈ns,n<N)/\Ti (FC ls) [kN 0] ag/\Fd (FC ls) ag ag.length/\0∈ns:=by
 have hU:∀g∈(List.range N).map kN,∃fs,FC ls g=some fs/\(∀f∈fs,f∈(List.range N).map kN)/\fs.length<=2:=λg hg=>by
  obtain⟨n,hn,rfl⟩:=aA.mp hg;rw[cD]at hn;obtain⟨l,hl⟩:∃l,ls[n]?=some l:=⟨_,bU (by rw[H.len];exact hn)⟩
  obtain⟨h1,h2⟩:=H.ok l (cB hl);refine⟨_,Hg hl,λf hf=>?_,by grind⟩
  obtain⟨m,hm,rfl⟩:=aA.mp hf;exact aA.mpr ⟨m,cD.mpr (h2 m hm),rfl⟩
 have eF:((List.range N).map kN).length=N:=by simp
 have hf:=H.few;obtain⟨ag,t1,t2,t3,t4,t5,t6⟩:=um (FC ls) [kN 0] ((List.range N).map kN) 2 (by rw[eF];show N+2<4000000;lia) (by rw[eF];show N<3000000;lia) hU (λf hf=>by
  rw[bt]at hf;subst hf;exact aA.mpr ⟨0,cD.mpr H.pos,rfl⟩)
 have t3':∀f∈ag.map (·.1),∃n,n<N/\f=kN n:=λf hf=>by
  grind
 obtain⟨ns,e1,e2⟩:∃ns:List Nat,ag.map (·.1)=ns.map kN/\∀n∈ns,n<N:=by
  revert t3'
  generalize ag.map (·.1)=fs
  intro t3';induction fs with
  | nil=>exact⟨[],rfl,λ_ z=>nomatch z⟩
  | cons f fs ih =>
   obtain⟨n,hn,rfl⟩:=t3' f bg;obtain⟨ns,q1,q2⟩:=ih λg hg=>t3' g (aU _ hg)
   exact⟨n::ns,by grind⟩
 refine⟨ag,ns,?_,e1,?_,e2,t4,t5,?_⟩
 ·intro k;rw[zf];have r:=Nb (fe:=mJ .lst Qs) (link:=[some 0]) (s1:=S0 [some (.lst (ls.map nT))]) rfl (.inl rfl) (Hh k) (Nd (k+1)) (λf hf=>by rw[bt]at hf;subst hf;decide) (by decide) t1 (Nf H _)
  exact⟨_,_,j6 (rS r),zI (WZ) (zJ ag)⟩
 ·rw[e1]at t2;exact List.Pairwise.imp (λ{a b} h z=>h (by rw[z])) (List.pairwise_map.mp t2)
 ·have:=t6 (kN 0) (bt.mpr rfl);rw[e1]at this;obtain⟨n,hn,e⟩:=aA.mp this;rw[<-Nc e];exact hn
def eN(q:Nat×de):PV:=mD q.1 q.2
def iC:Nat->List (List de)->List (Nat×de)
 | _,[]=>[]
 | i,as::r=>(dY as).map (λa=>(i,a))++iC (i+1) r
theorem nQ:∀(L:List (List de)) (i:Nat),uN i L=(iC i L).map eN
 | [],_=>rfl
 | as::L,i=>by
  rw[uN,iC,ck,b6,nQ L (i+1)];rfl
theorem Co:∀(L:List (List de)) (i:Nat),∀q∈iC i L,i<=q.1/\q.1<i+L.length
 | [],_,_,h=>nomatch h
 | as::L,i,q,h=>by
  rw[iC,bD]at h;rw[aM];rcases h with h | h
  ·grind
  ·have:=Co L (i+1) q h
   lia
theorem uO:∀(L:List (List de)) (i j:Nat),i<=j->j<i+L.length->∃a,(j,a)∈iC i L
 | [],_,_,h1,h2=>by grind
 | as::L,i,j,h1,h2=>by
  rw[aM]at h2;by_cases e:j=i
  ·subst e;obtain⟨a,ha⟩:∃a,a∈dY as:=by
    cases as with
    | nil=>exact⟨M7,bg⟩
    | cons a r=>exact⟨a,bg⟩
   exact⟨a,by rw[iC];exact gG _ (aA.mpr ⟨a,ha,rfl⟩)⟩
  ·obtain⟨a,ha⟩:=uO L (i+1) j (by lia) (by lia)
   exact⟨a,by rw[iC];exact dO _ ha⟩
noncomputable def eE(kvs:List (bK×PV))(k:bK):Option PV:=(kvs.find? λkv=>decide (kv.1=k)).map (·.2)
def Yl(N:Nat)(kvs:List (bK×PV)):Prop:=∀q∈kvs,∃m:Nat,q.2=.int (m:Int)/\m<N
def FF(kvs:List (bK×PV))(k:bK)(p:PV):(eE (kvs++[(k,p)]) k).isSome=true:=by
 unfold eE;rw[DE,List.find?_isSome];exact⟨(k,p),by simp,by simp⟩
def uP(kvs ms:List (bK×PV))(k:bK)(h:(eE kvs k).isSome=true):(eE (kvs++ms) k).isSome=true:=by
 unfold eE at h ⊢;rw[DE,List.find?_isSome]at h ⊢;obtain⟨x,h1,h2⟩:=h;exact⟨x,gG _ h1,h2⟩
def Ng(h:Yl N kvs)(hk:(eE kvs k).isSome=true):∃m:Nat,eE kvs k=some (.int (m:Int))/\m<N:=by
 unfold eE at hk ⊢;cases e:kvs.find? λkv=>decide (kv.1=k)with
 | none=>rw[e]at hk;cases hk
 | some q =>
  obtain⟨m,h1,h2⟩:=h q (List.mem_of_find?_eq_some e);exact⟨m,by rw[gH,h1],h2⟩
def Hj:List (Nat×de)->Nat->List (bK×PV)->List (bK×PV)
 | [],_,kvs=>kvs
 | (j,_)::as,i,kvs=>match eE kvs (.inl (j:Int))with
  | some _=>Hj as (i+1) kvs
  | none=>Hj as (i+1) (kvs++[(.inl (j:Int),.int (i:Int))])
noncomputable def dC(kvs:List (bK×PV)):aB:=⟨.gU false (kvs.map λq=>[q.1]),kvs.map (·.2)⟩
theorem uQ(k:bK):∀kvs:List (bK×PV),gR [k] (kvs.map λq=>[q.1]) (kvs.map (·.2))=eE kvs k
 | []=>rfl
 | q::kvs=>by
  have ih:=uQ k kvs;unfold eE at ih ⊢;rw[aE,aE,gR];by_cases h:q.1=k
  ·grind
  ·grind
theorem Hk(k:bK):∀kvs:List (bK×PV),ll [k] (kvs.map λq=>[q.1])=(eE kvs k).isSome
 | []=>rfl
 | q::kvs=>by
  have ih:=Hk k kvs;unfold eE ll at ih ⊢;rw[aE,gp];by_cases h:q.1=k
  ·grind
  ·grind
def Xe(hl:kvs.length<4000000):∃p,mq IG (.ref 0) [.int j,y] ⟨ρ,dC kvs::r⟩=some (.ok p,⟨ρ,(match eE kvs (.inl j)with | some _=>dC kvs | none=>dC (kvs++[(.inl j,y)]))::r⟩):=by
 have e:mq IG (.ref 0) [.int j,y] ⟨ρ,dC kvs::r⟩=(if(kvs.map λq=>[q.1]).length<gF then(if ll [.inl j] (kvs.map λq=>[q.1])=true then(gR [.inl j] (kvs.map λq=>[q.1]) (kvs.map (·.2))).map λp=>(dC kvs,p)else some (⟨.gU false ((kvs.map λq=>[q.1])++[[.inl j]]),kvs.map (·.2)++[y]⟩,y))else none).map λr'=>(.ok r'.2,⟨ρ,(dC kvs::r).set 0 r'.1⟩):=rfl
 rw[e,if_pos (show(kvs.map λq=>[q.1]).length<gF by rw[aD];exact hl),Hk,uQ]
 cases eE kvs (.inl j)with
 | some v=>exact⟨v,rfl⟩
 | none=>exact⟨y,by simp[dC]⟩
def mtD(h1:Ev fo s (.ref n) s1)(hc:s1.h[n]?=some ⟨.gU t ks,ps⟩)(h2:Ev ts s1 as s2)(h3:w (.ref n) as s2=r):Dj "dict" w fo ts s=r:=by
 refine eB h1 (eB (a:=()) ?_ (eB h2 h3));show((cH s1.h (.ref n)).bind _).map _=_;have e:cH s1.h (.ref n)=some (.gU t ks,ps):=by
  show(s1.h[n]?).bind _=_;rw[hc];rfl
 rw[e];rfl
theorem kG(c:CT)(P I A:PV):∀(as:List (Nat×de)) (i:Nat) (kvs:List (bK×PV)) (x4 x5:Option PV),Yl i kvs->kvs.length<=i->i+as.length<=90000 ->
  (∃Aj vg,fW (gW 2 Q5) (wL c) (dN i (as.map eN)) ⟨[some P,some I,some A,some (.ref 0),x4,x5,none],[dC kvs]⟩=some (.ok .nx,⟨[some P,some I,some A,some (.ref 0),Aj,vg,none],[dC (Hj as i kvs)]⟩))/\Yl (i+as.length) (Hj as i kvs)/\(∃ms,Hj as i kvs=kvs++ms)/\∀q∈as,(eE (Hj as i kvs) (.inl (q.1:Int))).isSome=true
 | [],i,kvs,x4,x5,h,_,_=>⟨⟨x4,x5,rfl⟩,h,⟨[],by simp[Hj]⟩,λ_ z=>nomatch z⟩
 | (j,a)::as,i,kvs,x4,x5,h,hl,hz=>by
  rw[aM]at hz;have qB:gW 2 Q5 (pZ (.int i) (mD j a)) ⟨[some P,some I,some A,some (.ref 0),x4,x5,none],[dC kvs]⟩=some ⟨[some P,some I,some A,some (.ref 0),some (.int i),some (mD j a),none],[dC kvs]⟩:=rfl;obtain⟨p,hp⟩:=Xe (kvs:=kvs) (by lia)
  have hb:Ev (wL c) ⟨[some P,some I,some A,some (.ref 0),some (.int i),some (mD j a),none],[dC kvs]⟩ .nx ⟨[some P,some I,some A,some (.ref 0),some (.int i),some (mD j a),none],[match eE kvs (.inl j)with | some _=>dC kvs | none=>dC (kvs++[(.inl j,.int i)])]⟩:=dS (mtD rfl rfl (cA (b2 rfl rfl rfl) (cA rfl rfl)) hp)
  cases e:eE kvs (.inl j)with
  | some v =>
   have ek:Hj ((j,a)::as) i kvs=Hj as (i+1) kvs:=by rw[Hj,e]
   rw[e]at hb;obtain⟨⟨y4,y5,h1⟩,h2,⟨ms,h3⟩,h4⟩:=kG c P I A as (i+1) kvs (some (.int i)) (some (mD j a)) (λq hq=>by obtain⟨m,z1,z2⟩:=h q hq;exact⟨m,z1,(eJ ‹_›)⟩) (eJ ‹_›) (by lia)
   rw[ek];refine⟨⟨y4,y5,fC qB hb h1⟩,?_,⟨ms,h3⟩,λq hq=>?_⟩
   ·grind
   ·rcases aV.mp hq with rfl | hq
    ·rw[h3];exact uP _ _ _ (by rw[e];rfl)
    ·grind
  | none =>
   have ek:Hj ((j,a)::as) i kvs=Hj as (i+1) (kvs++[(.inl j,.int i)]):=by rw[Hj,e]
   rw[e]at hb;obtain⟨⟨y4,y5,h1⟩,h2,⟨ms,h3⟩,h4⟩:=kG c P I A as (i+1) (kvs++[(.inl j,.int i)]) (some (.int i)) (some (mD j a)) (λq hq=>by
    rcases bD.mp hq with hq | hq
    ·obtain⟨m,z1,z2⟩:=h q hq;exact⟨m,z1,(eJ ‹_›)⟩
    ·rw[bt]at hq;subst hq;exact⟨i,rfl,(aq _)⟩) (by grind) (by lia)
   rw[ek];refine⟨⟨y4,y5,fC qB hb h1⟩,?_,⟨(.inl j,.int i)::ms,by grind⟩,λq hq=>?_⟩
   ·grind
   ·rcases aV.mp hq with rfl | hq
    ·rw[h3];exact uP _ _ _ (FF _ _ _)
    ·grind
def zK(c:CT)(rows:PV)(n:Nat)(nx:Nat->List Nat):Prop:=∀j:Nat,j<n->Gives (c "row_nexts" [rows,.int (j:Int)] []) (nT (nx j))/\(nx j).length<=2/\∀m∈nx j,m<n
def uR(kvs:List (bK×PV))(m:Nat):Nat:=match eE kvs (.inl (m:Int))with
 | some (.int v)=>v.toNat
 | _=>0
def Cp(h:Yl N kvs){m:Nat} (hk:(eE kvs (.inl (m:Int))).isSome=true):eE kvs (.inl (m:Int))=some (.int (uR kvs m:Int))/\uR kvs m<N:=by
 obtain⟨v,h1,h2⟩:=Ng h hk;have e:uR kvs m=v:=by unfold uR;rw[h1];rfl
 rw[e];exact⟨h1,h2⟩
def qV(as:List (Nat×de))(kvs:List (bK×PV))(nx:Nat->List Nat)(i:Nat)(q:Nat×de):List Nat:=if as[i+1]?.map (·.1)=some q.1 then [i+1]else(nx q.1).map (uR kvs)
def Od(as:List (Nat×de))(kvs:List (bK×PV))(nx:Nat->List Nat):Nat->List (Nat×de)->List (List Nat)
 | _,[]=>[]
 | i,q::bs=>qV as kvs nx i q::Od as kvs nx (i+1) bs
def jU(h:List aB)(i j:Int):jv h (.int i) (.int j)=some (.bl (i==j)):=rfl
theorem rN:∀l:List Nat,ah (l.map iN)=true
 | []=>rfl
 | n::l=>by simp[ah,iN,noRef,rN l]
section
variable {c:CT} {fs:List PV} {I:Int} {nm res rows:PV} {R1 R2:List Rk} {n:Nat} {as:List (Nat×de)} {kvs:List (bK×PV)} {nx:Nat->List Nat}
def FG(hP:L2.mh fs I=some (Dl nm res rows R1 R2))(hN:noRef rows=true)(hR:zK c rows n nx)(hk:Yl as.length kvs) (hf:∀j:Nat,j<n->(eE kvs (.inl (j:Int))).isSome=true) (hl:as.length<=90000)
  (i:Nat) (q:Nat×de) (hq:as[i]?=some q) (hr:∀q∈as,q.1<n) (ag:List PV) (ht:ag.length<=90000) :
  Ev (pE c) ⟨[some (.ao fs),some (.int I),some (.lst (as.map eN)),some (.ref 0),some (.int (i:Int)),some (eN q),some (.ref 1)],[dC kvs,⟨.lst,ag⟩]⟩ .nx ⟨[some (.ao fs),some (.int I),some (.lst (as.map eN)),some (.ref 0),some (.int (i:Int)),some (eN q),some (.ref 1)],[dC kvs,⟨.lst,ag++[nT (qV as kvs nx i q)]⟩]⟩/\(qV as kvs nx i q).length<=2/\∀m∈qV as kvs nx i q,m<as.length:=by
 have hi:=(cz.mp hq).1;obtain⟨s,hs⟩:=nw (⟨[some (.ao fs),some (.int I),some (.lst (as.map eN)),some (.ref 0),some (.int i),some (eN q),some (.ref 1)],[dC kvs,⟨.lst,ag⟩]⟩:dq);rw[<-hs];have fL:Ev Qq s (decide ((i+1)<(as.length:Int))) s:=by
  rw[hs];refine bT (b2 (y:=.int (as.length:Int)) rfl (bV (cA rfl rfl) ?_) rfl);show some (PV.int (((as.map eN).length:Nat):Int))=_;rw[aD]
 have go:∀b:Bool,Ev (dF Qq (toB (op2 jv (op2 aZ (op2 aZ (rd 2) (op2 fD (rd 4) (kI 1))) (kI 0)) Qk)) (aN false)) s b s->(b=true↔as[i+1]?.map (·.1)=some q.1) ->
   Ev (pE c) s .nx ⟨[some (.ao fs),some (.int I),some (.lst (as.map eN)),some (.ref 0),some (.int i),some (eN q),some (.ref 1)],[dC kvs,⟨.lst,ag++[nT (qV as kvs nx i q)]⟩]⟩/\(qV as kvs nx i q).length<=2/\∀m∈qV as kvs nx i q,m<as.length:=λb hb h1=>by
  cases b with
  | true =>
   have h2:=h1.mp rfl;have h3:i+1<as.length:=by
    grind
   have en:qV as kvs nx i q=[i+1]:=if_pos h2;rw[en];refine⟨iT hb ?_,by grind⟩
   rw[hs];exact dS (yZ rfl rfl (cA (tU (cA (b2 rfl rfl rfl) rfl) (by simp)) rfl) (aC rfl (by lia)))
  | false =>
   obtain⟨r1,r2,r3⟩:=hR q.1 (hr q (cB hq));have en:qV as kvs nx i q=(nx q.1).map (uR kvs):=if_neg λz=>nomatch h1.mpr z
   rw[en];refine⟨iF hb ?_,by grind,λm hm=>?_⟩
   ·rw[hs];have iP:∀h,aZ h (.ao fs) (.int I)=some (Dl nm res rows R1 R2):=λh=>hP
    refine dS (yZ rfl rfl (cA (bV (cA (cM (G:=λm=>iN (uR kvs m)) (sV (cx (cA (b2 (b2 rfl rfl (iP _)) rfl rfl) (cA (b2 rfl rfl rfl) rfl)) rfl (by simp[ah,hN,noRef]) r1) rfl) (c7 ‹_›) λm hm=>?_) rfl) ?_) rfl) (aC rfl (by lia)))
    ·refine e1 rfl (b2 rfl rfl ?_);show gR [.inl m] (kvs.map λq=>[q.1]) (kvs.map (·.2))=_
     rw[uQ];exact(Cp hk (hf m (r3 m hm))).1
    ·unfold nT;rw[b6];rfl
   ·obtain⟨x,hx,rfl⟩:=aA.mp hm;exact(Cp hk (hf x (r3 x hx))).2
 by_cases h:i+1<as.length
 ·obtain⟨q',yb⟩:∃q',as[i+1]?=some q':=⟨_,bU h⟩
  refine go ((q'.1:Int)==(q.1:Int)) ?_ (by grind)
  rw[bX (by lia)]at fL
  refine iT fL ?_;rw[hs];have ix:∀h,aZ h (.lst (as.map eN)) (.int ((i:Int)+1))=some (eN q'):=λh=>atI_nat (xs:=as.map eN) (j:=i+1) (by grind)
  exact bT (b2 (x:=.int (q'.1:Int)) (y:=.int (q.1:Int)) (b2 (b2 rfl (b2 rfl rfl rfl) (ix _)) rfl rfl) (b2 rfl rfl rfl) (jU _ _ _))
 ·refine go false ?_ ⟨(λz=>nomatch z),λz=>by grind⟩
  rw[iV (by lia)]at fL
  exact iF fL rfl
theorem uS(hP:L2.mh fs I=some (Dl nm res rows R1 R2))(hN:noRef rows=true)(hR:zK c rows n nx)(hk:Yl as.length kvs) (hf:∀j:Nat,j<n->(eE kvs (.inl (j:Int))).isSome=true) (hl:as.length<=40000) (hr:∀q∈as,q.1<n):∀(bs pre:List (Nat×de)) (ag:List PV) (x4 x5:Option PV),as=pre++bs->ag.length=pre.length ->
  ∃(Aj vg:Option PV),fW (gW 2 Q5) (pE c) (dN pre.length (bs.map eN)) ⟨[some (.ao fs),some (.int I),some (.lst (as.map eN)),some (.ref 0),x4,x5,some (.ref 1)],[dC kvs,⟨.lst,ag⟩]⟩=some (.ok .nx,⟨[some (.ao fs),some (.int I),some (.lst (as.map eN)),some (.ref 0),Aj,vg,some (.ref 1)],[dC kvs,⟨.lst,ag++(Od as kvs nx pre.length bs).map nT⟩]⟩)/\(Od as kvs nx pre.length bs).length=bs.length/\∀l∈Od as kvs nx pre.length bs,l.length<=2/\∀m∈l,m<as.length
 | [],pre,ag,x4,x5,_,_=>⟨x4,x5,by simp[Od];rfl,rfl,λ_ z=>nomatch z⟩
 | q::bs,pre,ag,x4,x5,e,ht=>by
  have vX:pre.length<=as.length:=by rw[e,bJ];lia
  have hq:as[pre.length]?=some q:=by rw[e];simp
  obtain⟨h1,h3,h4⟩:=FG hP hN hR hk hf (by lia) pre.length q hq hr ag (by lia)
  obtain⟨y4,y5,h5,h6,h7⟩:=uS hP hN hR hk hf hl hr bs (pre++[q]) (ag++[nT (qV as kvs nx pre.length q)]) (some (.int (pre.length:Int))) (some (eN q)) (by rw[e];simp) (by simp[ht])
  rw[show(pre++[q]).length=pre.length+1 by simp]at h5 h6 h7
  refine⟨y4,y5,?_,by simp[Od,h6],λx hx=>?_⟩
  ·rw[aE,dN,Od,aE,show ag++nT (qV as kvs nx pre.length q)::(Od as kvs nx (pre.length+1) bs).map nT=ag++[nT (qV as kvs nx pre.length q)]++(Od as kvs nx (pre.length+1) bs).map nT by simp]
   exact fC rfl h1 h5
  ·rcases aV.mp hx with rfl | hx
   ·exact⟨h3,h4⟩
   ·exact h7 x hx
end
def rO(L:List (List de))(nx:Nat->List Nat):List (List Nat):=Od (iC 0 L) (Hj (iC 0 L) 0 []) nx 0 (iC 0 L)
theorem zL:∀l:List (List Nat),ah (l.map nT)=true
 | []=>rfl
 | a::l=>by simp[ah,nT,noRef,rN,zL l]
def Rx(k:Nat){R1 R2:List Rk}(hP:L2.mh fs I=some (Dl nm res rows R1 R2))(hN:noRef rows=true)(hA:Gives (run txt k "acts" [.ao fs,.int I] []) (.lst (uN 0 L)))(hR:zK (run txt k) rows L.length nx)(hz:(iC 0 L).length<=40000) :
  Gives (run txt (k+1) "nexts" [.ao fs,.int I] []) (.lst ((rO L nx).map nT))/\(rO L nx).length=(iC 0 L).length/\∀l∈rO L nx,l.length<=2/\∀m∈l,m<(iC 0 L).length:=by
 rw[nQ]at hA;obtain⟨⟨x4,x5,h1⟩,h2,-,h4⟩:=kG (run txt k) (.ao fs) (.int I) (.lst ((iC 0 L).map eN)) (iC 0 L) 0 [] none none (λ_ z=>nomatch z) (by simp) (by lia)
 rw[dy]at h2;obtain⟨y4,y5,g1,g2,g3⟩:=uS hP hN hR h2 (λj hj=>by
  obtain⟨a,ha⟩:=uO L 0 j (dm _) (c7 ‹_›);exact h4 _ ha) hz (λq hq=>by have:=Co L 0 q hq;lia) (iC 0 L) [] [] x4 x5 rfl rfl
 refine⟨?_,g2,g3⟩;rw[Jm];rw[fN]at g1;refine⟨_,_,j6 (sq (aS (cx (cA rfl (cA rfl rfl)) rfl rfl hA) rfl) (sq rfl (sq (fS (sG (eV rfl rfl)) h1) (sq rfl (sq (fS (sG (eV rfl rfl)) g1) (rS rfl)))))),?_⟩;exact zI rfl (zL _)
structure Tp (n j:Nat) (p:PV):Prop where
 ok:∃s,(∀h,aZ h p (.int 0)=some (.str s))/\((s==(Str.ofString "go"))=true->∃m:Nat,(∀h,aZ h p (.int 1)=some (iN m))/\m<n)/\((s==(Str.ofString "if"))=true->∃m:Nat,(∀h,aZ h p (.int 3)=some (iN m))/\m<n)/\((s==(Str.ofString "give"))=false->(s==(Str.ofString "go"))=false->j+1<n)
def two(a b:Int):List Int:=if b<a then [b,a]else if a<b then [a,b]else [a]
def Nh(a b:Int):iI (pf (λi=>[a,b].getD i 0) 2)=two a b:=by
 have e:pf (λi=>[a,b].getD i 0) 2=if b=a then [a]else [a,b]:=by
  show lH (lH [] a) b=_;unfold lH;by_cases h:b=a
  ·simp[h]
  ·simp[h]
 rw[e];unfold two;by_cases h1:b<a
 ·rw[if_pos h1,if_neg (by lia)]
  show(if a<=b then [a,b]else [b,a])=_
  rw[if_neg (by lia)]
 ·rw[if_neg h1];by_cases h2:a<b
  ·rw[if_pos h2,if_neg (by lia)]
   show(if a<=b then [a,b]else [b,a])=_
   rw[if_pos (by lia)]
  ·rw[if_neg h2,if_pos (by lia)]
   rfl
noncomputable def Cq(a b:Nat):List Nat:=if b<a then [b,a]else if a<b then [a,b]else [a]
def abd(a b:Nat):two (a:Int) (b:Int)=(Cq a b).map λn:Nat=>(n:Int):=by
 unfold two Cq;by_cases h1:b<a
 ·grind
 ·grind
def cell(ns:List Int)(i:Nat):Int:=ns.getD i 0
def Ni(k:Nat)(ns:List Int)(i:Nat):Gives (run txt (k+1) "_law_cell_at" [E8 ns,.int (i:Int)] []) (.int (cell ns i)):=by
 rw[zj];have t:Ek (toB (op2 Et (rd 1) (fX fB Qm))) (S0 [some (E8 ns),some (.int (i:Int))]) (decide ((i:Int)<(ns.length:Int))):=bT (b2 rfl (bV (cA rfl rfl) (by
  show some (PV.int (((ns.map PV.int).length:Nat):Int))=_;rw[aD])) rfl)
 by_cases h:i<ns.length
 ·rw[bX (by lia)]at t
  have ix:∀h,aZ h (E8 ns) (.int i)=some (.int (cell ns i)):=λ_=>atI_nat (by rw[bZ,bU h];simp[cell,h])
  exact gV (qP (iT t (rS (b2 rfl rfl (ix _))))) rfl
 ·rw[iV (by lia)]at t
  have:cell ns i=0:=by simp[cell,List.getD,ou (oE h)]
  rw[this];exact gV (sq (iF t rfl) (rS rfl)) rfl
def c9(hj:0<j):gM h (.int i) (.int j)=some (.int (i%j)):=if_pos (bX hj)
def zM(hj:0<j/\j<1073741824):ju h (.int i) (.int j)=some (.int (i/j)):=if_pos (bX hj)
def Cr(hj:(-Gp<i/\i<Gp)\/(-Gp<j/\j<Gp)):vn h (.int i) (.int j)=some (.int (i*j)):=if_pos (bX hj)
noncomputable def mxA:Nat->Int×Int
 | 0=>(48271,2147483647)
 | 1=>(69621,998244353)
 | 2=>(40692,1000000007)
 | _=>(16807,2147483629)
def Jy(c:Int)(i:Nat):Int:=(c%1000000000039+(i:Int))*(mxA i).1%(mxA i).2
def nU(k:Nat)(c:Int){i:Nat}(hi:i<4):Gives (run txt (k+1) "_law_mixed" [.int c,.int (i:Int)] []) (.int (Jy c i)):=by
 rw[Fg];have hm:∀h,gM h (.int c) (.int 1000000000039)=some (.int (c%1000000000039)):=λ_=>c9 (by decide)
 match i,hi with
 | 0,_=>exact gV (sq (aS rfl rfl) (rS (b2 (b2 (b2 (b2 rfl rfl (hm _)) rfl rfl) rfl (Cr (.inr (by decide)))) rfl (c9 (by decide))))) rfl
 | 1,_=>exact gV (sq (aS rfl rfl) (rS (b2 (b2 (b2 (b2 rfl rfl (hm _)) rfl rfl) rfl (Cr (.inr (by decide)))) rfl (c9 (by decide))))) rfl
 | 2,_=>exact gV (sq (aS rfl rfl) (rS (b2 (b2 (b2 (b2 rfl rfl (hm _)) rfl rfl) rfl (Cr (.inr (by decide)))) rfl (c9 (by decide))))) rfl
 | 3,_=>exact gV (sq (aS rfl rfl) (rS (b2 (b2 (b2 (b2 rfl rfl (hm _)) rfl rfl) rfl (Cr (.inr (by decide)))) rfl (c9 (by decide))))) rfl
 | n+4,h=>lia
noncomputable def cp(n:Int):Nat:=97+(n%26).toNat
def lt(n:Int):Str:=⟨#[cp n]⟩
def fJ(l:List Nat):Str:=⟨l.toArray⟩
def wU(h:fJ a=fJ b):a=b:=by
 have:a.toArray=b.toArray:=dA Str.cps h;simpa using this
def FH(a b:List Nat):fJ a++fJ b=fJ (a++b):=by
 show Str.append _ _=_;unfold Str.append fJ;simp
def abe(n:Int):lt n=fJ [cp n]:=rfl
def Hl:(Str.ofString "")=fJ []:=by decide +kernel
def Hm(l:List Nat):(fJ l).length=l.length:=by
 unfold fJ Str.length;simp
def FI:∀m:Fin 26,L2.mh (Str.ofString "abcdefghijklmnopqrstuvwxyz").cps.toList ((m:Nat):Int)=some (97+(m:Nat)):=by decide +kernel
def Jz(h:List aB)(n:Int):aZ h (.str "abcdefghijklmnopqrstuvwxyz") (.int (n%26))=some (.str (lt n)):=by
 have h0:=l7 n (show 26≠0 by decide)
 have h1:=xp n (show 0<26 by decide)
 obtain⟨m,hm⟩:=xf h0;have:=FI ⟨m,by lia⟩
 show(if(Str.ofString "abcdefghijklmnopqrstuvwxyz").length<=gF then(L2.mh (Str.ofString "abcdefghijklmnopqrstuvwxyz").cps.toList (n%26)).map λc=>PV.str ⟨#[c]⟩else none)=_
 rw[if_pos (by decide +kernel),hm,this]
 show some (PV.str ⟨#[97+m]⟩)=some (PV.str ⟨#[cp n]⟩);unfold cp;rw[hm,ei]
def Xf(h:cp a=cp b):a%26=b%26:=by
 unfold cp at h;have h0:=l7 a (show 26≠0 by decide)
 have h1:=l7 b (show 26≠0 by decide)
 lia
abbrev abc:PV:=.str "abcdefghijklmnopqrstuvwxyz"
def Xg(B:List Int)(pl q i:Nat):Nat:=cp (B.getD i 0+(q:Int)*(if i=pl then 1 else 0))
def Hn(B:List Int)(pl q:Nat):Str:=fJ ((List.range B.length).map (Xg B pl q))
def mE(i:Nat):PV:=.int (0+(i:Int))
def lP(h:Ev ts s [iN j] s1)(hj:j<=4000000):Ev (L3 (ED Bi ts)) s (.sq ((List.range j).map mE)) s1:=by
 refine sG (eB h ?_);show Option.map _ (if V3 0 j=true then some (P7 0 (j:Int).toNat)else none)=_
 rw[if_pos (by unfold V3;rw[iU];lia),ei]
 rfl
section
variable (c:CT) (x0 x1:Option PV) (B:List Int) (pl q:Nat)
def nS(x0 x1:Option PV)(B:List Int)(pl:Nat)(x5 x8 x9:Option PV)(F:List PV):dq:=⟨[x0,x1,some abc,some (iN B.length),some (iN pl),x5,some (.lst (B.map .int)),some (.ref 0),x8,x9],[⟨.lst,F⟩]⟩
def Ct(F:List PV)(i:Nat)(hi:i<B.length)(N:List Nat)(hN:N.length<=100)(hq:q<=100):Ev (uC c) (nS x0 x1 B pl (some (mE i)) (some (mE q)) (some (.str (fJ N))) F) .nx (nS x0 x1 B pl (some (mE i)) (some (mE q)) (some (.str (fJ (N++[Xg B pl q i])))) F):=by
 have e0:∀j:Nat,mE j=iN j:=λj=>by unfold mE iN;rw[kh]
 rw[e0,e0];have hb:∀h,aZ h (.lst (B.map PV.int)) (.int i)=some (.int (B.getD i 0)):=λ_=>atI_nat (by rw[bZ,Kf,bU hi];rfl)
 have he:∀h,Iu h [.bl (i==(pl:Int))]=some (.int (if i=pl then 1 else 0)):=λh=>by
  by_cases hh:i=pl
  ·rw[if_pos hh,hh,fz];rfl
  ·rw[if_neg hh,show(i==(pl:Int))=false by rw[jF];lia];rfl
 have hm:∀h,vn h (.int q) (.int (if i=pl then 1 else 0))=some (.int (q*(if i=pl then 1 else 0))):=λh=>Cr (.inr (by split<;>decide))
 have hs:∀h,fD h (.str (fJ N)) (.str (lt (B.getD i 0+q*(if i=pl then 1 else 0))))=some (.str (fJ (N++[Xg B pl q i]))):=λh=>by
  have e:fD h (.str (fJ N)) (.str (lt (B.getD i 0+q*(if i=pl then 1 else 0))))=sizeOk ((fJ N).length+(lt (B.getD i 0+q*(if i=pl then 1 else 0))).length) (.str (fJ N++lt (B.getD i 0+q*(if i=pl then 1 else 0)))):=rfl
  rw[e,abe,FH,Hm,Hm];exact if_pos (show N.length+1<=gF by have:gF=4000000:=rfl;lia)
 exact aS (b2 rfl (b2 rfl (b2 (b2 (b2 rfl rfl (hb _)) (b2 rfl (bV (cA (b2 rfl rfl (jU _ _ _)) rfl) (he _)) (hm _)) rfl) rfl (c9 (by decide))) (Jz _ _)) (hs _)) rfl
theorem qm(F:List PV)(hq:q<=100):∀(Dk pre:List Nat) (x5:Option PV),List.range B.length=pre++Dk->B.length<=50->∃vg,fW (aX 5) (uC c) (Dk.map mE) (nS x0 x1 B pl x5 (some (mE q)) (some (.str (fJ (pre.map (Xg B pl q))))) F)=some (.ok .nx,nS x0 x1 B pl vg (some (mE q)) (some (.str (Hn B pl q))) F)
 | [],pre,x5,e,_=>⟨x5,by unfold Hn;rw[e,fA];rfl⟩
 | i::Dk,pre,x5,e,hl=>by
  have hi:i<B.length:=cD.mp (by grind)
  have hp:pre.length<=B.length:=by
   have:=dA List.length e;rw[eP,bJ]at this
   lia
  have hb:=Ct c x0 x1 B pl q F i hi (pre.map (Xg B pl q)) (by grind) hq
  obtain⟨vg,h⟩:=qm F hq Dk (pre++[i]) (some (mE i)) (by grind) hl
  rw[ck]at h;exact⟨vg,fC rfl hb h⟩
def JA(F:List PV)(hF:F.length<=100)(hq:q<=100)(hl:B.length<=50)(x5 x9:Option PV):∃vg,Ev (uD c) (nS x0 x1 B pl x5 (some (mE q)) x9 F) .nx (nS x0 x1 B pl vg (some (mE q)) (some (.str (Hn B pl q))) (F++[.str (Hn B pl q)])):=by
 obtain⟨vg,h⟩:=qm c x0 x1 B pl q F hq (List.range B.length) [] x5 rfl hl;refine⟨vg,sq (s1:=nS x0 x1 B pl x5 (some (mE q)) (some (.str (fJ []))) F) (by rw[<-Hl];rfl) (sq (fS (lP rfl (c7 ‹_›)) h) (dS (yZ rfl rfl (cA rfl rfl) (aC rfl (by lia)))))⟩
end
theorem uT(c:CT)(x0 x1:Option PV)(B:List Int)(pl:Nat)(hl:B.length<=50):∀(qs:List Nat) (F:List PV) (x5 x8 x9:Option PV),(∀q∈qs,q<=100)->F.length+qs.length<=100->∃vg x8' x9',fW (aX 8) (uD c) (qs.map mE) (nS x0 x1 B pl x5 x8 x9 F)=some (.ok .nx,nS x0 x1 B pl vg x8' x9' (F++qs.map λq=>.str (Hn B pl q)))
 | [],F,x5,x8,x9,_,_=>⟨x5,x8,x9,by simp;rfl⟩
 | q::qs,F,x5,x8,x9,hq,hz=>by
  rw[aM]at hz;obtain⟨y5,h⟩:=JA c x0 x1 B pl q F (by lia) (hq q bg) hl x5 x9
  obtain⟨z5,z8,z9,h2⟩:=uT c x0 x1 B pl hl qs (F++[.str (Hn B pl q)]) y5 (some (mE q)) (some (.str (Hn B pl q))) (λr hr=>hq r (aU _ hr)) (by simp;lia)
  refine⟨z5,z8,z9,?_⟩;rw[aE,aE,show F++PV.str (Hn B pl q)::qs.map (λq=>PV.str (Hn B pl q))=F++[PV.str (Hn B pl q)]++qs.map (λq=>PV.str (Hn B pl q)) by simp]
  exact fC rfl h h2
def Ry(hp:pl<B.length)(h1:q<26)(h2:q'<26)(h:Hn B pl q=Hn B pl q'):q=q':=by
 have h:=wU h;have at_:∀q:Nat,((List.range B.length).map (Xg B pl q))[pl]?=some (cp (B.getD pl 0+q)):=λq=>by
  rw[bZ,su hp];simp[Xg]
 have e:=dA (λl=>l[pl]?) h
 simp only[at_]at e;have:=Xf (cC e)
 lia
noncomputable def Dn(C:Int):Nat:=(1+C%8).toNat
def Rz(C:Int):List Int:=(List.range (Dn C)).map fun(i:Nat)=>(C/(64+9*(i:Int)*i)+5*(i:Int))%26
def RA(C:Int):Nat:=(C/8%(Dn C:Int)).toNat
def rP(C:Int):(Rz C).length=Dn C:=by simp[Rz]
def zN(C:Int):1<=Dn C/\Dn C<=8/\(Dn C:Int)=1+C%8:=by unfold Dn;lia
def Nj(C:Int):RA C<(Rz C).length/\(RA C:Int)=C/8%(Dn C:Int):=by
 have h:=zN C;have h0:=l7 (C/8) (show(Dn C:Int)≠0 by lia)
 have h1:=xp (C/8) (show 0<(Dn C:Int) by lia)
 rw[rP];unfold RA
 lia
def jB(C:Int)(q:Nat):Str:=Hn (Rz C) (RA C) q
def Ho(h1:q<26)(h2:q'<26)(h:jB C q=jB C q'):q=q':=Ry (Nj C).1 h1 h2 h
def Xh(C:Int)(q:Nat):(jB C q==(Str.ofString ""))=false:=by
 rw[Hl,jF];intro h;have:=dA List.length (wU h);rw[aD,eP,rP]at this;have:=zN C;simp at *
 lia
def JB(C:Int)(x1 x2 x4 x5 x6 x7 x8 x9:Option PV):Ek (di false [none,none,some 0] (L3 (ED Bi Qn)) (lq (aX 1) (op2 gM (op2 fD (op2 ju (rd 2) (op2 fD (kI 64) (op2 vn (op2 vn (kI 9) (rd 1)) (rd 1)))) (op2 vn (kI 5) (rd 1))) (kI 26)))) (S0 [some (.int C),x1,x2,some (iN (Dn C)),x4,x5,x6,x7,x8,x9]) (.lst ((Rz C).map .int)):=by
 have hl:=zN C;unfold Rz;rw[b6];refine cM (lP (cA rfl rfl) (by lia)) (by grind) λi hi=>?_
 have hi:=cD.mp hi;have hi7:i<=7:=by lia
 have e0:mE i=iN i:=by unfold mE iN;rw[kh]
 rw[e0];have hB:Gp=18446744073709551616\/1000<Gp:=by right;decide
 have h9:∀h,vn h (.int 9) (.int i)=some (.int (9*i)):=λ_=>Cr (.inl (by decide))
 have hsq:0<=9*(i:Int)*i/\9*(i:Int)*i<=441:=by
  have:i=0\/i=1\/i=2\/i=3\/i=4\/i=5\/i=6\/i=7:=by lia
  rcases this with rfl | rfl | rfl | rfl | rfl | rfl | rfl | rfl<;>simp
 have hmm:∀h,vn h (.int (9*i)) (.int i)=some (.int (9*i*i)):=λ_=>Cr (.inr (by
  grind))
 have h5:∀h,vn h (.int 5) (.int i)=some (.int (5*i)):=λ_=>Cr (.inl (by decide))
 exact e1 rfl (b2 (b2 (b2 rfl (b2 rfl (b2 (b2 rfl rfl (h9 _)) rfl (hmm _)) rfl) (zM (by lia))) (b2 rfl rfl (h5 _)) rfl) rfl (c9 (by decide)))
def nmL(C:Int)(n:Nat):List PV:=(List.range n).map λq=>.str (jB C q)
theorem gg(f:α->Str):∀l:List α,ah (l.map λa=>PV.str (f a))=true
 | []=>rfl
 | _::l=>by rw[aE];simp[ah,noRef,gg f l]
def RC(k:Nat)(C:Int)(n:Nat)(hn:n<=26):Gives (run txt (k+1) "_law_names" [.int C,iN n] []) (.lst (nmL C n)):=by
 have hl:=zN C;have hp:=Nj C;rw[Fh];obtain⟨x5,x8,x9,h⟩:=uT (run txt k) (some (.int C)) (some (iN n)) (Rz C) (RA C) (by rw[rP];lia) (List.range n) [] none none none (λq hq=>by grind) (by simp;lia)
 rw[fN]at h;have a2:Ev (c6 (op2 gM (op2 ju (rd 0) (kI 8)) (rd 3)) (aX 4)) (S0 [some (.int C),some (iN n),some abc,some (iN (Dn C)),none,none,none,none,none,none]) .nx (S0 [some (.int C),some (iN n),some abc,some (iN (Dn C)),some (iN (RA C)),none,none,none,none,none]):=by
  have e:iN (RA C)=.int (C/8%(Dn C:Int)):=by unfold iN;rw[hp.2]
  rw[e];exact aS (b2 (b2 rfl rfl (zM (by decide))) rfl (c9 (by lia))) rfl
 have hh:nS (some (.int C)) (some (iN n)) (Rz C) (RA C) none none none []=⟨[some (.int C),some (iN n),some abc,some (iN (Dn C)),some (iN (RA C)),none,some (.lst ((Rz C).map .int)),some (.ref 0),none,none],[⟨.lst,[]⟩]⟩:=by unfold nS;rw[rP]
 rw[hh]at h;refine⟨.ref 0,[⟨.lst,nmL C n⟩],?_,mB (gg _ _)⟩;refine j6 (sq rfl (sq (by
  have e:iN (Dn C)=.int (1+C%8):=by unfold iN;rw[hl.2.2]
  rw[e];exact aS (b2 rfl (b2 rfl rfl (c9 (by decide))) rfl) rfl) (sq a2 (sq (aS (JB C _ _ _ _ _ _ _ _) rfl) (sq rfl (sq (fS (lP (cA rfl rfl) (c7 ‹_›)) h) (rS rfl)))))))
noncomputable def jj(c:Int):Sh:=match(c%7).toNat with
 | 0=>.bB [.num,.num]
 | 1=>.own
 | 2=>.bI (1+c/7%8)
 | 3=>.num
 | 4=>.bB [.num,.own]
 | 5=>.bB [.bI (1+c/7%8),.own]
 | _=>.bB [.bB [.num,.num],.bI (1+c/7%8)]
def RD(k:Nat)(c:Int):Gives (run txt (k+1) "_law_shape" [.int c] []) (enc (jj c)):=by
 rw[Fi];obtain⟨n,hn⟩:=nw (1+c/7%8);have a1:Ev (c6 (mJ .ao (ak (kS "strip") (ak (op2 fD (kI 1) (op2 gM (op2 ju (rd 0) (kI 7)) (kI 8))) (aN [])))) (aX 1)) (S0 [some (.int c),none,none,none]) .nx (S0 [some (.int c),some (enc (.bI n)),none,none]):=by
  rw[hn];exact aS (tU (cA rfl (cA (b2 rfl (b2 (b2 rfl rfl (zM (by decide))) rfl (c9 (by decide))) rfl) rfl)) (by simp)) rfl
 have hi:∀h,aZ h (.lst (bY [.bB [.num,.num],.own,.bI n,.num,.bB [.num,.own],.bB [.bI n,.own]]++bY [.bB [.bB [.num,.num],.bI n]])) (.int (c%7))=some (enc (jj c)):=λh=>by
  have:c%7=0\/c%7=1\/c%7=2\/c%7=3\/c%7=4\/c%7=5\/c%7=6:=by lia
  unfold jj;rcases this with h | h | h | h | h | h | h<;>rw[h,hn]<;>rfl
 exact gV (sq a1 (sq rfl (sq rfl (rS (b2 (b2 rfl rfl (aL (by simp[bY]))) (b2 rfl rfl (c9 (by decide))) (hi _)))))) (dH _)
def ly(r:Rw):PV:=.ao [.ao (r.1.map .int),enc r.2.2.2]
theorem uU:∀l:List Int,ah (l.map PV.int)=true
 | []=>rfl
 | _::l=>by rw[aE];simp[ah,noRef,uU l]
def abg(r:Rw):noRef (ly r)=true:=by simp[ly,noRef,ah,uU,dH]
theorem Tq:∀l:List Rw,ah (l.map ly)=true
 | []=>rfl
 | r::l=>by rw[aE];simp[ah,abg,Tq l]
def Cu(i:Nat)(a:Int)(s:Sh)(r:List Sh):tabs i a (s::r)=(tab s).map (qd i a)++tabs (i+1) (a+sz s) r:=rfl
theorem uV(c:CT)(S:Option PV):∀(Dk:List Sh) (i:Nat) (acc:List Rw) (a:Int) (o2 o3:Option PV),(∀s∈Dk,Gives (c "_law_parts" [enc s] []) (.lst ((tab s).map ly)))->acc.length+jg Dk<=1000 ->
  ∃Xi Xj,fW (gW 2 Q1) (Fj c) (dN i (bY Dk)) (S0 [S,some (.lst (acc.map ly)),o2,o3])=some (.ok .nx,S0 [S,some (.lst ((acc++tabs i a Dk).map ly)),Xi,Xj])
 | [],i,acc,a,o2,o3,_,_=>⟨o2,o3,by simp[bY,dN,tabs];rfl⟩
 | s::Dk,i,acc,a,o2,o3,h,hz=>by
  have h1:=h s bg;simp only[jg]at hz;obtain⟨Xi,Xj,e⟩:=uV c S Dk (i+1) (acc++(tab s).map (qd i a)) (a+sz s) (some (.int i)) (some (enc s)) (λs hs=>h s (aU _ hs)) (by grind)
  refine⟨Xi,Xj,?_⟩;rw[Cu,<-cj];have hp:∀r∈tab s,r.1.length<=1000:=λr hr=>by have:=G5 s r hr;have:=Tf s;lia
  exact fC rfl (by
   rw[ck,b6];refine aS (b2 rfl (cM (sV (cx rfl rfl rfl h1) rfl) (by lia) λr hr=>?_) (aL (by simp only[aD];lia))) rfl
   have hl:=hp r hr;exact e1 rfl (tU (cA (b2 rfl rfl (aT (by simp only[aM,sH,aD];lia))) (cA rfl rfl)) (by simp))) e
def Nk(h:List aB)(s:Sh):jv h (.str (Yj s)) (.str "rec")=some (.bl (!jf s)):=by cases s<;>rfl
def qo(s:Sh)(x1 x2 x3:Option PV):Ev (c6 (mJ .lst (ak (mJ .ao (ak (mJ .ao (aN [])) Qm)) (aN []))) (aX 1)) (S0 [some (enc s),x1,x2,x3]) .nx (S0 [some (enc s),some (.lst [ly ([],0,sz s,s)]),x2,x3]):=rfl
def mF(k:Nat)(h:jf s=true):Gives (run txt (k+1) "_law_parts" [enc s] []) (.lst ((tab s).map ly)):=by
 rw[uE];have he:=Nk [] s;rw[h]at he;rw[MP h];exact gV (sq (qo s none none none) (sq (iF (bT (b2 (b2 rfl rfl (qi _ s)) rfl he)) rfl) (rS rfl))) (by simp[noRef,ah,abg])
def JC(k:Nat) (h:∀s∈ps,Gives (run txt k "_law_parts" [enc s] []) (.lst ((tab s).map ly))) (hl:jg ps<=900):Gives (run txt (k+1) "_law_parts" [enc (.bB ps)] []) (.lst ((tab (.bB ps)).map ly)):=by
 rw[uE];have he:=Nk [] (.bB ps);obtain⟨o2,o3,e⟩:=uV (run txt k) (some (enc (.bB ps))) ps 0 [([],0,sz (.bB ps),.bB ps)] 0 none none h (by simp;lia)
 have ht:tab (.bB ps)=[([],0,sz (.bB ps),.bB ps)]++tabs 0 0 ps:=by simp[tab,sz,lv]
 rw[ht];exact gV (sq (qo (.bB ps) none none none) (sq (iT (bT (b2 (b2 rfl rfl (qi _ (.bB ps))) rfl he)) (fS (sG (eV (b2 rfl rfl (by simp only[enc];rfl)) rfl)) e)) (rS rfl))) (Tq _)
mutual
theorem zO:∀(s:Sh) (k:Nat),dp s<=k->(tab s).length<=900->Gives (run txt (k+1) "_law_parts" [enc s] []) (.lst ((tab s).map ly))
 | .num,k,_,_=>mF k rfl
 | .own,k,_,_=>mF k rfl
 | .bI n,k,_,_=>mF k rfl
 | .bB ps,0,hd,_=>by simp[dp]at hd
 | .bB ps,k+1,hd,hz=>by
  have hl:(tab (.bB ps)).length=jg ps+1:=by simp only[tab,aM,iz]
  exact JC (k+1) (λs hs=>Cv ps k (by simp only[dp]at hd;lia) (by lia) s hs) (by lia)
theorem Cv:∀ps k,rH ps<=k->jg ps<=900->∀s∈ps,Gives (run txt (k+1) "_law_parts" [enc s] []) (.lst ((tab s).map ly))
 | [],_,_,_,s,hs=>by cases hs
 | p::r,k,hd,hz,s,hs=>by
  simp only[rH]at hd;simp only[jg]at hz;rcases aV.mp hs with e | e
  ·rw[e];exact zO p k (by lia) (by lia)
  ·exact Cv r k (by lia) (by lia) s e
end
mutual
theorem Hq:∀(s:Sh),∀r∈tab s,(tab r.2.2.2).length<=(tab s).length
 | .num,r,h=>by simp[tab]at h;subst h;simp[tab]
 | .own,r,h=>by simp[tab]at h;subst h;simp[tab]
 | .bI n,r,h=>by simp[tab]at h;subst h;simp[tab]
 | .bB ps,r,h=>by
  have hl:(tab (.bB ps)).length=jg ps+1:=by simp only[tab,aM,iz]
  simp only[tab,aV]at h;rcases h with rfl | h
  ·exact aq _
  ·have:=wV ps 0 0 r h
   lia
theorem wV:∀l k a,∀r∈tabs k a l,(tab r.2.2.2).length<=jg l
 | [],_,_,r,h=>by simp[tabs]at h
 | s::l,k,a,r,h=>by
  simp only[tabs,bD,aA]at h;simp only[jg];rcases h with⟨r0,h0,rfl⟩ | h
  ·have:=Hq s r0 h0;simp only[qd]
   lia
  ·have:=wV l _ _ r h
   lia
end
mutual
def pos:Sh->Bool
 | .bI n=>decide (0<n)
 | .bB ps=>Nl ps
 | _=>true
def Nl:List Sh->Bool
 | []=>true
 | s::r=>pos s&&Nl r
end
mutual
theorem uW:∀(s:Sh),pos s=true->∀r∈tab s,pos r.2.2.2=true
 | .num,h,r,hr=>by simp[tab]at hr;subst hr;exact h
 | .own,h,r,hr=>by simp[tab]at hr;subst hr;exact h
 | .bI n,h,r,hr=>by simp[tab]at hr;subst hr;exact h
 | .bB ps,h,r,hr=>by
  simp only[tab,aV]at hr;rcases hr with rfl | hr
  ·exact h
  ·exact wW ps (by simpa only[pos]using h) 0 0 r hr
theorem wW:∀l,Nl l=true->∀k a,∀r∈tabs k a l,pos r.2.2.2=true
 | [],_,_,_,r,hr=>by simp[tabs]at hr
 | s::l,h,k,a,r,hr=>by
  simp only[Nl,aO]at h;simp only[tabs,bD,aA]at hr;rcases hr with⟨r0,h0,rfl⟩ | hr
  ·exact uW s h.1 r0 h0
  ·exact wW l h.2 _ _ r hr
end
def Hr(s:Sh):Prop:=zE s/\pos s=true
def zP(h:zE s)(hr:r∈tab s):zE r.2.2.2:=by
 have h1:=Hq s r hr;have h2:=(zD s r hr).1;have h3:=h.1;have h4:=h.2;exact⟨br ‹_› ‹_›,(br ‹_› ‹_›)⟩
def cR(s:Sh):Prop:=Hr s/\(lv s).length<=3
def k0(c:Int):cR (jj c):=by
 have h8:0<1+c/7%8/\1+c/7%8<=8:=by lia
 have:c%7=0\/c%7=1\/c%7=2\/c%7=3\/c%7=4\/c%7=5\/c%7=6:=by lia
 unfold jj;rcases this with h | h | h | h | h | h | h<;>rw[h]<;>simp[cR,Hr,zE,tab,tabs,dp,rH,pos,Nl,lv,hV,h8]
def Nm:cR .num:=by simp[cR,Hr,zE,tab,dp,pos,lv]
def Nn(h:cR s)(hr:r∈tab s):cR r.2.2.2:=by
 obtain⟨⟨h1,h2⟩,h3⟩:=h;exact⟨⟨zP h1 hr,uW s h2 r hr⟩,br (zD s r hr).2 h3⟩
structure mL (ks:List Rk):Prop where
 nd:(ks.map (·.1)).Nodup
 good:∀q∈ks,Hr (bN q.2)/\(lv (bN q.2)).length<=3
 few:ks.length<=10
 ne:∀q∈ks,(q.1==(Str.ofString ""))=false
def mL.ok(K:mL ks):Yk ks:=λq hq=>(K.good q hq).1.1
def kw:Kn->Str
 | .ow s=>Yj s
 | .ho b _=>hw b
def pM(h:List aB)(k:Kn):aZ h (encK k) (.int 0)=some (.str (kw k)):=by
 cases k with
 | ow s=>exact qi h s
 | ho b s=>rfl
def Cw(h:List aB)(d:Kn):mK false h (.str (kw d)) (.ao [.str "lent",.str "sole"])=some (.bl (jh d)):=by
 cases d with
 | ow s=>cases s<;>kernel_rfl
 | ho b s=>cases b<;>kernel_rfl
def uX(h:List aB)(a b:Str):A6 h (.str a) (.str b)=some (.bl (!(a==b))):=rfl
def may(d:Kn):Bool:=!(kw d==(Str.ofString "lent"))
def oi(ks:List Rk):List Sp:=ks.flatMap λq=>(tab (bN q.2)).map λr=>⟨q.1,q.2,r,.b9⟩
def mG(s:Sp):PV:=.ao [b8 s,enc s.r.2.2.2,.bl (may s.d)]
def zQ(h:Yk ks):∀s∈oi ks,dh ks s/\s.a=.b9:=by
 intro s hs;obtain⟨q,hq,hs⟩:=dw.mp hs;obtain⟨r,hr,rfl⟩:=aA.mp hs;exact⟨⟨hq,h q hq,hr,.b9⟩,rfl⟩
def zR(h:Yk ks):(oi ks).length<=100*ks.length:=by
 induction ks with
 | nil=>simp[oi]
 | cons q ks ih =>
  have h1:=(h q bg).1;have h2:=ih λr hr=>h r (aU _ hr)
  simp only[oi,iR,bJ,aD,aM]at h2 ⊢
  lia
def uY(hq:q∈ks):(⟨q.1,q.2,([],0,sz (bN q.2),bN q.2),.b9⟩:Sp)∈oi ks:=dw.mpr ⟨q,hq,aA.mpr ⟨_,iB _,rfl⟩⟩
def Np(c:CT)(S:Option PV)(x:Str)(d:Kn)(o5:Option PV)(T:List Rw):∀(acc:List PV) (o6 o7:Option PV),acc.length+T.length<=90000 ->
  ∃JD RE,fW (gW 2 (dM (aX 6) (dM (aX 7) tP))) (Fl c) (T.map ly) ⟨[S,some (.ref 0),some (.str x),some (encK d),some (.bl (jh d)),o5,o6,o7],[⟨.lst,acc⟩]⟩=some (.ok .nx,⟨[S,some (.ref 0),some (.str x),some (encK d),some (.bl (jh d)),o5,JD,RE],[⟨.lst,acc++T.map λr=>mG ⟨x,d,r,.b9⟩⟩]⟩):=by
 induction T with
 | nil=>exact λacc o6 o7 _=>⟨o6,o7,by simp;rfl⟩
 | cons r T ih =>
  intro acc o6 o7 hz;simp only[aM]at hz;obtain⟨JD,RE,e⟩:=ih (acc++[mG ⟨x,d,r,.b9⟩]) (some (.ao (r.1.map .int))) (some (enc r.2.2.2)) (by simp;lia)
  refine⟨JD,RE,?_⟩;rw[cj]at e;rw[aE,aE];exact fC rfl (dS (yZ rfl rfl (cA (tU (cA rfl (cA rfl (cA (b2 (b2 rfl rfl (pM _ d)) rfl (uX _ _ _)) rfl))) (by simp)) rfl) (aC rfl (by lia)))) e
def JE(k:Nat)(hk:3<=k)(S:Option PV)(ks:List Rk):∀(acc:List PV) (o2 o3 o4 o5 o6 o7:Option PV),Yk ks->acc.length+100*ks.length<=80000 ->
  ∃Xi Xj Xk Xl JD RE,fW (gW 2 Q1) (Fm (run txt (k+1))) (ks.map aK) ⟨[S,some (.ref 0),o2,o3,o4,o5,o6,o7],[⟨.lst,acc⟩]⟩=some (.ok .nx,⟨[S,some (.ref 0),Xi,Xj,Xk,Xl,JD,RE],[⟨.lst,acc++(oi ks).map mG⟩]⟩):=by
 induction ks with
 | nil=>exact λacc o2 o3 o4 o5 o6 o7 _ _=>⟨o2,o3,o4,o5,o6,o7,by simp[oi];rfl⟩
 | cons q ks ih =>
  intro acc o2 o3 o4 o5 o6 o7 ho hz;simp only[aM]at hz;obtain⟨h1,h2⟩:=ho q bg;obtain⟨p6,p7,N9⟩:=Np (run txt (k+1)) S q.1 q.2 (some (enc (bN q.2))) (tab (bN q.2)) acc o6 o7 (by lia)
  obtain⟨Xi,Xj,Xk,Xl,JD,RE,e⟩:=ih (acc++(tab (bN q.2)).map λr=>mG ⟨q.1,q.2,r,.b9⟩) (some (.str q.1)) (some (encK q.2)) (some (.bl (jh q.2))) (some (enc (bN q.2))) p6 p7 (λr hr=>ho r (aU _ hr)) (by grind)
  refine⟨Xi,Xj,Xk,Xl,JD,RE,?_⟩;have O3:(oi (q::ks)).map mG=((tab (bN q.2)).map λr=>mG ⟨q.1,q.2,r,.b9⟩)++(oi ks).map mG:=by
   simp[oi,Function.comp_def]
  rw[O3,<-cj];have ht:=zO (bN q.2) k (br ‹_› ‹_›) (by lia)
  have a5:Ev (dF (gi (rd 4)) (c6 Qw (aX 5)) (aN .nx)) ⟨[S,some (.ref 0),some (.str q.1),some (encK q.2),some (.bl (jh q.2)),some (encK q.2),o6,o7],[⟨.lst,acc⟩]⟩ .nx ⟨[S,some (.ref 0),some (.str q.1),some (encK q.2),some (.bl (jh q.2)),some (enc (bN q.2)),o6,o7],[⟨.lst,acc⟩]⟩:=by
   obtain⟨x,d⟩:=q;cases d with
   | ow s=>rfl
   | ho b s=>rfl
  exact fC rfl (sq (aS (b2 (b2 rfl rfl (pM _ q.2)) rfl (Cw _ q.2)) rfl) (sq (aS rfl rfl) (sq a5 (fS (sV (cx rfl rfl (by simp[ah,dH]) ht) rfl) N9)))) e
def Xm(ha:noRef a=true)(x:Str)(th:Bool)(p:List Int):noRef (spT x th p a)=true:=by simp[spT,noRef,ah,uU,ha]
def B9.nr(h:B9 ks a):noRef a=true:=by cases h<;>rfl
def iD(h:dh ks s):noRef (b8 s)=true:=Xm h.at_.nr _ _ _
theorem Hs:∀l:List Sp,(∀s∈l,dh ks s)->ah (l.map mG)=true
 | [],_=>rfl
 | s::l,h=>by rw[aE];simp[ah,noRef,mG,iD (h s bg),dH,Hs l λt ht=>h t (aU _ ht)]
def RF(k:Nat)(hk:3<=k)(ks:List Rk)(h:Yk ks)(hl:ks.length<=100):Gives (run txt (k+2) "_law_spots" [.lst (ks.map aK)] []) (.lst ((oi ks).map mG)):=by
 rw[Fo];obtain⟨o2,o3,o4,o5,o6,o7,e⟩:=JE k hk (some (.lst (ks.map aK))) ks [] none none none none none none h (by simp;lia)
 rw[fN]at e;exact⟨.ref 0,_,j6 (sq rfl (sq (fS rfl e) (rS rfl))),mB (Hs _ λs hs=>(zQ h s hs).1)⟩
def kH(s:Sp):PV:=.ao [b8 s,.bl (may s.d)]
noncomputable def jk(x:Str)(dg:Int)(s:Sp):List Sp:=match s.r.2.2.2 with
 | .num=>[s]
 | .own=>[s]
 | .bI n=>[{s with a:=if dg/8%2=0 then .int (dg%n)else .str x}]
 | .bB _=>[]
def abh:Sh->Bool
 | .num=>true
 | .own=>true
 | _=>false
def JF:Sh->Bool
 | .bI _=>true
 | _=>false
def abi(h:List aB)(s:Sh):mK false h (.str (Yj s)) (.ao [.str "num",.str "own"])=some (.bl (abh s)):=by cases s<;>kernel_rfl
def Ts(h:List aB)(s:Sh):jv h (.str (Yj s)) (.str "strip")=some (.bl (JF s)):=by cases s<;>kernel_rfl
def Xn(S:Option PV)(x:Str)(dg:Int)(acc:List PV)(s:Sp):dq:=⟨[S,some (.str x),some (.int dg),some (.ref 0),some (b8 s),some (enc s.r.2.2.2),some (.bl (may s.d))],[⟨.lst,acc⟩]⟩
def Ht(S:Option PV)(x:Str)(dg:Int)(s:Sp)(acc:List PV)(hl:acc.length<90000):Ev (gQ (Dj "list" (mq (i8 Be)) (rd 3) (ak (mJ .ao (ak (rd 4) Qx)) (aN [])))) (Xn S x dg acc s) .nx (Xn S x dg (acc++[kH s]) s):=dS (yZ rfl rfl (cA rfl rfl) (aC rfl (c7 ‹_›)))
def Nq(c:CT)(S:Option PV)(x:Str)(dg:Int)(hp:pos s.r.2.2.2=true)(acc:List PV)(hl:acc.length<90000):Ev (nL c) (Xn S x dg acc s) .nx (Xn S x dg (acc++(jk x dg s).map kH) s):=by
 have t1:=λacc:List PV=>(bT (b2 (b2 rfl rfl (qi _ s.r.2.2.2)) rfl (abi _ s.r.2.2.2)):Ek (toB (op2 (mK false) Qk (mJ .ao (ak (kS "num") (ak (kS "own") (aN [])))))) (Xn S x dg acc s) (abh s.r.2.2.2))
 have t2:=λacc:List PV=>(bT (b2 (b2 rfl rfl (qi _ s.r.2.2.2)) rfl (Ts _ s.r.2.2.2)):Ek (toB (op2 jv Qk (kS "strip"))) (Xn S x dg acc s) (JF s.r.2.2.2))
 cases he:s.r.2.2.2 with
 | num =>
  rw[he]at t1 t2;rw[show jk x dg s=[s] by unfold jk;rw[he]]
  exact sq (iT (t1 acc) (Ht S x dg s acc hl)) (iF (t2 _) rfl)
 | own =>
  rw[he]at t1 t2;rw[show jk x dg s=[s] by unfold jk;rw[he]]
  exact sq (iT (t1 acc) (Ht S x dg s acc hl)) (iF (t2 _) rfl)
 | bB ps =>
  rw[he]at t1 t2;rw[show jk x dg s=[] by unfold jk;rw[he],oM,fA]
  exact sq (iF (t1 acc) rfl) (iF (t2 acc) rfl)
 | bI n =>
  rw[he]at t1 t2 hp;rw[show jk x dg s=[{s with a:=if dg/8%2=0 then .int (dg%n)else .str x}] by unfold jk;rw[he]]
  refine sq (iF (t1 acc) rfl) (iT (t2 acc) ?_);have h5:∀h,aZ h (enc s.r.2.2.2) (.int 1)=some (.int n):=λh=>by rw[he];rfl
  have hx:Ek (op2 aZ (mJ .lst (ak (op2 gM (rd 2) (op2 aZ (rd 5) (kI 1))) Q0)) (op2 gM (op2 ju (rd 2) (kI 8)) (kI 2))) (Xn S x dg acc s) (if dg/8%2=0 then .int (dg%n)else .str x):=by
   refine b2 (lS (cA (b2 rfl (b2 rfl rfl (h5 _)) (c9 (by simpa[pos]using hp))) rfl) (by simp)) (b2 (b2 rfl rfl (zM (by decide))) rfl (c9 (by decide))) ?_
   have:dg/8%2=0\/dg/8%2=1:=by lia
   rcases this with h | h
   ·rw[h];rfl
   ·rw[h];rfl
  obtain⟨a,ha⟩:=nw ((if dg/8%2=0 then PV.int (dg%n)else .str x))
  rw[<-ha]at hx ⊢;exact dS (yZ rfl rfl (cA (tU (cA (b2 (x:=.ao [.str s.x,.bl (jh s.d),.ao (s.r.1.map .int)]) (cE rfl rfl rfl rfl) (tU (cA hx rfl) (by simp)) (aT (by simp))) rfl) (by simp)) rfl) (aC rfl (c7 ‹_›)))
theorem Cy(c:CT)(S:Option PV)(x:Str)(dg:Int):∀(T:List Sp) (acc:List PV) (o4 o5 o6:Option PV),(∀s∈T,pos s.r.2.2.2=true)->acc.length+T.length<=80000 ->
  ∃Xk Xl JD,fW (gW 3 Qa) (nL c) (T.map mG) ⟨[S,some (.str x),some (.int dg),some (.ref 0),o4,o5,o6],[⟨.lst,acc⟩]⟩=some (.ok .nx,⟨[S,some (.str x),some (.int dg),some (.ref 0),Xk,Xl,JD],[⟨.lst,acc++(T.flatMap (jk x dg)).map kH⟩]⟩)
 | [],acc,o4,o5,o6,_,_=>⟨o4,o5,o6,by simp;rfl⟩
 | s::T,acc,o4,o5,o6,h,hz=>by
  simp only[aM]at hz;have hb:=Nq c S x dg (h s bg) acc (by lia)
  have vX:(jk x dg s).length<=1:=by
   unfold jk;split<;>simp
  obtain⟨Xk,Xl,JD,e⟩:=Cy c S x dg T (acc++(jk x dg s).map kH) (some (b8 s)) (some (enc s.r.2.2.2)) (some (.bl (may s.d))) (λt ht=>h t (aU _ ht)) (by grind)
  refine⟨Xk,Xl,JD,?_⟩;rw[iR,ck,<-cj];exact fC rfl hb e
abbrev Xo(ks:List Rk)(x:Str)(dg:Int):List Sp:=(oi ks).flatMap (jk x dg)
def RG(hx:(x,Kn.ow .num)∈ks)(hs:dh ks s):∀t∈jk x dg s,dh ks t/\t.d=s.d:=λt ht=>by
 unfold jk at ht;split at ht
 ·rw[bt]at ht;subst ht;exact⟨hs,rfl⟩
 ·rw[bt]at ht;subst ht;exact⟨hs,rfl⟩
 ·rw[bt]at ht;subst ht;refine⟨⟨hs.mem,hs.ok,hs.row,?_⟩,rfl⟩;split
  ·exact .int _
  ·exact .str _ hx
 ·cases ht
def FJ(K:mL ks)(hx:(x,Kn.ow .num)∈ks)(dg:Int):(∀t∈Xo ks x dg,dh ks t)/\(Xo ks x dg).length<=1000/\∃t∈Xo ks x dg,may t.d=true:=by
 refine⟨λt ht=>?_,?_,?_⟩
 ·obtain⟨s,hs,ht⟩:=dw.mp ht;exact(RG hx (zQ K.ok s hs).1 t ht).1
 ·have h1:=zR K.ok;have h2:=K.few;have:∀T:List Sp,(T.flatMap (jk x dg)).length<=T.length:=λT=>by
   induction T with
   | nil=>simp
   | cons s T ih =>
    have vX:(jk x dg s).length<=1:=by
     unfold jk;split<;>simp
    rw[iR,bJ,aM]
    lia
  have:=this (oi ks);show(List.flatMap (jk x dg) (oi ks)).length<=1000
  lia
 ·refine⟨⟨x,.ow .num,([],0,sz .num,.num),.b9⟩,dw.mpr ⟨_,uY hx,?_⟩,?_⟩
  ·simp[jk,bN]
  ·show(!((Str.ofString "num")==(Str.ofString "lent")))=true;decide +kernel
theorem Nr:∀l:List Sp,(∀s∈l,dh ks s)->ah (l.map kH)=true
 | [],_=>rfl
 | s::l,h=>by rw[aE];simp[ah,noRef,kH,iD (h s bg),Nr l λt ht=>h t (aU _ ht)]
def JG(k:Nat)(K:mL ks)(hx:(x,Kn.ow .num)∈ks)(dg:Int):Gives (run txt (k+1) "_law_numbers" [.lst ((oi ks).map mG),.str x,.int dg] []) (.lst ((Xo ks x dg).map kH)):=by
 rw[zm];have O3:=zR K.ok;have hf:=K.few;obtain⟨o4,o5,o6,e⟩:=Cy (run txt k) (some (.lst ((oi ks).map mG))) x dg (oi ks) [] none none none (λs hs=>by
  obtain⟨g1,g2⟩:=zQ K.ok s hs;exact uW _ (K.good _ g1.mem).1.2 _ g1.row) (by simp;lia)
 rw[fN]at e;exact⟨.ref 0,_,j6 (sq rfl (sq (fS rfl e) (rS rfl))),mB (Nr _ (FJ K hx dg).1)⟩
def ee(N:List α)(e:α->PV)(m:Int)(h:0<N.length):∃s∈N,∀H:List aB,aZ H (.lst (N.map e)) (.int (m%((N.map e).length:Int)))=some (e s):=by
 rw[aD];have hj0:=l7 m (show(N.length:Int)≠0 by lia)
 have hj1:=xp m (show 0<(N.length:Int) by lia)
 obtain⟨j,hj⟩:=xf hj0;refine⟨N[j],List.getElem_mem (by lia),λH=>?_⟩
 rw[hj];exact atI_nat (by grind)
def abj(h:List aB):Pw h (.int 10) (.int 30)=some (.int (10^30)):=by kernel_rfl
def eA.nr(h:eA ks o):noRef (gd o)=true:=by
 cases o with
 | n i=>rfl
 | s s=>exact iD h
def wX(k:Nat){N:List Sp}(h:∀s∈N,dh ks s)(h0:0<N.length)(C m:Int):∃o,Gives (run txt (k+1) "_law_operand" [.int C,.int m,.lst (N.map kH)] []) (gd o)/\eA ks o:=by
 rw[zq];obtain⟨s,hs,yM⟩:=ee N kH (m/20) h0;have t1:Ek (toB (op2 jv (op2 gM (op2 ju (rd 1) (kI 5)) (kI 4)) (kI 0))) (S0 [some (.int C),some (.int m),some (.lst (N.map kH))]) (m/5%4==0):=bT (b2 (b2 (b2 rfl rfl (zM (by decide))) rfl (c9 (by decide))) rfl (jU _ _ _))
 by_cases hm:m/5%4=0
 ·rw[hm,fz]at t1;exact⟨.n (C%10^30),gV (qP (iT t1 (rS (b2 rfl (b2 rfl rfl (abj _)) (c9 (by decide)))))) rfl,trivial⟩
 ·rw[show(m/5%4==0)=false by grind]at t1
  exact⟨.s s,gV (sq (iF t1 rfl) (rS (b2 (b2 rfl (b2 (b2 rfl rfl (zM (by decide))) (bV (cA rfl rfl) rfl) (c9 (by grind))) (yM _)) rfl rfl))) (iD (h s hs)),h s hs⟩
def Nt(h:List aB)(s:Sh):A6 h (.str (Yj s)) (.str "rec")=some (.bl (jf s)):=by cases s<;>kernel_rfl
theorem nV(S:Option PV):∀(ps:List Sh) (ag:List PV) (x2:Option PV),(∀s∈ps,Gives (c "_law_leaves" [enc s] []) (.lst (bY (lv s))))->ag.length+(hV ps).length<=4000000 ->
  ∃Ym,fW (aX 2) (qg c) (bY ps) (S0 [S,some (.lst ag),x2])=some (.ok .nx,S0 [S,some (.lst (ag++bY (hV ps))),Ym])
 | [],ag,x2,_,_=>⟨x2,by simp[bY,hV];rfl⟩
 | s::ps,ag,x2,h,hz=>by
  simp only[hV,bJ]at hz;have hb:Ev (qg c) (S0 [S,some (.lst ag),some (enc s)]) .nx (S0 [S,some (.lst (ag++bY (lv s))),some (enc s)]):=aS (b2 rfl (cx rfl rfl rfl (h s bg)) (aL (by rw[e9];lia))) rfl
  obtain⟨Ym,e⟩:=nV S ps (ag++bY (lv s)) (some (enc s)) (λt ht=>h t (aU _ ht)) (by rw[bJ,e9];lia)
  refine⟨Ym,?_⟩;have ex:ag++bY (hV (s::ps))=ag++bY (lv s)++bY (hV ps):=by
   simp only[hV,qb,cj]
  rw[ex];exact fC rfl hb e
def jV(k:Nat)(h:jf s=true):Gives (run txt (k+1) "_law_leaves" [enc s] []) (.lst [enc s]):=by
 rw[qh];exact gV (qP (iT (bT (b2 (b2 rfl rfl (qi _ s)) rfl ((Nt _ s).trans (by rw[h])))) (rS rfl))) (by simp[noRef,ah,dH])
mutual
theorem k6:∀(s:Sh) (k:Nat),dp s<=k->(lv s).length<=90000->Gives (run txt (k+1) "_law_leaves" [enc s] []) (.lst (bY (lv s)))
 | .num,k,_,_=>jV k rfl
 | .own,k,_,_=>jV k rfl
 | .bI n,k,_,_=>jV k rfl
 | .bB ps,0,hd,_=>by simp[dp]at hd
 | .bB ps,k+1,hd,hz=>by
  simp only[dp]at hd;simp only[lv]at hz;rw[qh];obtain⟨Ym,e⟩:=nV (some (enc (.bB ps))) ps [] none (kJ ps k (by lia) hz) (by simp;lia)
  rw[fN]at e;have z:lv (.bB ps)=hV ps:=by simp only[lv]
  rw[z];exact gV (sq (iF (bT (b2 (b2 rfl rfl (qi _ (.bB ps))) rfl (Nt _ (.bB ps)))) rfl) (sq rfl (sq (fS (sV (b2 rfl rfl (by simp only[enc];rfl)) rfl) e) (rS rfl)))) (rJ _)
theorem kJ:∀ps k,rH ps<=k->(hV ps).length<=90000->∀s∈ps,Gives (run txt (k+1) "_law_leaves" [enc s] []) (.lst (bY (lv s)))
 | [],_,_,_,s,hs=>by cases hs
 | p::r,k,hd,hz,s,hs=>by
  simp only[rH]at hd;simp only[hV,bJ]at hz;rcases aV.mp hs with e | e
  ·rw[e];exact k6 p k (by lia) (by lia)
  ·exact kJ r k (by lia) (by lia) s e
end
mutual
theorem Hu:∀(s:Sh),∀r∈tab s,0<=r.2.1/\0<=r.2.2.1/\r.2.1+r.2.2.1<=((lv s).length:Int)
 | .num,r,h=>by simp only[tab,bt]at h;subst h;simp[lv]
 | .own,r,h=>by simp only[tab,bt]at h;subst h;simp[lv]
 | .bI n,r,h=>by simp only[tab,bt]at h;subst h;simp[lv]
 | .bB ps,r,h=>by
  simp only[tab,aV]at h;rcases h with h | h
  ·subst h;simp[lv]
  ·have:=Cz ps 0 0 r h (by lia)
   simp only[lv]
   lia
theorem Cz:∀l k a,∀r∈tabs k a l,0<=a->0<=r.2.1/\0<=r.2.2.1/\r.2.1+r.2.2.1<=a+((hV l).length:Int)
 | [],_,_,_,h,_=>nomatch h
 | s::l,k,a,r,h,ha=>by
  rw[Cu,bD]at h;simp only[hV,bJ];rcases h with h | h
  ·obtain⟨q,hq,rfl⟩:=aA.mp h;have:=Hu s q hq;simp only[qd]
   lia
  ·have:=Cz l (k+1) (a+sz s) r h (by simp only[sz];lia)
   simp only[sz]at this
   lia
end
structure wY (X:List Str) (Bd:Nat) (a:de):Prop where
 f0:0<=a.f
 m0:0<=a.m
 few:a.f+a.m<=(Bd:Int)
 nm:a.n∈X\/a.n=""
abbrev CB(ks:List Rk):List Str:=ks.map (·.1)
structure pN (ks:List Rk) (M:Nat) (p:PV) (as:List de):Prop where
 made:∀F K,uK F ks->noRef F=true->12<=K->Na (run txt K) F p as
 six:as.length<=6
 nx:∀j,j+1<M->Tp M j p
 ok:∀a∈as,wY (CB ks) 3 a
section
variable {ks:List Rk}
def J7{F p:PV}{as:List de}{w fn:Str}{rest:List PV}{c:CT}(hp:p=.ao (.str w::rest))(h1:jK.lookup w=some fn)(h2:W3.lookup fn=some 2)(h6:as.length<=6)(h:Gives (c fn [F,p] []) (f9 as))(hn:noRef p=true):Na c F p as:=⟨⟨w,fn,rest,hp,h1,h2,h⟩,(c7 ‹_›),hn⟩
def lQ{M:Nat}{w:Str}{rest:List PV}(h1:(w==(Str.ofString "go"))=false)(h2:(w==(Str.ofString "if"))=false):∀j,j+1<M->Tp M j (.ao (.str w::rest)):=λj hj=>⟨w,(λ_=>atI_nat (rfl)),(λz=>by grind),(λz=>by grind),λ_ _=>hj⟩
def wZ(K:mL ks)(w:Str){x:Str}{d:Kn}(hx:(x,d)∈ks){r:Rw}(hr:r∈tab (bN d))(t:Str):wY (CB ks) 3 (tA w x d r t):=by
 obtain⟨g1,g2,g3⟩:=Hu _ r hr;have g4:=(K.good _ hx).2;simp only at g4;exact⟨g1,g2,by show r.2.1+r.2.2.1<=_;lia,.inl (aA.mpr ⟨_,hx,rfl⟩)⟩
def kK(K:mL ks)(w:Str){s:Sp}(hs:dh ks s)(t:Str):wY (CB ks) 3 (rM w s t):=wZ K w hs.mem hs.row t
def Nu{a:PV}(h:B9 ks a):∀q∈J5 a,wY (CB ks) 3 q:=λq hq=>by
 cases h with
 | b9=>cases hq
 | int i=>cases hq
 | str y hy =>
  simp only[J5,bt]at hq;subst hq;exact⟨oO 0,(by show 0<=1;decide),(by show 0+1<=((3:Nat):Int);decide),.inl (aA.mpr ⟨_,hy,rfl⟩)⟩
def uZ(K:mL ks){o:Op}(ho:eA ks o):∀q∈pK o,wY (CB ks) 3 q:=λq hq=>by
 cases o with
 | n i=>cases hq
 | s s =>
  rcases bD.mp hq with h | h
  ·exact Nu ho.at_ q h
  ·rw[bt]at h;subst h;exact kK K _ ho _
def Nv(K:mL ks){s:Sp}(hs:dh ks s):∀q∈Cc s,wY (CB ks) 3 q:=λq hq=>by
 unfold Cc at hq;split at hq
 ·rw[bt]at hq;subst hq;exact kK K _ hs _
 ·rcases bD.mp hq with h | h
  ·exact Nu hs.at_ q h
  ·rw[bt]at h;subst h;exact kK K _ hs _
def Xp(K:mL ks){r:Rk}(hr:r∈ks)(t:Str):wY (CB ks) 3 (tkA r.1 r.2 t):=by
 obtain⟨x,d⟩:=r;cases d with
 | ow s=>exact wZ K _ hr (iB s) _
 | ho b s=>exact wZ K _ hr (iB s) _
def Xq(K:mL ks){r:Rk}(hr:r∈ks):wY (CB ks) 3 (gvA r.1 r.2):=by
 obtain⟨x,d⟩:=r;cases d with
 | ow s=>exact wZ K _ hr (iB s) _
 | ho b s=>exact wZ K _ hr (iB s) _
def Nw:wY (CB ks) 3 M7:=⟨by decide,by decide,by decide,.inr rfl⟩
def JH{as:List de}(h:∀a∈as,wY (CB ks) 3 a):∀a∈dY as,wY (CB ks) 3 a:=λa ha=>by
 cases as with
 | nil =>
  simp only[dY,bt]at ha;subst ha;exact Nw
 | cons b l=>exact h a ha
theorem Hv(K:mL ks):∀(l:List Rk) (i:Nat),(∀r∈l,r∈ks)->∀q∈jT i l,wY (CB ks) 3 q
 | [],_,_,_,h=>nomatch h
 | r::l,i,hl,q,h=>by
  simp only[jT,aV]at h;rcases h with h | h
  ·subst h;exact Xp K (hl r bg) _
  ·exact Hv K l (i+1) (λs hs=>hl s (aU _ hs)) q h
def RH(K:mL ks){tk:Option Rk}(ht:∀r,tk=some r->r∈ks):∀q∈nN tk,wY (CB ks) 3 q:=λq hq=>by
 cases tk with
 | none=>cases hq
 | some r =>
  have hr:=ht r rfl;obtain⟨x,d⟩:=r;cases d with
  | ow s =>
   simp only[nN,bt]at hq;subst hq;exact wZ K _ hr (iB s) _
  | ho b s =>
   simp only[nN,bt]at hq;subst hq;exact⟨oO 0,oO 0,(by show 0+0<=((3:Nat):Int);decide),.inr rfl⟩
def u0{X:List Str}{Bd:Nat}{a b:List de}(h1:∀q∈a,wY X Bd q)(h2:∀q∈b,wY X Bd q):∀q∈a++b,wY X Bd q:=by grind
def K7{K:Nat}(h:12<=K):∃k,K=k+7/\3<=k:=⟨K-7,by lia,by lia⟩
variable (K:mL ks) (M:Nat)
include K
def RI{s:Sp}(hs:dh ks s){o:Op}(ho:eA ks o):pN ks M (.ao [.str "put",b8 s,gd o]) (pK o++Cc s):=by
 have l1:=ji o;have l2:=zG s;have l6:(pK o++Cc s).length<=6:=by grind
 refine⟨λF k hF hN hk=>?_,l6,?_,u0 (uZ K ho) (Nv K hs)⟩
 ·obtain⟨k,rfl,h3⟩:=K7 hk;exact J7 rfl (by kernel_rfl) (by kernel_rfl) l6 (Fu hF k h3 "put" hs ho) (by simp[noRef,ah,iD hs,eA.nr ho])
 ·exact lQ (by decide +kernel) (by decide +kernel)
def RJ{s:Sp}(hs:dh ks s)(q:PV)(hq:noRef q=true){a b:Op}(ha:eA ks a)(hb:eA ks b):pN ks M (.ao [.str "set",b8 s,q,gd a,gd b]) (pK a++pK b++Cc s):=by
 have l1:=ji a;have l2:=ji b;have l3:=zG s;have l6:(pK a++pK b++Cc s).length<=6:=by grind
 refine⟨λF k hF hN hk=>?_,l6,lQ (by decide +kernel) (by decide +kernel),u0 (u0 (uZ K ha) (uZ K hb)) (Nv K hs)⟩
 obtain⟨k,rfl,h3⟩:=K7 hk;exact J7 rfl (by kernel_rfl) (by kernel_rfl) l6 (Fv hF k h3 "set" hs q ha hb) (by simp[noRef,ah,iD hs,eA.nr ha,eA.nr hb,hq])
def Xr{a:Op}(ha:eA ks a)(i:Int){m:Nat}(hm:m<M):pN ks M (.ao [.str "if",gd a,.int i,iN m]) (pK a++[]):=by
 have l1:=ji a;have l6:(pK a++[]).length<=6:=by grind
 refine⟨λF k hF hN hk=>?_,l6,λj hj=>⟨"if",λ_=>rfl,λz=>absurd z (by decide +kernel),λ_=>⟨m,λ_=>rfl,hm⟩,λ_ _=>hj⟩,u0 (uZ K ha) (λ_ h=>nomatch h)⟩
 obtain⟨k,rfl,h3⟩:=K7 hk;exact J7 rfl (by kernel_rfl) (by kernel_rfl) l6 (Ju hF k h3 "if" (iN m) ha (b:=.n i) trivial) (by simp[noRef,ah,eA.nr ha,iN])
def RK{a:Op}(ha:eA ks a):pN ks M (.ao [.str "say",gd a]) (pK a):=by
 have l1:=ji a;have l6:(pK a).length<=6:=c7 ‹_›;refine⟨λF k hF hN hk=>?_,l6,lQ (by decide +kernel) (by decide +kernel),uZ K ha⟩
 obtain⟨k,rfl,h3⟩:=K7 hk;exact J7 rfl (by kernel_rfl) (by kernel_rfl) l6 (Fw hF k h3 "say" ha) (by simp[noRef,ah,eA.nr ha])
theorem Xu{m:Nat}(hm:m<M):pN ks M (.ao [.str "go",iN m]) []:=by
 refine⟨λF k hF hN hk=>?_,by simp,λj hj=>⟨"go",λ_=>rfl,λ_=>⟨m,λ_=>rfl,hm⟩,λz=>absurd z (by decide +kernel),λ_ z=>absurd z (by decide +kernel)⟩,λ_ h=>nomatch h⟩
 obtain⟨k,rfl,h3⟩:=K7 hk;exact J7 rfl (by kernel_rfl) (by kernel_rfl) (by simp) (Jv k _) (by simp[noRef,ah,iN])
theorem JI:pN ks M (.ao [.str "give",.str ""]) []:=by
 refine⟨λF k hF hN hk=>?_,by simp,lQ (by decide +kernel) (by decide +kernel),λ_ h=>nomatch h⟩
 obtain⟨k,rfl,h3⟩:=K7 hk;exact J7 rfl (by kernel_rfl) (by kernel_rfl) (by simp) (zH k "give") (by simp[noRef,ah])
def Nx{r:Rk}(hr:r∈ks):pN ks M (.ao [.str "give",.str r.1]) [gvA r.1 r.2]:=by
 refine⟨λF k hF hN hk=>?_,by simp,lQ (by decide +kernel) (by decide +kernel),λq hq=>?_⟩
 ·obtain⟨k,rfl,h3⟩:=K7 hk;exact J7 rfl (by kernel_rfl) (by kernel_rfl) (by simp) (Cj hF k h3 "give" hr (K.ok _ hr) (K.ne _ hr)) (by simp[noRef,ah])
 ·rw[bt]at hq;subst hq;exact Xq K hr
def Ny{s t:Sp}(hs:dh ks s)(ht:dh ks t):pN ks M (.ao [.str "copy",b8 s,b8 t]) [rM "read" t "",rM "fill" s ""]:=by
 refine⟨λF k hF hN hk=>?_,by simp,lQ (by decide +kernel) (by decide +kernel),λq hq=>?_⟩
 ·obtain⟨k,rfl,h3⟩:=K7 hk;exact J7 rfl (by kernel_rfl) (by kernel_rfl) (by simp) (Cd hF k h3 "copy" hs ht) (by simp[noRef,ah,iD hs,iD ht])
 ·simp only[aV,eQ,eU]at hq;rcases hq with rfl | rfl
  ·exact kK K _ ht _
  ·exact kK K _ hs _
def Nz{s t:Sp}(hs:dh ks s)(ht:dh ks t):pN ks M (.ao [.str "move",b8 s,b8 t]) [rM "empty" t "",rM "fill" s ""]:=by
 refine⟨λF k hF hN hk=>?_,by simp,lQ (by decide +kernel) (by decide +kernel),λq hq=>?_⟩
 ·obtain⟨k,rfl,h3⟩:=K7 hk;exact J7 rfl (by kernel_rfl) (by kernel_rfl) (by simp) (Cf hF k h3 "move" hs ht) (by simp[noRef,ah,iD hs,iD ht])
 ·simp only[aV,eQ,eU]at hq;rcases hq with rfl | rfl
  ·exact kK K _ ht _
  ·exact kK K _ hs _
def NA{w:Str}(hw:w="lend"\/w="sole")(x:Str){s:Sp}(hs:dh ks s):pN ks M (.ao [.str w,.str x,b8 s]) [rM w s x]:=by
 refine⟨λF k hF hN hk=>?_,by simp,?_,λq hq=>?_⟩
 ·obtain⟨k,rfl,h3⟩:=K7 hk;have h:=Cg hF k h3 w x hs;rcases hw with rfl | rfl
  ·exact J7 rfl (by kernel_rfl) (by kernel_rfl) (by simp) h (by simp[noRef,ah,iD hs])
  ·exact J7 rfl (by kernel_rfl) (by kernel_rfl) (by simp) h (by simp[noRef,ah,iD hs])
 ·rcases hw with rfl | rfl
  ·exact lQ (by decide +kernel) (by decide +kernel)
  ·exact lQ (by decide +kernel) (by decide +kernel)
 ·rw[bt]at hq;subst hq;exact kK K _ hs _
def NB(fn:PV)(KD:noRef fn=true){ar:List Rk}(ha:∀r∈ar,r∈ks)(hal:ar.length<=4){tk:Option Rk}(ht:∀r,tk=some r->r∈ks):pN ks M (.ao [.str "call",.str (FA tk),fn,.ao (ar.map λr=>.str r.1)]) (jT 0 ar++qj::nN tk):=by
 have tl:=uM ar 0;have tkl:(nN tk).length<=1:=by
  cases tk with
  | none=>simp[nN]
  | some r=>obtain⟨x,d⟩:=r;cases d<;>simp[nN]
 have l6:(jT 0 ar++qj::nN tk).length<=6:=by grind
 refine⟨λF k hF hN hk=>?_,l6,lQ (by decide +kernel) (by decide +kernel),u0 (Hv K ar 0 ha) λq hq=>?_⟩
 ·obtain⟨k,rfl,h3⟩:=K7 hk;have h:=Ck hF k h3 hN "call" fn ha K.ok (by lia) (λr hr=>⟨ht r hr,K.ne r (ht r hr)⟩)
  exact J7 rfl (by kernel_rfl) (by kernel_rfl) l6 h (by simp[noRef,ah,KD,gg])
 ·rcases aV.mp hq with rfl | h
  ·exact⟨by decide,by decide,by decide,.inr rfl⟩
  ·exact RH K ht q h
end
def kL(h:eqT (.ao (.str a::xs)) (.ao (.str b::ys))=true):(a==b)=true/\oX xs ys=true:=ie.mp h
mutual
theorem zS:∀s t:Sh,eqT (Ai s) (Ai t)=true->s=t
 | .num,.num,_=>rfl
 | .own,.own,_=>rfl
 | .bI n,.bI m,h=>by
  have h2:((n==m)&&true)=true:=(kL h).2;rw[xO]at h2;rw[aY h2]
 | .bB a,.bB b,h=>by
  have h2:(oX (qU a) (qU b)&&true)=true:=(kL h).2;rw[xO]at h2;rw[Hw a b h2]
 | .num,.own,h=>absurd (kL h).1 (by decide +kernel)
 | .num,.bI _,h=>absurd (kL h).1 (by decide +kernel)
 | .num,.bB _,h=>absurd (kL h).1 (by decide +kernel)
 | .own,.num,h=>absurd (kL h).1 (by decide +kernel)
 | .own,.bI _,h=>absurd (kL h).1 (by decide +kernel)
 | .own,.bB _,h=>absurd (kL h).1 (by decide +kernel)
 | .bI _,.num,h=>absurd (kL h).1 (by decide +kernel)
 | .bI _,.own,h=>absurd (kL h).1 (by decide +kernel)
 | .bI _,.bB _,h=>absurd (kL h).1 (by decide +kernel)
 | .bB _,.num,h=>absurd (kL h).1 (by decide +kernel)
 | .bB _,.own,h=>absurd (kL h).1 (by decide +kernel)
 | .bB _,.bI _,h=>absurd (kL h).1 (by decide +kernel)
theorem Hw:∀a b:List Sh,oX (qU a) (qU b)=true->a=b
 | [],[],_=>rfl
 | s::a,t::b,h=>by
  have h:=ie.mp (h);rw[zS s t h.1,Hw a b h.2]
 | [],_::_,h=>nomatch h
 | _::_,[],h=>nomatch h
end
def NC:Kn->Tr
 | .ow s=>Ai s
 | .ho b s=>.ao [.str (hw b),Ai s]
theorem Xv:∀a b:Kn,eqT (NC a) (NC b)=true->a=b
 | .ow s,.ow t,h=>by rw[zS s t h]
 | .ho a s,.ho b t,h=>by
  have h:=kL h;have h2:(eqT (Ai s) (Ai t)&&true)=true:=h.2;rw[xO]at h2;rw[zS s t h2];have h1:=h.1;cases a<;>cases b<;>first | rfl | exact absurd h1 (by decide +kernel)
 | .ow s,.ho b t,h=>by
  exfalso
  cases s<;>cases b<;>exact absurd (kL h).1 (by decide +kernel)
 | .ho b t,.ow s,h=>by
  exfalso
  cases s<;>cases b<;>exact absurd (kL h).1 (by decide +kernel)
structure Cs where
 d1:Kn
 d4:Kn
 d5:Kn
 r1:Option Kn
 pl:Int
noncomputable def pk(C:Cs):Nat->List Kn
 | 0=>[]
 | 1=>if C.pl%2=1 then [C.d1,C.d4]else [C.d4,C.d1]
 | _=>[C.d4,C.d5].take (C.pl/2).toNat++C.d1::[C.d4,C.d5].drop (C.pl/2).toNat
def rk(C:Cs):Nat->Option Kn
 | 0=>none
 | 1=>C.r1
 | _=>some C.d4
inductive Ro where
 | put (s:Sp) (o:Op)
 | set (s:Sp) (g:Str) (a b:Op)
 | zT (t s:Sp)
 | zU (t s:Sp)
 | qW (x:Str) (b:Bool) (s:Sp)
 | call (tk:Option Rk) (j:Nat) (ar:List Rk)
 | JJ (a:Op) (i:Int) (m:Nat)
 | go (m:Nat)
 | Oe (a:Op)
 | jC (z:Option Rk)
noncomputable def lw(b:Bool):Str:=if b then "sole" else "lend"
abbrev iO(r:Rk):PV:=.str r.1
abbrev J8(r:Option Rk):PV:=.str (FA r)
def bO(fn:Nat->PV):Ro->PV
 | .put s o=>.ao [.str "put",b8 s,gd o]
 | .set s g a b=>.ao [.str "set",b8 s,.str g,gd a,gd b]
 | .zT t s=>.ao [.str "copy",b8 t,b8 s]
 | .zU t s=>.ao [.str "move",b8 t,b8 s]
 | .qW x b s=>.ao [.str (lw b),.str x,b8 s]
 | .call tk j ar=>.ao [.str "call",J8 tk,fn j,.ao (ar.map iO)]
 | .JJ a i m=>.ao [.str "if",gd a,.int i,iN m]
 | .go m=>.ao [.str "go",iN m]
 | .Oe a=>.ao [.str "say",gd a]
 | .jC z=>.ao [.str "give",J8 z]
def JK(C:Cs)(ks:List Rk)(M:Nat):Ro->Prop
 | .put s o=>dh ks s/\eA ks o
 | .set s g a b=>dh ks s/\eA ks a/\eA ks b
 | .zT t s=>dh ks t/\dh ks s
 | .zU t s=>dh ks t/\dh ks s
 | .qW x b s=>dh ks s/\(x,Kn.ho b s.r.2.2.2)∈ks
 | .call tk j ar=>j<3/\tk.map (·.2)=rk C j/\ar.map (·.2)=pk C j/\(∀r∈ar,r∈ks)/\ar.length<=4/\∀r,tk=some r->r∈ks
 | .JJ a _ m=>eA ks a/\m<M
 | .go m=>m<M
 | .Oe a=>eA ks a
 | .jC z=>∀r,z=some r->r∈ks
def Tt:Ro->List de
 | .put s o=>pK o++Cc s
 | .set s _ a b=>pK a++pK b++Cc s
 | .zT t s=>[rM "read" s "",rM "fill" t ""]
 | .zU t s=>[rM "empty" s "",rM "fill" t ""]
 | .qW x b s=>[rM (lw b) s x]
 | .call tk _ ar=>jT 0 ar++qj::nN tk
 | .JJ a _ _=>pK a++[]
 | .go _=>[]
 | .Oe a=>pK a
 | .jC none=>[]
 | .jC (some r)=>[gvA r.1 r.2]
theorem Xw(K:mL ks)(M:Nat)(hf:∀j,noRef (fn j)=true):∀r:Ro,JK C ks M r->pN ks M (bO fn r) (Tt r)
 | .put s o,h=>RI K M h.1 h.2
 | .set s g a b,h=>RJ K M h.1 (.str g) rfl h.2.1 h.2.2
 | .zT t s,h=>Ny K M h.1 h.2
 | .zU t s,h=>Nz K M h.1 h.2
 | .qW x b s,h=>NA K M (by cases b<;>first | exact .inl rfl | exact .inr rfl) x h.1
 | .call tk j ar,h=>NB K M (fn j) (hf j) h.2.2.2.1 h.2.2.2.2.1 h.2.2.2.2.2
 | .JJ a i m,h=>Xr K M h.1 i h.2
 | .go m,h=>Xu K M h
 | .Oe a,h=>RK K M h
 | .jC none,_=>JI K M
 | .jC (some r),h=>Nx K M (h r rfl)
theorem CD(hf:∀j,noRef (fn j)=true):∀r:Ro,JK C ks M r->noRef (bO fn r)=true
 | .put s o,h=>by simp[bO,noRef,ah,iD h.1,eA.nr h.2]
 | .set s g a b,h=>by simp[bO,noRef,ah,iD h.1,eA.nr h.2.1,eA.nr h.2.2]
 | .zT t s,h=>by simp[bO,noRef,ah,iD h.1,iD h.2]
 | .zU t s,h=>by simp[bO,noRef,ah,iD h.1,iD h.2]
 | .qW x b s,h=>by simp[bO,noRef,ah,iD h.1]
 | .call tk j ar,h=>by simp[bO,noRef,ah,hf j,gg]
 | .JJ a i m,h=>by simp[bO,noRef,ah,eA.nr h.1,iN]
 | .go m,h=>rfl
 | .Oe a,h=>by simp[bO,noRef,ah,eA.nr h]
 | .jC z,_=>rfl
def vI(fn:Nat->PV)(C:Cs)(ks:List Rk)(M:Nat)(p:PV):Prop:=∃r,p=bO fn r/\JK C ks M r
def Rt(P:PV->Prop)(x:Option (Rs eX×dq)):Prop:=∃p s,x=some (.ok (.rt p),s)/\noRef p=true/\P p
def Rt.run(h:Rt P (f ⟨gz n as,[]⟩)):∃p,Gives (du f n as []) p/\P p:=by
 obtain⟨p,⟨ρ,h'⟩,a,b,c⟩:=h;exact⟨p,gV a b,c⟩
def xS(h:Ev f s .nx s1)(k:Rt P (g s1)):Rt P (dW f g s):=by
 obtain⟨p,s2,a,b⟩:=k;exact⟨p,s2,sq h a,b⟩
def xI(hc:Ev gc s b s1)(ht:b=true->Rt P (f s1))(hf:b=false->Rt P (h s1)):Rt P (dW (dF gc f (aN .nx)) h s):=by
 cases b with
 | true =>
  obtain⟨p,s2,a,c⟩:=ht rfl;exact⟨p,s2,qP (iT hc a),c⟩
 | false =>
  obtain⟨p,s2,a,c⟩:=hf rfl;exact⟨p,s2,sq (iF hc rfl) a,c⟩
def xR(h:Ev fa s p s1)(hn:noRef p=true)(k:P p):Rt P (retS fa s):=⟨p,s1,rS h,hn,k⟩
def oB(h1:Ev f s a s)(h2:Ev g s b s):Ev (dF f (aN true) g) s (a || b) s:=by
 cases a with
 | true=>exact iT h1 rfl
 | false=>exact iF h1 h2
def nD(h1:Ev f s a s)(h2:Ev g s b s):Ev (dF f g (aN false)) s (a&&b) s:=by
 cases a with
 | true=>exact iT h1 h2
 | false=>exact iF h1 rfl
def Tu(h:List aB)(hs:zE s)(ht:zE t):jv h (enc s) (enc t)=some (.bl (eqT (Ai s) (Ai t))):=by
 have e1:=toT_enc h s eY (by have:=hs.2;show _<1000;lia)
 have e2:=toT_enc h t eY (by have:=ht.2;show _<1000;lia)
 show((toT h eY (enc s)).bind λx=>(toT h eY (enc t)).map λy=>eqT x y).map PV.bl=_
 rw[e1,e2];rfl
def Xx{l:List α}(h:l.isEmpty=false):0<l.length:=by
 grind
def k7{l:List α}(h:x∈l):0<l.length:=by
 grind
section
variable {ks:List Rk} (K:mL ks) (M:Nat)
abbrev SL(ks:List Rk):PV:=.lst ((oi ks).map mG)
def qp(K:mL ks):∀s∈oi ks,dh ks s:=λs hs=>(zQ K.ok s hs).1
def u3(K:mL ks):(oi ks).length<=1000:=by
 have h1:=zR K.ok;have h2:=K.few
 lia
def ND{l:List Sp}(h:∀s∈l,dh ks s):∀s∈l.filter f,dh ks s:=by grind
def RL{l:List α}(hi:Ev fi s (.sq (l.map e)) s1)(hl:l.length<=4000000)(hb:∀a∈l,bd (bE link s1.ρ) (e a) s1.h=some (if f a=true then some (G a)else none,s1.h)):Ev (di false link fi bd) s (.lst ((l.filter f).map G)) s1:=by
 have z:∀l:List α,(∀a∈l,bd (bE link s1.ρ) (e a) s1.h=some (if f a=true then some (G a)else none,s1.h))->(l.map e).filterMap (λp=>match bd (bE link s1.ρ) p s1.h with | some (o,_)=>o | none=>none)=(l.filter f).map G:=by
  intro l;induction l with
  | nil=>exact λ_=>rfl
  | cons a l ih =>
   intro h;have h1:=h a bg;have h2:=ih λb hb=>h b (aU _ hb)
   rw[aE,sk,h1,h2];cases hf:f a<;>simp[List.filter_cons,hf]
 rw[<-z l hb];refine cQ hi (by rw[aD];exact hl) λp hp=>?_
 obtain⟨a,ha,rfl⟩:=aA.mp hp;rw[hb a ha]
def RM(s:Sh):mK false [] oP (.lst (bY (lv s)))=some (.bl ((lv s).any qk)):=by
 have hd:=uL (yY s);have e:=toT_encs [] (lv s) eY (by rw[hd];decide)
 have e0:Ip [] oP (bY (lv s))=some ((lv s).any qk):=by
  unfold Ip;rw[e,show toT [] eY oP=some (.ao [.str "own"])from rfl,<-Fx]
  rfl
 have e1:mK false [] oP (.lst (bY (lv s)))=(Ip [] oP (bY (lv s))).map λb=>.bl (if false=true then !b else b):=rfl
 rw[e1,e0];rfl
def Hx(s t:Sp):Bool:=eqT (Ai t.r.2.2.2) (Ai s.r.2.2.2)&&may t.d
def JL(K:mL ks)(hs:zE s.r.2.2.2)(x0 x1 x2 x4 x6 x7 x8:Option PV):Ek (di false [none,none,none,none,some 5] (iu (rd 3)) (nk Qr Qp (rd 1))) (S0 [x0,x1,x2,some (SL ks),x4,some (enc s.r.2.2.2),x6,x7,x8]) (.lst (((oi ks).filter (Hx s)).map b8)):=by
 have hl:=u3 K;refine RL (sV rfl rfl) (c7 ‹_›) λt ht=>?_
 have ok:=qp K t ht;have g:Ek Qp (S0 [none,some (b8 t),some (enc t.r.2.2.2),some (.bl (may t.d)),some (enc s.r.2.2.2)]) (Hx s t):=nD (bT (b2 rfl rfl (Tu _ (zP ok.ok ok.row) hs))) (tR rfl rfl);cases hg:Hx s t with
 | true=>rw[hg]at g;exact Ob rfl g rfl
 | false=>rw[hg]at g;exact Oc rfl g
end
def Hy{N:List Sp}(h:∀s∈N,dh ks s):jv [] (.lst (N.map b8)) (.lst [])=some (.bl N.isEmpty):=by
 have e:∀l:List Sp,(∀s∈l,dh ks s)->∃ts,cL (toT [] 999) (l.map b8)=some ts/\ts.length=l.length:=by
  intro l;induction l with
  | nil=>exact λ_=>⟨[],rfl,rfl⟩
  | cons s l ih =>
   intro h;obtain⟨ts,h1,h2⟩:=ih λt ht=>h t (aU _ ht)
   obtain⟨t0,ht0⟩:∃t0,toT [] 999 (b8 s)=some t0:=by
    have hp:∀p:List Int,cL (toT [] 997) (p.map PV.int)=some (p.map Tr.int):=λp=>by
     induction p with
     | nil=>rfl
     | cons i p ih=>show((cL (toT [] 997) (p.map PV.int)).map _)=_;rw[ih];rfl
    have hq:toT [] 998 (.ao (s.r.1.map PV.int))=some (.ao (s.r.1.map Tr.int)):=by
     show((cL (toT [] 997) (s.r.1.map PV.int)).bind (LD .ao))=_;rw[hp];rfl
    obtain⟨ta,hta⟩:∃ta,toT [] 998 s.a=some ta:=by
     have hA:=(h s bg).at_
     revert hA
     generalize s.a=a
     intro hA;cases hA<;>exact⟨_,rfl⟩
    refine⟨.ao [.str s.x,.bl (jh s.d),.ao (s.r.1.map Tr.int),ta],?_⟩;show((cL (toT [] 998) [.str s.x,.bl (jh s.d),.ao (s.r.1.map PV.int),s.a]).bind (LD .ao))=_;simp only[cL,hq,hta];rfl
   refine⟨t0::ts,?_,by simp[h2]⟩
   rw[aE];simp only[cL,ht0,h1];rfl
 obtain⟨ts,h1,h2⟩:=e N h;have e1:toT [] eY (.lst (N.map b8))=some (.lst ts):=by
  show((cL (toT [] 999) (N.map b8)).bind (LD .lst))=_;rw[h1];rfl
 show((toT [] eY (.lst (N.map b8))).bind λx=>(toT [] eY (.lst [])).map λy=>eqT x y).map PV.bl=_
 rw[e1];cases N with
 | nil=>cases ts with
  | nil=>rfl
  | cons _ _=>simp at h2
 | cons _ _=>cases ts with
  | nil=>simp at h2
  | cons _ _=>rfl
section
variable {ks:List Rk} (K:mL ks) (M:Nat) (fn:Nat->PV) (C:Cs)
include K in
def JM(k:Nat)(hk:3<=k)(w:Str)(a b:Int)(h0:0<(oi ks).length):∃p,Gives (run txt (k+2) "_law_carried" [.str w,.int a,.int b,SL ks] []) p/\vI fn C ks M p:=by
 rw[zu];refine Rt.run ?_;obtain⟨s,hs,yM⟩:=ee (oi ks) mG a h0;have ok:=qp K s hs;have h3:=(zP ok.ok ok.row);have hlv:=k6 s.r.2.2.2 k (by have:=h3.2;lia) (by have:=h3.1;have:=BL s.r.2.2.2;lia)
 obtain⟨G,hG⟩:=nw ((oi ks).filter (Hx s));have gc:=JL K h3 (some (.str w)) (some (.int a)) (some (.int b)) (some (b8 s)) (some (.bl (may s.d))) none none;rw[<-hG]at gc;have hGs:∀t∈G,dh ks t:=by rw[hG];exact ND (qp K)
 obtain⟨o,ho⟩:=nw ((lv s.r.2.2.2).any qk);have io:=RM s.r.2.2.2;rw[<-ho]at io;have a1:Ev (c6 (op2 aZ (rd 3) (op2 gM (rd 1) (fX fB Qn))) (gW 3 Qa)) (S0 [some (.str w),some (.int a),some (.int b),some (SL ks),none,none,none,none,none]) .nx (S0 [some (.str w),some (.int a),some (.int b),some (SL ks),some (b8 s),some (enc s.r.2.2.2),some (.bl (may s.d)),none,none]):=aS (b2 rfl (b2 rfl (bV (cA rfl rfl) rfl) (c9 (by grind))) (yM _)) rfl
 refine xS a1 (xS (aS gc rfl) (xS (aS (b2 rfl (cx rfl rfl rfl hlv) io) rfl) ?_));refine xI (oB (bT (b2 rfl rfl (Hy hGs))) (nD (tR rfl rfl) (tR rfl rfl))) (λ_=>?_) λhc=>?_
 ·exact xR rfl rfl ⟨.Oe (.n a),rfl,trivial⟩
 ·have hGe:=(Bool.or_eq_false_iff.mp hc).1;obtain⟨t,ht,hgt⟩:=ee G b8 b (Xx hGe);have gx:Ek (op2 aZ (rd 7) (op2 gM (rd 2) QC)) (S0 [some (.str w),some (.int a),some (.int b),some (SL ks),some (b8 s),some (enc s.r.2.2.2),some (.bl (may s.d)),some (.lst (G.map b8)),some (.bl o)]) (b8 t):=b2 rfl (b2 rfl (bV (cA rfl rfl) rfl) (c9 (by grind))) (hgt _)
  have nt:=iD (hGs t ht);have ns:=iD ok;refine xI (oB (tR rfl rfl) (nD (bT (b2 rfl rfl (dI _ _ _))) (nB (tR rfl rfl)))) (λ_=>?_) λ_=>?_
  ·exact xR (tU (cA rfl (cA gx (cA rfl rfl))) (by simp)) (by simp[noRef,ah,nt,ns]) ⟨.zU t s,rfl,hGs t ht,ok⟩
  ·exact xR (tU (cA rfl (cA gx (cA rfl rfl))) (by simp)) (by simp[noRef,ah,nt,ns]) ⟨.zT t s,rfl,hGs t ht,ok⟩
end
section
variable {ks:List Rk} (K:mL ks) (M:Nat) (fn:Nat->PV) (C:Cs)
abbrev KL(ks:List Rk):PV:=.lst (ks.map aK)
def RN(s:Sh)(w:Str)(t:Sp):Bool:=eqT (Ai t.r.2.2.2) (Ai s)&&(may t.d || w==(Str.ofString "lend"))
def NF(K:mL ks)(b:Bool)(s:Sh)(hs:zE s)(w:Str)(x0 x1 x2 x4 x5 x8:Option PV):Ek (di false [none,none,none,none,some 6,some 7] (iu (rd 3)) (nk Qr Q6 (rd 1))) (S0 [x0,x1,x2,some (SL ks),x4,x5,some (encK (.ho b s)),some (.str w),x8]) (.lst (((oi ks).filter (RN s w)).map b8)):=by
 have hl:=u3 K;refine RL (sV rfl rfl) (c7 ‹_›) λt ht=>?_
 have ok:=qp K t ht;have g:Ek Q6 (S0 [none,some (b8 t),some (enc t.r.2.2.2),some (.bl (may t.d)),some (encK (.ho b s)),some (.str w)]) (RN s w t):=nD (bT (b2 rfl (b2 rfl rfl rfl) (Tu _ (zP ok.ok ok.row) hs))) (oB (tR rfl rfl) (bT (b2 rfl rfl (dI _ _ _))));cases hg:RN s w t with
 | true=>rw[hg]at g;exact Ob rfl g rfl
 | false=>rw[hg]at g;exact Oc rfl g
def JN(K:mL ks)(x0 x1 x3 x4 x5 x6 x7 x8:Option PV):Ek (di false [none,none] (iu (rd 2)) (nk (aX 1) Qj (rd 1))) (S0 [x0,x1,some (KL ks),x3,x4,x5,x6,x7,x8]) (.lst ((ks.filter λq=>jh q.2).map aK)):=by
 have hl:=K.few;refine RL (sV rfl rfl) (c7 ‹_›) λq hq=>?_
 have g:Ek Qj (S0 [none,some (aK q)]) (jh q.2):=bT (b2 (b2 (b2 rfl rfl rfl) rfl (pM _ q.2)) rfl (Cw _ q.2));cases hg:jh q.2 with
 | true=>rw[hg]at g;exact Ob rfl g rfl
 | false=>rw[hg]at g;exact Oc rfl g
include K in
def JO(k:Nat)(a b:Int)(hh:∃q∈ks,jh q.2=true):∃p,Gives (run txt (k+1) "_law_lending" [.int a,.int b,KL ks,SL ks] []) p/\vI fn C ks M p:=by
 rw[zw];refine Rt.run ?_;obtain⟨q0,hq0,hi0⟩:=hh;have h0:0<(ks.filter λq=>jh q.2).length:=k7 (gn.mpr ⟨hq0,hi0⟩)
 obtain⟨q,hq,yM⟩:=ee (ks.filter λq=>jh q.2) aK a h0
 obtain⟨hqk,hqi⟩:=gn.mp hq;have hz:0<(((ks.filter λq=>jh q.2).map aK).length:Int):=by grind
 obtain⟨G,hG⟩:=nw ((ks.filter λq=>jh q.2).map aK)
 have sc:=JN K (some (.int a)) (some (.int b)) (some (SL ks)) none none none none none;rw[<-hG]at sc yM hz;obtain⟨x,d⟩:=q;cases d with
 | ow s=>cases hqi
 | ho bb s =>
  obtain⟨w,hw,hwb,e1⟩:∃w:Str,w=lw bb/\(may (.ho bb s) || w==(Str.ofString "lend"))=true/\Ek (op2 aZ (mJ .lst Qz) (fX Iu (ak (op2 jv (op2 aZ (rd 6) (kI 0)) (kS "sole")) (aN [])))) (S0 [some (.int a),some (.int b),some (KL ks),some (SL ks),some (.lst G),some (.str x),some (encK (.ho bb s)),none,none]) (.str w):=by
   cases bb with
   | true=>exact⟨"sole",rfl,by show(!((Str.ofString "sole")==(Str.ofString "lent")) || _)=true;decide +kernel,b2 (y:=.int 1) rfl (bV (cA (b2 (b2 rfl rfl (pM _ _)) rfl (dI _ _ _)) rfl) (by kernel_rfl)) rfl⟩
   | false=>exact⟨"lend",rfl,by grind,b2 (y:=.int 0) rfl (bV (cA (b2 (b2 rfl rfl (pM _ _)) rfl (dI _ _ _)) rfl) (by kernel_rfl)) rfl⟩
  have fc:=NF K bb s (K.ok _ hqk) w (some (.int a)) (some (.int b)) (some (KL ks)) (some (.lst G)) (some (.str x)) none;obtain⟨T,hT⟩:=nw ((oi ks).filter (RN s w));have Su:∀t∈T,dh ks t:=by rw[hT];exact ND (qp K)
  have hTx:∀t∈T,s=t.r.2.2.2:=by rw[hT];exact λt ht=>(zS _ _ (ie.mp (gn.mp ht).2).1).symm
  rw[<-hT]at fc;obtain⟨t,ht,htt⟩:=ee T b8 b (by
   rw[hT];refine k7 (gn.mpr ⟨uY hqk,?_⟩);show(eqT (Ai s) (Ai s)&&(may (.ho bb s) || _))=true;rw[ku,hwb];rfl)
  refine xS (aS sc rfl) (xS (aS (b2 rfl (b2 rfl (bV (cA rfl rfl) rfl) (c9 hz)) (yM _)) rfl) (xS (aS e1 rfl) (xS (aS fc rfl) (xR (tU (cA rfl (cA rfl (cA (b2 rfl (b2 rfl (bV (cA rfl rfl) rfl) (c9 (by grind))) (htt _)) rfl))) (by simp)) (by simp[noRef,ah,iD (Su t ht)]) ⟨.qW x bb t,by rw[hw];rfl,Su t ht,hTx t ht▸hqk⟩))))
end
def RP{N:List Sp}(h:∀s∈N,dh ks s):A6 [] (.lst (N.map b8)) (.lst [])=some (.bl (!N.isEmpty)):=by
 have e:=Hy h;have e1:∀o:Option Bool,o.map PV.bl=some (.bl N.isEmpty)->(o.map λb=>PV.bl !b)=some (.bl (!N.isEmpty)):=λo ho=>by
  simp_all
 exact e1 _ e
section
variable {ks:List Rk} (K:mL ks) (M:Nat) (fn:Nat->PV) (C:Cs)
include K in
def RQ(k:Nat)(w:Str)(a:Int)(ho:eA ks o)(hw:w≠"drop"/\w≠"fill"):∃p,Gives (run txt (k+1) "_law_small_row" [.str w,.int a,gd o,SL ks] []) p/\vI fn C ks M p:=by
 rw[uF];refine Rt.run ?_;have hl:=u3 K;refine xI (bT (b2 rfl rfl (dI _ _ _))) (λz=>absurd (aY z) hw.1) λ_=>?_
 have c1:Ek (di false [none,none,none,none] (iu (rd 3)) (nk Qr Qi (rd 1))) (S0 [some (.str w),some (.int a),some (gd o),some (SL ks),none,none]) (.lst (((oi ks).filter λt=>JF t.r.2.2.2&&may t.d).map b8)):=by
  refine RL (sV rfl rfl) (c7 ‹_›) λt ht=>?_
  have g:Ek Qi (S0 [none,some (b8 t),some (enc t.r.2.2.2),some (.bl (may t.d))]) (JF t.r.2.2.2&&may t.d):=nD (bT (b2 (b2 rfl rfl (qi _ _)) rfl (Ts _ _))) (tR rfl rfl);cases hg:(JF t.r.2.2.2&&may t.d)with
  | true=>rw[hg]at g;exact Ob rfl g rfl
  | false=>rw[hg]at g;exact Oc rfl g
 obtain⟨T,hT⟩:=nw ((oi ks).filter λt=>JF t.r.2.2.2&&may t.d)
 have Su:∀t∈T,dh ks t:=by rw[hT];exact ND (qp K)
 rw[<-hT]at c1;exact xS (aS c1 rfl) (xI (nD (bT (b2 rfl rfl (dI _ _ _))) (bT (b2 rfl rfl (RP Su)))) (λz=>absurd (aY (ie.mp z).1) hw.2) λ_=>xR (tU (cA rfl (cA rfl rfl)) (by simp)) (by simp[noRef,ah,eA.nr ho]) ⟨.Oe o,rfl,ho⟩)
end
def lC(h:Ev ts s ps s1)(hl:ps.length<=4000000):Ev (yq ts) s (.ref s1.h.length) ⟨s1.ρ,s1.h++[⟨.lst,ps⟩]⟩:=eB h (eB (by show(small ps PV.b9).map _=_;rw[show small ps PV.b9=some .b9 from if_pos hl];rfl) rfl)
structure Xy (C:Cs) (ks:List Rk) (LK OT OW:List Rk) (BK:List (Option Rk)):Prop where
 lk:(∀r∈LK,r∈ks/\r.2=C.d4)/\0<LK.length
 ot:(∀r∈OT,r∈ks/\r.2=C.d5)/\0<OT.length
 ow:(∀r∈OW,r∈ks/\r.2=C.d1)/\0<OW.length
 bk:(∀o∈BK,(∀r,o=some r->r∈ks)/\o.map (·.2)=C.r1)/\0<BK.length
section
variable {ks:List Rk} (K:mL ks) (M:Nat) (fn:Nat->PV) (C:Cs)
def Tv(a b:Int)(CA f0 f1 f2:PV)(L T O B:List PV)(pl:Int)(x:Option PV)(h:List aB):dq:=⟨[some (.int a),some (.int b),some CA,some (.lst [f0,f1,f2]),some (.lst L),some (.lst T),some (.lst O),some (.lst B),some (.int pl),x],h⟩
include K in
theorem Xz(k:Nat)(a b:Int)(KD:∀j,noRef (fn j)=true)(Q:Xy C ks LK OT OW BK)(hp:0<=C.pl/\C.pl<6):∃p,Gives (run txt (k+1) "_law_call" [.int a,.int b,.ao [.lst [fn 0,fn 1,fn 2],.lst (LK.map iO),.lst (OT.map iO),.lst (OW.map iO),.lst (BK.map J8),.int C.pl]] []) p/\vI fn C ks M p:=by
 rw[Jq];refine Rt.run ?_;obtain⟨l1,hl1,al1⟩:=ee LK iO b Q.lk.2;obtain⟨o1,Lv,ao1⟩:=ee OW iO (b/8) Q.ow.2;obtain⟨t1,ht1,at1⟩:=ee OT iO (b/8) Q.ot.2;obtain⟨o2,ho2,ao2⟩:=ee OW iO (b/64) Q.ow.2;obtain⟨l2,N7,al2⟩:=ee LK iO (a/4) Q.lk.2;obtain⟨k1,hk1,ak1⟩:=ee BK J8 (a/4) Q.bk.2;have zl:0<((LK.map iO).length:Int):=by grind
 have zo:0<((OW.map iO).length:Int):=by grind
 have zt:0<((OT.map iO).length:Int):=by grind
 have zk:0<((BK.map J8).length:Int):=by grind
 have hL:=Q.lk.1;have hO:=Q.ow.1;have hT:=Q.ot.1;have hB:=Q.bk.1;obtain⟨f0,e0⟩:=nw (fn 0);obtain⟨f1,e1⟩:=nw (fn 1);obtain⟨f2,e2⟩:=nw (fn 2);have n0:noRef f0=true:=by grind
 have n1:noRef f1=true:=by grind
 have n2:noRef f2=true:=by grind
 rw[<-e0,<-e1,<-e2];obtain⟨pl,epl⟩:=nw C.pl;rw[<-epl]at hp ⊢;obtain⟨L,eL⟩:=nw (LK.map iO);obtain⟨O,eO⟩:=nw (OW.map iO);obtain⟨T,eT⟩:=nw (OT.map iO);obtain⟨B,eB⟩:=nw (BK.map J8);rw[<-eL]at al1 al2 zl;rw[<-eO]at ao1 ao2 zo;rw[<-eT]at at1 zt;rw[<-eB]at ak1 zk;rw[<-eL,<-eO,<-eT,<-eB];obtain⟨CA,hCA⟩:=nw (PV.ao [.lst [f0,f1,f2],.lst L,.lst T,.lst O,.lst B,.int pl]);rw[<-hCA];have d4:∀v x h,Ek (toB (op2 jv (op2 gM (rd 0) (kI 4)) (aN (.int v)))) (Tv a b CA f0 f1 f2 L T O B pl x h) (a%4==v):=λv x h=>bT (b2 (b2 rfl rfl (c9 (by decide))) rfl (jU _ _ _))
 refine xS (by rw[hCA];rfl) (xI (d4 0 none []) (λ_=>?_) λ_=>?_)
 ·exact xR rfl (by simp[noRef,ah,n0]) ⟨.call none 0 [],by rw[e0];rfl,by decide,rfl,rfl,(λ_ h=>nomatch h),by grind⟩
 have pkL:∀x h,Ek (op2 aZ (rd 4) (op2 gM (rd 1) (fX fB (ak (rd 4) (aN []))))) (Tv a b CA f0 f1 f2 L T O B pl x h) (iO l1):=λx h=>b2 rfl (b2 rfl (bV (cA rfl rfl) rfl) (c9 zl)) (al1 _)
 have pkO:∀x h,Ek (op2 aZ (rd 6) (op2 gM (op2 ju (rd 1) (kI 8)) (fX fB Qx))) (Tv a b CA f0 f1 f2 L T O B pl x h) (iO o1):=λx h=>b2 rfl (b2 (b2 rfl rfl (zM (by decide))) (bV (cA rfl rfl) rfl) (c9 zo)) (ao1 _)
 have pkT:∀x h,Ek (op2 aZ (rd 5) (op2 gM (op2 ju (rd 1) (kI 8)) (fX fB (ak (rd 5) (aN []))))) (Tv a b CA f0 f1 f2 L T O B pl x h) (iO t1):=λx h=>b2 rfl (b2 (b2 rfl rfl (zM (by decide))) (bV (cA rfl rfl) rfl) (c9 zt)) (at1 _)
 refine xS (aS (lC (cA (pkL none []) (cA (pkO none []) rfl)) (by simp)) rfl) ?_
 refine xI (d4 1 _ _) (λ_=>?_) λ_=>?_
 ·have d2:Ek (toB (op2 jv (op2 gM (rd 8) (kI 2)) (kI 1))) (Tv a b CA f0 f1 f2 L T O B pl (some (.ref 0)) [⟨.lst,[iO l1,iO o1]⟩]) (pl%2==1):=bT (b2 (b2 rfl rfl (c9 (by decide))) rfl (jU _ _ _))
  have fin:∀(r1 r2:Rk),r1∈ks->r2∈ks->[r1.2,r2.2]=pk C 1->Rt (vI fn C ks M) (retS (mJ .ao (ak (kS "call") (ak (op2 aZ (rd 7) (op2 gM (op2 ju (rd 0) (kI 4)) QC)) (ak Qw (ak (fX Ir (ak (rd 9) (aN []))) (aN [])))))) (Tv a b CA f0 f1 f2 L T O B pl (some (.ref 0)) [⟨.lst,[iO r1,iO r2]⟩])):=by
   intro r1 r2 h1 h2 h3;refine xR (tU (cA rfl (cA (b2 rfl (b2 (b2 rfl rfl (zM (by decide))) (bV (cA rfl rfl) rfl) (c9 zk)) (ak1 _)) (cA (b2 rfl rfl rfl) (cA (bV rfl rfl) rfl)))) (by simp)) (by simp[noRef,ah,n1]) ⟨.call k1 1 [r1,r2],by rw[e1];rfl,by decide,(hB k1 hk1).2,h3,(λr hr=>?_),by simp,(hB k1 hk1).1⟩
   simp only[aV,eQ,eU]at hr;rcases hr with rfl | rfl
   ·exact h1
   ·exact h2
  cases hb:(pl%2==1)with
  | true =>
   rw[hb]at d2;exact xS (iT d2 rfl) (fin o1 l1 (hO _ Lv).1 (hL _ hl1).1 (by rw[(hO _ Lv).2,(hL _ hl1).2];show _=(if C.pl%2=1 then _ else _);rw[<-epl,if_pos (aY hb)]))
  | false =>
   rw[hb]at d2;exact xS (iF d2 rfl) (fin l1 o1 (hL _ hl1).1 (hO _ Lv).1 (by rw[(hO _ Lv).2,(hL _ hl1).2];show _=(if C.pl%2=1 then _ else _);rw[<-epl,if_neg (λz=>by rw[z]at hb;cases hb)]))
 ·refine xS (aS (lC (cA (pkL _ _) (cA (pkT _ _) rfl)) (by simp)) rfl) ?_
  obtain⟨j,hj,hj2⟩:∃j:Nat,pl/2=j/\j<=2:=⟨(pl/2).toNat,by lia,by lia⟩
  have afe:Ev (gQ (Dj "list" (mq (i8 LN)) (rd 9) (ak (op2 ju (rd 8) (kI 2)) (ak (op2 aZ (rd 6) (op2 gM (op2 ju (rd 1) (kI 64)) (fX fB Qx))) (aN []))))) (Tv a b CA f0 f1 f2 L T O B pl (some (.ref 1)) [⟨.lst,[iO l1,iO o1]⟩,⟨.lst,[iO l1,iO t1]⟩]) .nx (Tv a b CA f0 f1 f2 L T O B pl (some (.ref 1)) [⟨.lst,[iO l1,iO o1]⟩,⟨.lst,([l1,t1].take j++o2::[l1,t1].drop j).map iO⟩]):=by
   refine dS (p:=.b9) (yZ (as:=[.int (j:Int),iO o2]) rfl rfl (cA (b2 rfl rfl (by rw[<-hj];exact zM (by decide))) (cA (b2 rfl (b2 (b2 rfl rfl (zM (by decide))) (bV (cA rfl rfl) rfl) (c9 zo)) (ao2 _)) rfl)) ?_)
   have:j=0\/j=1\/j=2:=by lia
   rcases this with rfl | rfl | rfl<;>rfl
  refine xS afe ?_;obtain⟨ar,har⟩:=nw ([l1,t1].take j++o2::[l1,t1].drop j);rw[<-har];have ham:(∀r∈ar,r∈ks)/\ar.length<=4/\ar.map (·.2)=pk C 2:=by
   have:j=0\/j=1\/j=2:=by lia
   rcases this with rfl | rfl | rfl
   all_goals
    rw[har];refine⟨λr hr=>?_,by simp,?_⟩
    rotate_left
    ·show _=[C.d4,C.d5].take (C.pl/2).toNat++C.d1::[C.d4,C.d5].drop (C.pl/2).toNat;rw[<-epl,hj];simp[(hO _ ho2).2,(hL _ hl1).2,(hT _ ht1).2]
    simp at hr;rcases hr with rfl | rfl | rfl
    all_goals first | exact(hL _ hl1).1 | exact(hT _ ht1).1 | exact(hO _ ho2).1
  exact xR (tU (cA rfl (cA (b2 rfl (b2 (b2 rfl rfl (zM (by decide))) (bV (cA rfl rfl) rfl) (c9 zl)) (al2 _)) (cA (b2 rfl rfl rfl) (cA (bV rfl rfl) rfl)))) (by simp)) (by simp[noRef,ah,n2,gg]) ⟨.call (some l2) 2 ar,by rw[e2];rfl,by decide,by show some l2.2=some C.d4;rw[(hL _ N7).2],ham.2.2,ham.1,ham.2.1,λr hr=>by cases hr;exact(hL _ N7).1⟩
end
def RS(m:Int):∃y:Str,∀h,aZ h (.str "+-*") (.int (m%3))=some (.str y):=by
 have:m%3=0\/m%3=1\/m%3=2:=by lia
 rcases this with h | h | h<;>rw[h]
 ·exact⟨"+",λ_=>by kernel_rfl⟩
 ·exact⟨"-",λ_=>by kernel_rfl⟩
 ·exact⟨"*",λ_=>by kernel_rfl⟩
def RT(h:List aB)(w a b:Str):mK false h (.str w) (.ao [.str a,.str b])=some (.bl (a==w || (b==w || false))):=rfl
def NG{N:List Sp}(hl:N.length<=1000)(x0 x1 x2 x3 x4 x5 x7 x8 x9 zV x11 x12 x13:Option PV):Ek (di false [none,none,none] (iu (rd 6)) (nk Qe (gi (rd 2)) (rd 1))) (S0 [x0,x1,x2,x3,x4,x5,some (.lst (N.map kH)),x7,x8,x9,zV,x11,x12,x13]) (.lst ((N.filter λt=>may t.d).map b8)):=by
 refine RL (sV rfl rfl) (c7 ‹_›) λs hs=>?_
 have g:Ek (gi (rd 2)) (S0 [none,some (b8 s),some (.bl (may s.d))]) (may s.d):=tR rfl rfl;cases hg:may s.d with
 | true=>rw[hg]at g;exact Ob (by rw[<-hg];rfl) g rfl
 | false=>rw[hg]at g;exact Oc (by rw[<-hg];rfl) g
abbrev mdT(W:List Str)(ks:List Rk)(x:Str)(dg:Int)(CA gL:PV):PV:=.ao [.lst (W.map .str),KL ks,SL ks,.lst ((Xo ks x dg).map kH),CA,gL]
abbrev caT(fn:Nat->PV)(LK OT OW:List Rk)(BK:List (Option Rk))(pl:Int):PV:=.ao [.lst [fn 0,fn 1,fn 2],.lst (LK.map iO),.lst (OT.map iO),.lst (OW.map iO),.lst (BK.map J8),.int pl]
def abk(k:Nat)(hk:3<=k)(K:mL ks)(hM:0<M)(hW:0<W.length/\∀w∈W,w≠Str.ofString "drop"/\w≠"fill")(hx:(x,Kn.ow .num)∈ks)(hh:∃q∈ks,jh q.2=true)(dg:Int)(KD:∀j,noRef (fn j)=true)(Q:Xy C ks LK OT OW BK)(hp:0<=C.pl/\C.pl<6)(hln:noRef gL=true)(hla:vI fn C ks M gL)(Ce:Int) :
  ∃p,Gives (run txt (k+3) "_law_row" [.int Ce,.int (M:Int),mdT W ks x dg (caT fn LK OT OW BK C.pl) gL] []) p/\vI fn C ks M p:=by
 obtain⟨n1,n2,n3⟩:=FJ K hx dg;obtain⟨tm,htm,hmy⟩:=n3;obtain⟨N,hN⟩:=nw (Xo ks x dg);rw[<-hN]at n1 n2 htm;have hN0:=k7 htm;have h0:=k7 (uY hx);obtain⟨w,hv,hwa⟩:=ee W PV.str (Jy Ce 0) hW.1;obtain⟨a,ha⟩:=nw (Jy Ce 1);obtain⟨b,hb⟩:=nw (Jy Ce 2);have ma:=nU (k+1) Ce (i:=1) (by decide)
 have mb:=nU (k+1) Ce (i:=2) (by decide)
 have m0:=nU (k+1) Ce (i:=0) (by decide)
 rw[<-ha]at ma;rw[<-hb]at mb;obtain⟨one,e1,o1⟩:=wX (k+1) n1 hN0 Ce b;obtain⟨two,e2,o2⟩:=wX (k+1) n1 hN0 (Ce/7) a;obtain⟨pc,c1,c2⟩:=JM K M fn C k hk w a b h0;obtain⟨pl',l1,l2⟩:=JO K M fn C (k+1) a b hh;obtain⟨pq,q1,q2⟩:=Xz K M fn C (k+1) a b KD Q hp;obtain⟨ps,s1,s2⟩:=RQ K M fn C (k+1) w a o1 (hW.2 w hv);obtain⟨T,hT⟩:=nw (N.filter λt=>may t.d)
 have Su:∀t∈T,dh ks t:=by
  grind
 obtain⟨t,ht,hta⟩:=ee T b8 a (by rw[hT];exact k7 (gn.mpr ⟨htm,hmy⟩))
 have t1:=Su t ht;obtain⟨pm,hpm⟩:=RS b;obtain⟨j,hj,hjM⟩:∃j:Nat,a%M=j/\j<M:=⟨(a%M).toNat,by
  have:=l7 a (show(M:Int)≠0 by lia)
  lia,by
  have:=xp a (show(0:Int)<(M:Int) by lia)
  have:=l7 a (show(M:Int)≠0 by lia)
  lia⟩
 have gm:∀h,gM h (.int a) (.int (M:Int))=some (iN j):=λh=>by
  unfold iN;rw[<-hj];exact c9 (by lia)
 unfold mdT;rw[<-hN];obtain⟨CA,hCA⟩:=nw (caT fn LK OT OW BK C.pl);rw[<-hCA];obtain⟨md,Yn⟩:=nw (PV.ao [.lst (W.map .str),KL ks,SL ks,.lst (N.map kH),CA,gL]);rw[MZ];refine Rt.run ?_;have a0:Ev (c6 (rd 2) (gW 6 (dM (aX 3) Qg))) (S0 [some (.int Ce),some (.int (M:Int)),some md,none,none,none,none,none,none,none,none,none,none,none]) .nx (S0 [some (.int Ce),some (.int (M:Int)),some md,some (.lst (W.map .str)),some (KL ks),some (SL ks),some (.lst (N.map kH)),some CA,some gL,none,none,none,none,none]):=by rw[Yn];exact aS rfl rfl
 rw[<-Yn];have oc:=NG n2 (some (.int Ce)) (some (.int (M:Int))) (some md) (some (.lst (W.map .str))) (some (KL ks)) (some (SL ks)) (some CA) (some gL) (some (.int a)) (some (.int b)) (some (.str w)) none none;rw[<-hT]at oc;have nc:∀s:dq,s.h=[]->∀as:List PV,(s.h.isEmpty || ah as)=true:=λs h as=>by rw[h];rfl
 obtain⟨S,hS⟩:=nw (S0 [some (.int Ce),some (.int (M:Int)),some md,some (.lst (W.map .str)),some (KL ks),some (SL ks),some (.lst (N.map kH)),some CA,some gL,some (.int a),some (.int b),some (.str w),some (.lst (T.map b8)),some (gd one)]);refine xS a0 (xS (aS (cx (cA rfl (cA rfl rfl)) rfl rfl ma) rfl) (xS (aS (cx (cA rfl (cA rfl rfl)) rfl rfl mb) rfl) (xS (aS (b2 (x:=.lst (W.map .str)) rfl (b2 (cx (cA rfl (cA rfl rfl)) rfl rfl m0) (bV (as:=[.lst (W.map .str)]) (cA rfl rfl) rfl) (c9 (by grind))) (hwa _)) rfl) (xS (aS oc rfl) (xS (s1:=S) (aS (cx (cA rfl (cA rfl (cA rfl rfl))) rfl rfl e1) (by rw[hS];rfl)) ?_)))))
 have wd:∀v:Str,Ev (toB (op2 jv (rd 11) (aN (.str v)))) S (w==v) S:=λv=>by rw[hS];exact bT (b2 rfl rfl (dI _ _ _))
 have ot:Ev (op2 aZ (rd 12) (op2 gM (rd 9) (fX fB (ak (rd 12) (aN []))))) S (b8 t) S:=by rw[hS];exact b2 (x:=.lst (T.map b8)) rfl (b2 (x:=.int a) rfl (bV (as:=[.lst (T.map b8)]) (cA rfl rfl) rfl) (c9 (by grind))) (hta _)
 have sa:Ev (rd 9) S (.int a) S:=by rw[hS];rfl
 have sb:Ev (rd 10) S (.int b) S:=by rw[hS];rfl
 have Z2:Ev (rd 1) S (.int (M:Int)) S:=by rw[hS];rfl
 have so:Ev (rd 13) S (gd one) S:=by rw[hS];rfl
 have sh:(S.h.isEmpty)=true:=by rw[hS];rfl
 have cl:∀as:List PV,(S.h.isEmpty || ah as)=true:=λas=>by rw[sh];rfl
 have rw1:Ev (rd 11) S (.str w) S:=by rw[hS];rfl
 have r4:Ev (rd 4) S (KL ks) S:=by rw[hS];rfl
 have r5:Ev (rd 5) S (SL ks) S:=by rw[hS];rfl
 have r6:Ev (rd 6) S (.lst (N.map kH)) S:=by rw[hS];rfl
 have r7:Ev (rd 7) S CA S:=by rw[hS];rfl
 have r8:Ev (rd 8) S gL S:=by rw[hS];rfl
 have r0:Ev (rd 0) S (.int Ce) S:=by rw[hS];rfl
 have nS:noRef (b8 t)=true:=iD t1;have nO:noRef (gd one)=true:=eA.nr o1;have nO2:noRef (gd two)=true:=eA.nr o2;have nX:∀p,vI fn C ks M p->noRef p=true:=λp ⟨r,h1,h2⟩=>by rw[h1];exact CD KD r h2
 refine xI (wd "put") (λ_=>?_) λ_=>?_
 ·exact xR (tU (ps:=[.str "put",b8 t,gd one]) (cA rfl (cA ot (cA so rfl))) (by simp)) (by simp[noRef,ah,nS,nO]) ⟨.put t one,rfl,t1,o1⟩
 refine xI (wd "set") (λ_=>?_) λ_=>?_
 ·exact xR (tU (ps:=[.str "set",b8 t,.str pm,gd one,gd two]) (cA rfl (cA ot (cA (b2 (x:=.str "+-*") rfl (b2 sb rfl (c9 (by decide))) (hpm _)) (cA so (cA (cx (cA (b2 r0 rfl (zM (by decide))) (cA sa (cA r6 rfl))) rfl (cl _) e2) rfl))))) (by simp)) (by simp[noRef,ah,nS,nO,nO2]) ⟨.set t pm one two,rfl,t1,o1,o2⟩
 refine xI (bT (b2 (x:=.str w) (y:=.ao [.str "copy",.str "move"]) rw1 rfl (RT _ _ _ _))) (λ_=>?_) λ_=>?_
 ·exact xR (cx (cA rw1 (cA sa (cA sb (cA r5 rfl)))) rfl (cl _) c1) (nX _ c2) c2
 refine xI (wd "lend") (λ_=>?_) λ_=>?_
 ·exact xR (cx (cA sa (cA sb (cA r4 (cA r5 rfl)))) rfl (cl _) l1) (nX _ l2) l2
 refine xI (wd "call") (λ_=>?_) λ_=>?_
 ·exact xR (cx (cA sa (cA sb (cA r7 rfl))) rfl (cl _) (by grind)) (nX _ q2) q2
 refine xI (wd "give") (λ_=>?_) λ_=>?_
 ·exact xR r8 hln hla
 refine xI (wd "go") (λ_=>?_) λ_=>?_
 ·exact xR (tU (ps:=[.str "go",iN j]) (cA rfl (cA (b2 sa Z2 (gm _)) rfl)) (by simp)) rfl ⟨.go j,rfl,hjM⟩
 refine xI (wd "if") (λ_=>?_) λ_=>?_
 ·exact xR (tU (ps:=[.str "if",gd one,.int (b%97),iN j]) (cA rfl (cA so (cA (b2 sb rfl (c9 (by decide))) (cA (b2 sa Z2 (gm _)) rfl)))) (by simp)) (by simp[noRef,ah,nO,iN]) ⟨.JJ one (b%97) j,rfl,o1,hjM⟩
 ·exact xR (cx (cA rw1 (cA sa (cA so (cA r5 rfl)))) rfl (cl _) s1) (nX _ s2) s2
def mC(ns:List Int)(i:Nat):Int:=Jy (cell ns (1+i)) (i%4)
abbrev NM(C:Int):PV:=.lst (nmL C 13)
abbrev CE(ns:List Int):PV:=.lst ((List.range 7).map λi=>.int (mC ns i))
def JP(ns:List Int):List Sh:=[.num,jj (mC ns 0),jj (mC ns 1),jj (mC ns 2)]
abbrev OE(ns:List Int):PV:=.lst ((JP ns).map enc)
def NH(C:Int){q:Nat}(h:q<13)(H:List aB):aZ H (NM C) (.int (q:Int))=some (.str (jB C q)):=atI_nat (by unfold nmL;rw[bZ,su h];rfl)
def Tw(ns:List Int){q:Nat}(h:q<7)(H:List aB):aZ H (CE ns) (.int (q:Int))=some (.int (mC ns q)):=atI_nat (by rw[bZ,su h];rfl)
def XA(ns:List Int):∀s∈JP ns,cR s:=λs hs=>by
 simp only[JP,aV,eQ,eU]at hs;rcases hs with rfl | rfl | rfl | rfl
 ·exact Nm
 ·exact k0 _
 ·exact k0 _
 ·exact k0 _
noncomputable def XB(S:Option PV)(NN:PV)(i:Nat)(CC OO:PV)(acc:List PV)(o6 o7:Option PV):dq:=⟨[S,some NN,some (.int (i:Int)),some CC,some OO,some (.ref 0),o6,o7],[⟨.lst,acc⟩]⟩
def nW(k:Nat)(hk:3<=k)(C:Int)(ns:List Int)(S:Option PV)(hi:i<4)(acc:List PV)(ha:acc.length<=100)(o6 o7:Option PV):∃(d:Kn) (JD RE:Option PV),Ev (Jo (run txt (k+1))) (XB S (NM C) i (CE ns) (OE ns) acc o6 o7) .nx (XB S (NM C) i (CE ns) (OE ns) (acc++[aK (jB C (4+i),d)]) JD RE)/\jh d=true/\cR (bN d):=by
 obtain⟨m,hm⟩:=nw (mC ns (3+i));have hc:=Tw ns (q:=3+i) (by lia)
 rw[<-hm]at hc;obtain⟨CC,hCC⟩:=nw (CE ns);rw[<-hCC]at hc;rw[<-hCC];have hn:=NH C (q:=4+i) (by lia)
 obtain⟨NN,Of⟩:=nw (NM C);rw[<-Of]at hn;rw[<-Of];have h3:∀h,fD h (.int 3) (.int i)=some (.int (3+i:Nat)):=λ_=>dA (λz=>some (PV.int z)) (by lia)
 have h4:∀h,fD h (.int 4) (.int i)=some (.int (4+i:Nat)):=λ_=>dA (λz=>some (PV.int z)) (by lia)
 obtain⟨s,hs,yM⟩:∃s∈JP ns,∀h,aZ h (OE ns) (.int (1+m%3))=some (enc s):=by
  have:m%3=0\/m%3=1\/m%3=2:=by lia
  rcases this with h | h | h
  ·rw[h];exact⟨jj (mC ns 0),by simp[JP],λ_=>(atI_nat rfl:L2.mh ((JP ns).map enc) 1=_)⟩
  ·rw[h];exact⟨jj (mC ns 1),by simp[JP],λ_=>(atI_nat rfl:L2.mh ((JP ns).map enc) 2=_)⟩
  ·rw[h];exact⟨jj (mC ns 2),by simp[JP],λ_=>(atI_nat rfl:L2.mh ((JP ns).map enc) 3=_)⟩
 have fs:=XA ns s hs;obtain⟨OO,hOO⟩:=nw (OE ns);rw[<-hOO]at yM;rw[<-hOO];have hp:=zO s k (by have:=fs.1.1.2;lia) (by have:=fs.1.1.1;lia)
 obtain⟨r,hr,hra⟩:=ee (tab s) ly (m/9) (G4 s);have hz:0<(((tab s).map ly).length:Int):=by grind
 obtain⟨T,hT⟩:=nw ((tab s).map ly);rw[<-hT]at hp hra hz;obtain⟨b,hb⟩:∃b:Bool,∀h,aZ h (.lst [.str "lent",.str "sole",.str "sole"]) (.int (m/3%3))=some (.str (hw b)):=by
  have:m/3%3=0\/m/3%3=1\/m/3%3=2:=by lia
  rcases this with h | h | h
  ·rw[h];exact⟨false,λ_=>rfl⟩
  ·rw[h];exact⟨true,λ_=>rfl⟩
  ·rw[h];exact⟨true,λ_=>rfl⟩
 refine⟨.ho b r.2.2.2,some (.lst T),some (.str (hw b)),?_,rfl,Nn fs hr⟩;have c0:∀(x6 x7:Option PV),Ek (op2 aZ (rd 3) (op2 fD (kI 3) (rd 2))) (XB S NN i CC OO acc x6 x7) (.int m):=λx6 x7=>b2 rfl (b2 rfl rfl (h3 _)) (hc _)
 refine sq (aS (cx (cA (b2 rfl (b2 rfl (b2 (c0 _ _) rfl (c9 (by decide))) rfl) (yM _)) rfl) rfl (by simp[ah,dH]) hp) rfl) (sq (aS (b2 rfl (b2 (b2 (c0 _ _) rfl (zM (by decide))) rfl (c9 (by decide))) (hb _)) rfl) ?_)
 have ln:∀h,fB h [.lst T]=some (.int (T.length:Int)):=λ_=>rfl
 exact dS (yZ rfl rfl (cA (tU (cA (b2 rfl (b2 rfl rfl (h4 _)) (hn _)) (cA (tU (cA rfl (cA (b2 (b2 rfl (b2 (b2 (c0 _ _) rfl (zM (by decide))) (bV (cA rfl rfl) (ln _)) (c9 hz)) (hra _)) rfl rfl) rfl)) (by simp)) rfl)) (by simp)) rfl) (aC rfl (by lia)))
abbrev ltL(C:Int)(ns:List Int)(d4 d5 d6 d7:Kn):List Rk:=[(jB C 0,.ow .num),(jB C 1,.ow (jj (mC ns 0))),(jB C 2,.ow (jj (mC ns 1))),(jB C 3,.ow (jj (mC ns 2))),(jB C 4,d4),(jB C 5,d5),(jB C 6,d6),(jB C 7,d7)]
theorem qt:∀l:List Rk,ah (l.map aK)=true
 | []=>rfl
 | r::l=>by rw[aE];simp[ah,noRef,aK,rL,qt l]
def XC(k:Nat)(hk:3<=k)(C:Int)(ns:List Int):∃d4 d5 d6 d7:Kn,Gives (run txt (k+2) "_law_lets" [E8 ns,NM C] []) (.lst ((ltL C ns d4 d5 d6 d7).map aK))/\(jh d4=true/\cR (bN d4))/\(jh d5=true/\cR (bN d5))/\(jh d6=true/\cR (bN d6))/\(jh d7=true/\cR (bN d7)):=by
 obtain⟨S,hS⟩:=nw (E8 ns);have kn:∀i:Nat,Gives (run txt (k+1) "_law_cell_at" [S,.int i] []) (.int (cell ns i)):=λi=>by rw[hS];exact Ni k ns i
 obtain⟨acc,vv⟩:=nw (([(jB C 0,.ow .num),(jB C 1,.ow (jj (mC ns 0))),(jB C 2,.ow (jj (mC ns 1))),(jB C 3,.ow (jj (mC ns 2)))].map aK));have hal:acc.length=4:=by rw[vv];rfl
 obtain⟨d4,x6,x7,h4,i4⟩:=nW k hk C ns (some S) (i:=0) (by decide) acc (by lia) none none
 obtain⟨d5,y6,y7,h5,i5⟩:=nW k hk C ns (some S) (i:=1) (by decide) (acc++[aK (jB C 4,d4)]) (by simp;lia) x6 x7
 obtain⟨d6,z6,z7,h6,i6⟩:=nW k hk C ns (some S) (i:=2) (by decide) (acc++[aK (jB C 4,d4)]++[aK (jB C 5,d5)]) (by simp;lia) y6 y7
 obtain⟨d7,v6,v7,h7,i7⟩:=nW k hk C ns (some S) (i:=3) (by decide) (acc++[aK (jB C 4,d4)]++[aK (jB C 5,d5)]++[aK (jB C 6,d6)]) (by simp;lia) z6 z7
 refine⟨d4,d5,d6,d7,?_,i4,i5,i6,i7⟩;rw[Jp,<-hS];have c1:Ek (di false [none,none,some 0] (L3 (ED Bi (ak (kI 7) (aN [])))) (lq (aX 1) (bnd (ak (bnd (ak (rd 2) (ak (op2 fD (kI 1) (rd 1)) (aN []))) (bF 0 2 (run txt (k+1) "_law_cell_at"))) (ak (op2 gM (rd 1) (kI 4)) (aN []))) (bF 0 2 (run txt (k+1) "_law_mixed"))))) (S0 [some S,some (NM C),none,none,none,none,none,none]) (CE ns):=by
  refine cM (lP (cA rfl rfl) (iX _ _)) (by simp) λi hi=>?_
  have e0:mE i=iN i:=by unfold mE iN;rw[kh]
  rw[e0];have h1:∀h,fD h (.int 1) (.int i)=some (.int (1+i:Nat)):=λ_=>dA (λz=>some (PV.int z)) (by lia)
  have h2:∀h,gM h (.int i) (.int 4)=some (.int (i%4:Nat)):=λh=>by
   rw[c9 (by decide)]
   exact dA (λz=>some (PV.int z)) (by lia)
  exact e1 rfl (cx (cA (cx (cA rfl (cA (b2 rfl rfl (h1 _)) rfl)) rfl rfl (kn (1+i))) (cA (b2 rfl rfl (h2 _)) rfl)) rfl rfl (nU k (cell ns (1+i)) (by lia)))
 have c3:Ev (c6 (di true [none,none,some 1,some 4] (L3 (ED Bi (ak (kI 4) (aN [])))) (lq (aX 1) (mJ .ao (ak (op2 aZ (rd 2) (rd 1)) (ak (op2 aZ (rd 3) (rd 1)) (aN [])))))) (aX 5)) (S0 [some S,some (NM C),none,some (CE ns),some (OE ns),none,none,none]) .nx ⟨[some S,some (NM C),none,some (CE ns),some (OE ns),some (.ref 0),none,none],[⟨.lst,acc⟩]⟩:=by
  have ea:acc=(List.range 4).map λi=>PV.ao [.str (jB C i),enc ((JP ns).getD i .num)]:=by rw[vv];rfl
  rw[ea];refine aS (cN (lP (j:=4) (cA rfl rfl) (iX _ _)) (by simp) (cF _ λi hi=>?_)) rfl
  have hi:=cD.mp hi;have e0:mE i=iN i:=by unfold mE iN;rw[kh]
  rw[e0];have hn:=NH C (q:=i) (c7 ‹_›);have ho:∀h,aZ h (OE ns) (.int (i:Int))=some (enc ((JP ns).getD i .num)):=λ_=>(atI_nat (by
   have:i=0\/i=1\/i=2\/i=3:=by lia
   rcases this with rfl | rfl | rfl | rfl<;>rfl):L2.mh ((JP ns).map enc) (i:Int)=_)
  obtain⟨NN,Of⟩:=nw (NM C);rw[<-Of]at hn;rw[<-Of];obtain⟨OO,hOO⟩:=nw (OE ns);rw[<-hOO]at ho;rw[<-hOO];exact e1 (Ag:=[none,some (iN i),some NN,some OO]) (h1:=[]) rfl (tU (cA (b2 (x:=NN) (y:=.int (i:Int)) rfl rfl (hn _)) (cA (b2 (x:=OO) (y:=.int (i:Int)) rfl rfl (ho _)) rfl)) (by simp))
 have hl:acc++[aK (jB C 4,d4)]++[aK (jB C 5,d5)]++[aK (jB C 6,d6)]++[aK (jB C 7,d7)]=(ltL C ns d4 d5 d6 d7).map aK:=by rw[vv];rfl
 rw[hl]at h7;refine⟨.ref 0,_,j6 (sq (aS c1 rfl) (sq (aS (by
  refine b2 (y:=.lst ((List.range 3).map λi=>enc (jj (mC ns i)))) rfl (cM (lP (cA rfl rfl) (iX _ _)) (by simp) λi hi=>?_) (aL (by simp))
  have hi:=cD.mp hi;have e0:mE i=iN i:=by unfold mE iN;rw[kh]
  rw[e0];have hc:=Tw ns (q:=i) (c7 ‹_›);obtain⟨CC,hCC⟩:=nw (CE ns);rw[<-hCC]at hc;rw[<-hCC];exact e1 (Ag:=[none,some (iN i),some CC]) (h1:=[]) rfl (cx (cA (b2 (x:=CC) (y:=.int (i:Int)) rfl rfl (hc _)) rfl) rfl rfl (RD k (mC ns i)))) rfl) (sq c3 (sq (fS (lP (j:=4) (cA rfl rfl) (iX _ _)) (fC (s1:=XB (some S) (NM C) 0 (CE ns) (OE ns) acc none none) rfl h4 (fC (s1:=XB (some S) (NM C) 1 (CE ns) (OE ns) (acc++[aK (jB C 4,d4)]) x6 x7) rfl h5 (fC (s1:=XB (some S) (NM C) 2 (CE ns) (OE ns) (acc++[aK (jB C 4,d4)]++[aK (jB C 5,d5)]) y6 y7) rfl h6 (fC (s1:=XB (some S) (NM C) 3 (CE ns) (OE ns) (acc++[aK (jB C 4,d4)]++[aK (jB C 5,d5)]++[aK (jB C 6,d6)]) z6 z7) rfl h7 rfl))))) (rS rfl))))),mB (qt _)⟩
def abp(h:List aB):Pw h (.int 10) (.int 12)=some (.int (10^12)):=by kernel_rfl
def rQ(m:Int):m%4=0\/m%4=1\/m%4=2\/m%4=3:=by lia
structure Md where
 C:Int
 s1:Sh
 s2:Sh
 s3:Sh
 b4:Bool
 t4:Sh
 b5:Bool
 t5:Sh
 d6:Kn
 d7:Kn
 pl:Int
 bk:Int
 L:List Ro
namespace Md
variable (m:Md)
abbrev d4:Kn:=.ho m.b4 m.t4
abbrev d5:Kn:=.ho m.b5 m.t5
def nm(i:Nat):Str:=jB m.C i
def P:List Rk:=if m.pl%2=1 then [(m.nm 9,.ow m.s1),(m.nm 8,m.d4)]else [(m.nm 8,m.d4),(m.nm 9,.ow m.s1)]
def LT:List Rk:=[(m.nm 0,.ow .num),(m.nm 1,.ow m.s1),(m.nm 2,.ow m.s2),(m.nm 3,.ow m.s3),(m.nm 4,m.d4),(m.nm 5,m.d5),(m.nm 6,m.d6),(m.nm 7,m.d7)]
def ks:List Rk:=m.P++m.LT
def so1:List Nat:=if m.bk%4=2 then [8]else []
noncomputable def XD:List Nat:=if m.bk/4%4=0 then []else if m.bk/4%4=1 then [0]else if m.bk/4%4=2 then [1]else [0,1]
def sT(l:List Nat):PV:=.ao (l.map λi=>.str (m.nm i))
def res:PV:=if m.bk%4=0 then .b9 else if m.bk%4=3 then enc m.s2 else .ao [.str (hw m.b5),enc m.t5,m.sT m.so1]
def z:Option Rk:=if m.bk%4=0 then none else if m.bk%4=3 then some (m.nm 2,.ow m.s2)else some (m.nm 5,m.d5)
def hd:List Rk:=[(m.nm 0,m.d4),(m.nm 1,m.d5)].take (m.pl/2).toNat++(m.nm 2,.ow m.s1)::[(m.nm 0,m.d4),(m.nm 1,m.d5)].drop (m.pl/2).toNat
def fn(j:Nat):PV:=.str (m.nm (10+j))
def cs:Cs:=⟨.ow m.s1,m.d4,m.d5,m.z.map (·.2),m.pl⟩
def rows:List PV:=m.L.map (bO m.fn)
def F1:PV:=Dl (m.fn 1) m.res (.ao m.rows) m.P m.LT
def F0:PV:=.ao [m.fn 0,.ao [],.b9,.ao [],.ao [.ao [.str "give",.str ""]]]
def F2:PV:=.ao [m.fn 2,.ao (m.hd.map aK),.ao [.str (hw m.b4),enc m.t4,m.sT m.XD],.ao [],.ao [.ao [.str "give",.str (m.nm 0)]]]
def prog:PV:=.ao [m.F0,m.F1,m.F2]
end Md
structure cG (m:Md) (most:Nat):Prop where
 f1:cR m.s1
 f2:cR m.s2
 f3:cR m.s3
 f4:cR m.t4
 f5:cR m.t5
 f6:jh m.d6=true/\cR (bN m.d6)
 f7:jh m.d7=true/\cR (bN m.d7)
 pl:0<=m.pl/\m.pl<6
 rows:∃L,m.L=L++[.jC m.z]/\L.length<=most
 ok:∀r∈m.L,JK m.cs m.ks m.L.length r
theorem FK(C:Int):∀l:List (Fin 26),l.Nodup->(l.map λi=>jB C i.1).Nodup
 | [],_=>oG
 | i::l,h=>by
  rw[iW]at h;rw[aE,iW];refine⟨λhm=>?_,FK C l h.2⟩
  obtain⟨j,hj,e⟩:=aA.mp hm;have:=Ho j.2 i.2 e;exact h.1 (by rw[<-Fin.ext this];exact hj)
section
variable {m:Md}
def u4:m.ks.length=10:=by
 unfold Md.ks Md.P;split<;>rfl
def Tz(h:q∈m.P):q=(m.nm 9,.ow m.s1)\/q=(m.nm 8,m.d4):=by
 unfold Md.P at h;split at h
 all_goals simp only[aV,eQ,eU]at h
 ·exact h
 ·exact h.symm
def TC(h:q∈m.LT):q=(m.nm 0,.ow .num)\/q=(m.nm 1,.ow m.s1)\/q=(m.nm 2,.ow m.s2)\/q=(m.nm 3,.ow m.s3)\/q=(m.nm 4,m.d4)\/q=(m.nm 5,m.d5)\/q=(m.nm 6,m.d6)\/q=(m.nm 7,m.d7):=by
 unfold Md.LT at h;simpa only[aV,eQ,eU]using h
def CF:(m.ks.map (·.1)).Nodup:=by
 unfold Md.ks Md.P;split
 ·exact FK m.C [9,8,0,1,2,3,4,5,6,7] (by decide)
 ·exact FK m.C [8,9,0,1,2,3,4,5,6,7] (by decide)
def abq(h:q∈m.ks):∃i,i<10/\q.1=m.nm i:=by
 rcases bD.mp h with h | h
 ·rcases Tz h with rfl | rfl
  ·grind
  ·grind
 ·rcases TC h with rfl | rfl | rfl | rfl | rfl | rfl | rfl | rfl
  ·grind
  ·grind
  ·grind
  ·grind
  ·grind
  ·grind
  ·grind
  ·grind
def TF(f1:cR m.s1)(f2:cR m.s2)(f3:cR m.s3)(f4:cR m.t4)(f5:cR m.t5)(f6:cR (bN m.d6))(f7:cR (bN m.d7)):mL m.ks:=by
 refine⟨CF,λq h=>?_,by rw[u4];decide,λq h=>?_⟩
 ·rcases bD.mp h with h | h
  ·rcases Tz h with rfl | rfl
   ·exact f1
   ·exact f4
  ·rcases TC h with rfl | rfl | rfl | rfl | rfl | rfl | rfl | rfl
   ·exact Nm
   ·exact f1
   ·exact f2
   ·exact f3
   ·exact f4
   ·exact f5
   ·exact f6
   ·exact f7
 ·obtain⟨i,_,e⟩:=abq h;rw[e];exact Xh m.C i
def cG.ks(h:cG m most):mL m.ks:=TF h.f1 h.f2 h.f3 h.f4 h.f5 h.f6.2 h.f7.2
def lR(j:Nat):noRef (m.fn j)=true:=rfl
def TJ:∀r,m.z=some r->r∈m.ks:=λr h=>by
 unfold Md.z at h;have m2:(m.nm 2,.ow m.s2)∈m.ks:=dO _ (by simp[Md.LT])
 have m5:(m.nm 5,m.d5)∈m.ks:=dO _ (by simp[Md.LT])
 split at h
 ·cases h
 ·split at h
  ·cases h;exact m2
  ·cases h;exact m5
end
def fk(ks:List Rk)(d:Kn):List Rk:=ks.filter λq=>eqT (NC q.2) (NC d)
def Hz(h:r∈ks):(∀q∈fk ks r.2,q∈ks/\q.2=r.2)/\0<(fk ks r.2).length:=⟨λq hq=>⟨(gn.mp hq).1,Xv _ _ (gn.mp hq).2⟩,k7 (gn.mpr ⟨h,ku _⟩)⟩
def toT_K(h:List aB)(hs:zE (bN d)):toT h eY (encK d)=some (NC d):=by
 cases d with
 | ow s=>exact toT_enc h s eY (by have:=hs.2;simp only[bN]at this;show _<1000;lia)
 | ho b s =>
  have e1:=toT_enc h s 999 (by have:=hs.2;simp only[bN]at this;lia)
  show((cL (toT h 999) [.str (hw b),enc s]).bind (LD .ao))=_;simp only[cL,e1];rfl
def abr(h:List aB)(hd:zE (bN d))(he:zE (bN e)):jv h (encK d) (encK e)=some (.bl (eqT (NC d) (NC e))):=by
 show((toT h eY (encK d)).bind λx=>(toT h eY (encK e)).map λy=>eqT x y).map PV.bl=_
 rw[toT_K h hd,toT_K h he];rfl
def rR(K:mL ks)(h8:Ev (rd 8) s (KL ks) s)(N9:bE [none,none,none,some 4] s.ρ=[none,none,none,some LL])(hq:q0∈ks)(hj:∀h,aZ h LL (.int j)=some (aK q0)):Ev (di false [none,none,none,some 4] (iu (rd 8)) (nk Qe (toB (op2 jv (rd 2) (op2 aZ (op2 aZ (rd 3) (aN (.int j))) (kI 1)))) (rd 1))) s (.lst ((fk ks q0.2).map iO)) s:=by
 have hl:=K.few;refine RL (sV h8 rfl) (c7 ‹_›) λq yb=>?_
 rw[N9];have g:Ek (toB (op2 jv (rd 2) (op2 aZ (op2 aZ (rd 3) (aN (.int j))) (kI 1)))) ⟨[none,some (.str q.1),some (encK q.2),some LL],s.h⟩ (eqT (NC q.2) (NC q0.2)):=bT (b2 rfl (b2 (b2 rfl rfl (hj _)) rfl rfl) (abr _ (K.ok q yb) (K.ok q0 hq)));cases hg:eqT (NC q.2) (NC q0.2)with
 | true=>rw[hg]at g;exact Ob rfl g rfl
 | false=>rw[hg]at g;exact Oc rfl g
def JQ(ns:List Int)(n:Nat):∃cs:List Int,lj (ns.map PV.int) (some 8) (some (8+(n:Int)))=cs.map .int/\cs.length<=n:=by
 have e1:=HT.yc (ns.map PV.int).length 0 8;have e2:=HT.yc (ns.map PV.int).length (ns.map PV.int).length (8+n);unfold lj;rw[show(some 8:Option Int)=some ((8:Nat):Int)from rfl,show(some (8+n):Option Int)=some ((8+n:Nat):Int) by rw[Int.natCast_add];rfl,e1,e2,<-List.map_drop,<-List.map_take]
 exact⟨_,rfl,by rw[jG];lia⟩
theorem HA{R:Ro->Prop}:∀cs:List Int,(∀c∈cs,∃r,bd (.int c) h=some (some (bO fn r),h)/\R r)->∃L:List Ro,fH bd (cs.map PV.int) h=some (L.map (bO fn),h)/\(∀r∈L,R r)/\L.length=cs.length
 | [],_=>⟨[],rfl,(λ_ z=>nomatch z),rfl⟩
 | c::cs,H=>by
  obtain⟨r,h1,h2⟩:=H c bg;obtain⟨L,h3,h4,h5⟩:=HA cs λc hc=>H c (aU _ hc)
  refine⟨r::L,?_,λq hq=>?_,by simp[h5]⟩
  ·show(bd (.int c) h).bind _=_;rw[h1];show(fH bd (cs.map PV.int) h).map _=_;rw[h3];rfl
  ·grind
def cN'(hi:Ev fi s (.sq ps) s1)(hl:ps.length<=4000000)(hb:fH (bd (bE link s1.ρ)) ps s1.h=some (qs,s1.h)):Ev (di false link fi bd) s (.lst qs) s1:=eB hi (by
 show(if ps.length<=gF then fH _ ps s1.h else none).bind _=_
 rw[if_pos (show ps.length<=gF from hl),hb]
 rfl)
theorem HB:∀l:List Str,ah (l.map PV.str)=true
 | []=>rfl
 | _::l=>by rw[aE];simp[ah,noRef,HB l]
theorem rV:∀l:List PV,(∀p∈l,noRef p=true)->ah l=true
 | [],_=>rfl
 | p::l,h=>by simp[ah,h p bg,rV l λq hq=>h q (aU _ hq)]
def pS(l:List (Option PV))(h:List aB):dq:=⟨(l.reverse++List.replicate 24 none).take 24,h⟩
def aQ(a:Ev fa (pS l h) p s1)(hq:p=q)(hs:s1=pS l h')(ht:aX i q (pS l h')=some (pS (some q::l) h')) (k:Rt P (g (pS (some q::l) h'))):Rt P (dW (c6 fa (aX i)) g (pS l h)):=by
 subst hq hs;exact xS (aS a ht) k
def aP(a:Ek fa (pS l h) p)(ht:aX i p (pS l h)=some (pS (some p::l) h)) (k:Rt P (g (pS (some p::l) h))):Rt P (dW (c6 fa (aX i)) g (pS l h)):=xS (aS a ht) k
def xH(a:Ev f (pS l h) .nx (pS l h'))(k:Rt P (g (pS l h'))):Rt P (dW f g (pS l h)):=xS a k
def JR(k:Nat)(hk:3<=k)(ns:List Int)(most:Nat)(agF:most<=31){W:List Str}(hW:0<W.length/\∀w∈W,w≠Str.ofString "drop"/\w≠"fill"):∃m,Gives (run txt (k+4) "_law_program" [E8 ns,.int (most:Int),.lst (W.map .str)] []) (Md.prog m)/\cG m most:=by
 obtain⟨S,hS⟩:=nw (E8 ns);have kn:Gives (run txt (k+3) "_law_cell_at" [S,.int 0] []) (.int (cell ns 0)):=by rw[hS];exact Ni (k+2) ns 0
 obtain⟨C,hC⟩:=nw (cell ns 0%10^12);have hn:=RC (k+2) C 13 (by decide)
 obtain⟨d4,d5,d6,d7,vX,i4,i5,i6,i7⟩:=XC (k+1) (eJ ‹_›) C ns;obtain⟨back,abt⟩:=nw (Jy (cell ns 0) 3);have hb:=nU (k+2) (cell ns 0) (i:=3) (by decide)
 rw[<-abt]at hb;obtain⟨b4,t4,e4⟩:∃b4 t4,d4=.ho b4 t4:=by
  cases d4 with
  | ow s=>cases i4.1
  | ho b s=>exact⟨b,s,rfl⟩
 obtain⟨b5,t5,e5⟩:∃b5 t5,d5=.ho b5 t5:=by
  cases d5 with
  | ow s=>cases i5.1
  | ho b s=>exact⟨b,s,rfl⟩
 subst e4 e5;obtain⟨s1,q1⟩:=nw (jj (mC ns 0));obtain⟨s2,q2⟩:=nw (jj (mC ns 1));obtain⟨s3,q3⟩:=nw (jj (mC ns 2));have f1:=k0 (mC ns 0);have f2:=k0 (mC ns 1);have f3:=k0 (mC ns 2);rw[<-q1]at f1;rw[<-q2]at f2;rw[<-q3]at f3;unfold ltL at vX;rw[<-q1,<-q2,<-q3]at vX;obtain⟨m0,TK⟩:=nw (⟨C,s1,s2,s3,b4,t4,b5,t5,d6,d7,back/1024%6,back,[]⟩:Md);have hp6:0<=m0.pl/\m0.pl<6:=by grind
 have K:mL m0.ks:=by rw[TK];exact TF f1 f2 f3 i4.2 i5.2 i6.2 i7.2
 have fm:cR m0.s1/\cR m0.s2/\cR m0.s3/\cR m0.t4/\cR m0.t5/\(jh m0.d6=true/\cR (bN m0.d6))/\(jh m0.d7=true/\cR (bN m0.d7)):=by rw[TK];exact⟨f1,f2,f3,i4.2,i5.2,i6,i7⟩
 have vX:Gives (run txt (k+1+2) "_law_lets" [E8 ns,NM C] []) (.lst (m0.LT.map aK)):=by rw[TK];exact vX
 have hbk:m0.bk=back:=by rw[TK]
 have mI:m0.pl=back/1024%6:=by rw[TK]
 have hCm:m0.C=C:=by rw[TK]
 clear TK;have LTm:∀q∈m0.LT,q∈m0.ks:=λq hq=>dO _ hq
 have M0:(m0.nm 0,Kn.ow .num)∈m0.ks:=LTm _ (by simp[Md.LT])
 have M1:(m0.nm 1,Kn.ow m0.s1)∈m0.ks:=LTm _ (by simp[Md.LT])
 have M2:(m0.nm 2,Kn.ow m0.s2)∈m0.ks:=LTm _ (by simp[Md.LT])
 have M4:(m0.nm 4,m0.d4)∈m0.ks:=LTm _ (by simp[Md.LT])
 have M5:(m0.nm 5,m0.d5)∈m0.ks:=LTm _ (by simp[Md.LT])
 obtain⟨LL,XE⟩:=nw (PV.lst (m0.LT.map aK));have l1:∀h,aZ h LL (.int 1)=some (aK (m0.nm 1,.ow m0.s1)):=λ_=>by rw[XE];rfl
 have l2:∀h,aZ h LL (.int 2)=some (aK (m0.nm 2,.ow m0.s2)):=λ_=>by rw[XE];rfl
 have l4:∀h,aZ h LL (.int 4)=some (aK (m0.nm 4,m0.d4)):=λ_=>by rw[XE];rfl
 have l5:∀h,aZ h LL (.int 5)=some (aK (m0.nm 5,m0.d5)):=λ_=>by rw[XE];rfl
 obtain⟨NN,Of⟩:=nw (NM C);have nn:∀q:Nat,q<13->∀h,aZ h NN (.int q)=some (.str (m0.nm q)):=λq hq h=>by
  rw[Of];show _=some (PV.str (jB m0.C q));rw[hCm];exact NH C hq h
 have n0:∀h,aZ h NN (.int 0)=some (.str (m0.nm 0)):=nn 0 (by decide)
 have n1:∀h,aZ h NN (.int 1)=some (.str (m0.nm 1)):=nn 1 (by decide)
 have n2:∀h,aZ h NN (.int 2)=some (.str (m0.nm 2)):=nn 2 (by decide)
 have n5:∀h,aZ h NN (.int 5)=some (.str (m0.nm 5)):=nn 5 (by decide)
 have n8:∀h,aZ h NN (.int 8)=some (.str (m0.nm 8)):=nn 8 (by decide)
 have n9:∀h,aZ h NN (.int 9)=some (.str (m0.nm 9)):=nn 9 (by decide)
 have n10:∀h,aZ h NN (.int 10)=some (m0.fn 0):=nn 10 (by decide)
 have n11:∀h,aZ h NN (.int 11)=some (m0.fn 1):=nn 11 (by decide)
 have n12:∀h,aZ h NN (.int 12)=some (m0.fn 2):=nn 12 (by decide)
 have afl:∀h,LH h (some 10) none NN=some (.lst [m0.fn 0,m0.fn 1,m0.fn 2]):=λh=>by
  rw[Of];show some (PV.lst (lj _ (some 10) none))=some (.lst [.str (jB m0.C 10),.str (jB m0.C 11),.str (jB m0.C 12)]);rw[hCm];rfl
 obtain⟨cs,O4,hcl⟩:=JQ ns most;have afm:∀h,LH h (some 8) (some (8+most)) S=some (.lst (cs.map .int)):=λh=>by
  rw[hS];show some (PV.lst (lj (ns.map .int) (some 8) (some (8+(most:Int)))))=_;rw[O4]
 have rs:∀h,aZ h (.lst [.b9,.ao [.str (hw m0.b5),enc m0.t5,.ao []],.ao [.str (hw m0.b5),enc m0.t5,.ao [.str (m0.nm 8)]],enc m0.s2]) (.int (back%4))=some m0.res:=λ_=>by
  unfold Md.res Md.so1;rw[hbk];rcases rQ back with h | h | h | h<;>rw[h]<;>rfl
 have rz:∀h,aZ h (.lst [.str "",.str (m0.nm 5),.str (m0.nm 5),.str (m0.nm 2)]) (.int (back%4))=some (J8 m0.z):=λ_=>by
  unfold Md.z;rw[hbk];rcases rQ back with h | h | h | h<;>rw[h]<;>rfl
 obtain⟨BK,hBK,hB1,rg⟩:∃BK:List (Option Rk),(∀h,aZ h (.lst [.lst [.str ""],.lst ((fk m0.ks m0.d5).map iO),.lst ((fk m0.ks m0.d5).map iO),.lst ((fk m0.ks (.ow m0.s2)).map iO)]) (.int (back%4))=some (.lst (BK.map J8)))/\(∀o∈BK,(∀r,o=some r->r∈m0.ks)/\o.map (·.2)=m0.z.map (·.2))/\0<BK.length:=by
  have sm:∀{r:Rk},r∈m0.ks->m0.z.map (·.2)=some r.2->(∀o∈(fk m0.ks r.2).map some,(∀q,o=some q->q∈m0.ks)/\o.map (·.2)=m0.z.map (·.2))/\0<((fk m0.ks r.2).map some).length:=λ{r} hr hz=>by
   obtain⟨g1,g2⟩:=Hz hr;refine⟨λo ho=>?_,by rw[aD];exact g2⟩
   obtain⟨q',yb,rfl⟩:=aA.mp ho;exact⟨λq hq=>by cases hq;exact(g1 _ yb).1,by rw[hz];show some q'.2=_;rw[(g1 _ yb).2]⟩
  have mm:∀l:List Rk,(l.map some).map J8=l.map iO:=λl=>by rw[b6];rfl
  unfold Md.z at sm ⊢;rw[hbk]at sm ⊢;rcases rQ back with h | h | h | h<;>rw[h]at sm ⊢
  ·refine⟨[none],λ_=>rfl,λo ho=>?_,by simp⟩
   rw[bt]at ho;subst ho;exact⟨(λ_ z=>nomatch z),rfl⟩
  ·exact⟨(fk m0.ks m0.d5).map some,λ_=>by rw[mm];rfl,sm M5 rfl⟩
  ·exact⟨(fk m0.ks m0.d5).map some,λ_=>by rw[mm];rfl,sm M5 rfl⟩
  ·exact⟨(fk m0.ks (.ow m0.s2)).map some,λ_=>by rw[mm];rfl,sm M2 rfl⟩
 have CO:Xy m0.cs m0.ks (fk m0.ks m0.d4) (fk m0.ks m0.d5) (fk m0.ks (.ow m0.s1)) BK:=⟨Hz M4,Hz M5,Hz M1,hB1,rg⟩;have v20:∀h,aZ h (.lst [.ao [],.ao [.str (m0.nm 0)],.ao [.str (m0.nm 1)],.ao [.str (m0.nm 0),.str (m0.nm 1)]]) (.int (back/4%4))=some (m0.sT m0.XD):=λ_=>by
  unfold Md.XD;rw[hbk];rcases rQ (back/4)with h | h | h | h<;>rw[h]<;>rfl
 have afn:=RF (k+1) (eJ ‹_›) m0.ks K.ok (by rw[u4];decide)
 have afo:=JG (k+2) K M0 (back/16%64);obtain⟨gL,HC⟩:=nw (PV.ao [.str "give",J8 m0.z]);have hla:∀M,vI m0.fn m0.cs m0.ks M gL:=λM=>⟨.jC m0.z,HC,TJ⟩
 have hln:noRef gL=true:=by rw[HC];rfl
 have NI:=λc:Int=>abk k hk K (M:=cs.length+1) (iX _ _) hW M0 ⟨_,M4,rfl⟩ (back/16%64) lR CO hp6 hln (hla _) c
 obtain⟨md,Yn⟩:=nw (mdT W m0.ks (m0.nm 0) (back/16%64) (caT m0.fn (fk m0.ks m0.d4) (fk m0.ks m0.d5) (fk m0.ks (.ow m0.s1)) BK m0.pl) gL);have NI:∀c:Int,∃p,Gives (run txt (k+3) "_law_row" [.int c,.int ((cs.length+1:Nat):Int),md] []) p/\vI m0.fn m0.cs m0.ks (cs.length+1) p:=by rw[Yn];exact NI
 have nrm:noRef md=true:=by rw[Yn];simp[noRef,ah,HB,qt,Hs _ (qp K),Nr _ (FJ K M0 (back/16%64)).1,hln,lR,gg]
 have abv:∀hp:List aB,∃L:List Ro,fH (lq (aX 1) (bnd (ak (rd 1) (ak (op2 fD (fX fB Q2) (kI 1)) Qn)) (bF 0 3 (run txt (k+3) "_law_row"))) [none,none,some (.lst (cs.map .int)),some md]) (cs.map PV.int) hp=some (L.map (bO m0.fn),hp)/\(∀r∈L,JK m0.cs m0.ks (cs.length+1) r)/\L.length=cs.length:=λhp=>by
  refine HA cs λc hc=>?_
  obtain⟨p,h1,r,h2,h3⟩:=NI c;refine⟨r,?_,h3⟩;rw[h2]at h1;exact e1 rfl (cx (cA rfl (cA (by
   refine b2 (x:=.int (cs.length:Int)) (bV (cA rfl rfl) ?_) rfl rfl;show some (PV.int (((cs.map PV.int).length:Nat):Int))=_;rw[aD]) (cA rfl rfl))) rfl (by simp[ah,noRef,nrm]) h1)
 obtain⟨L,hL1,Yo,hL3⟩:=abv [⟨.lst,m0.P.map aK⟩];have hLn:L.length<=most:=by lia
 obtain⟨m,hm⟩:=nw ({m0 with L:=L++[Ro.jC m0.z]}:Md)
 refine⟨m,?_,?_⟩
 rotate_left
 ·rw[hm];obtain⟨g1,g2,g3,g4,g5,g6,g7⟩:=fm;refine⟨g1,g2,g3,g4,g5,g6,g7,hp6,⟨L,rfl,hLn⟩,λr hr=>?_⟩
  show JK m0.cs m0.ks (L++[Ro.jC m0.z]).length r;rw[bJ,hL3];rcases bD.mp hr with h | h
  ·exact Yo r h
  ·rw[bt]at h;subst h;exact TJ
 have hR:m.rows=L.map (bO m0.fn)++[gL]:=by
  rw[hm,HC];show(L++[Ro.jC m0.z]).map (bO m0.fn)=_;rw[ck];rfl
 have hF1:m.F1=Dl (m0.fn 1) m0.res (.ao (L.map (bO m0.fn)++[gL])) m0.P m0.LT:=by
  rw[<-hR,hm];rfl
 have hF0:m.F0=m0.F0:=by rw[hm];rfl
 have hF2:m.F2=m0.F2:=by rw[hm];rfl
 unfold Md.prog;rw[hF0,hF1,hF2,zA,<-hS];obtain⟨WW,hWW⟩:=nw (PV.lst (W.map .str));rw[<-hWW];obtain⟨x1,X7⟩:=nw (PV.int (most:Int));rw[<-X7];obtain⟨KS,XF⟩:=nw (KL m0.ks);obtain⟨PP,JS⟩:=nw (m0.P.map aK);obtain⟨RR,RU⟩:=nw (L.map (bO m0.fn)++[gL]);rw[<-RU];obtain⟨v4,hv4⟩:=nw (PV.lst ((fk m0.ks m0.d4).map iO));obtain⟨v5,hv5⟩:=nw (PV.lst ((fk m0.ks m0.d5).map iO));obtain⟨v1,hv1⟩:=nw (PV.lst ((fk m0.ks (.ow m0.s1)).map iO));obtain⟨vB,hvB⟩:=nw (PV.lst (BK.map J8));obtain⟨vS,hvS⟩:=nw (SL m0.ks);obtain⟨vN,hvN⟩:=nw (PV.lst ((Xo m0.ks (m0.nm 0) (back/16%64)).map kH));obtain⟨vC,hvC⟩:=nw (PV.lst (cs.map .int));obtain⟨p9,h9⟩:=nw m0.res;obtain⟨w20,h20⟩:=nw (m0.sT m0.XD);rw[<-h9]at rs;rw[<-h20]at v20;rw[<-JS]at hL1;have YL:Gives (run txt (k+3) "_law_names" [.int (cell ns 0%10^12),.int 13] []) NN:=by rw[<-hC,Of];exact hn
 rw[<-hS,<-Of,<-XE]at vX;have fd:∀h,gM h (.int (back/1024)) (.int 6)=some (.int m0.pl):=λh=>by rw[mI];exact c9 (by decide)
 have P2:PP.length=2:=by rw[JS,aD];unfold Md.P;split<;>rfl
 have hLT:m0.LT.length=8:=rfl;have nrR:ah RR=true:=by
  rw[RU];refine rV _ λp hp=>?_
  rcases bD.mp hp with h | h
  ·obtain⟨r,hr,rfl⟩:=aA.mp h;exact CD lR r (Yo r hr)
  ·rw[bt]at h;rw[h];exact hln
 have nr9:noRef m0.res=true:=by
  unfold Md.res;split
  ·rfl
  ·split
   ·exact dH _
   ·simp[noRef,ah,dH,Md.sT,gg]
 have nrP:noRef (.ao [m0.F0,Dl (m0.fn 1) m0.res (.ao RR) m0.P m0.LT,m0.F2])=true:=by simp[noRef,ah,Md.F0,Md.F2,Dl,dH,qt,nrR,nr9,Md.sT,gg,lR]
 suffices h:Rt (λp=>p=.ao [m0.F0,Dl (m0.fn 1) m0.res (.ao RR) m0.P m0.LT,m0.F2]) (uG (run txt (k+3)) ⟨gz 24 [S,x1,WW],[]⟩)from by
  obtain⟨p,a,b⟩:=Rt.run h;rw[<-b];exact a
 refine xS (aS (cx (cA (b2 (cx (cA rfl (cA rfl rfl)) rfl rfl kn) (b2 rfl rfl (abp _)) (c9 (by decide))) (cA rfl rfl)) rfl rfl YL) rfl) ?_
 refine xS (aS (cx (cA rfl (cA rfl rfl)) rfl rfl vX) rfl) ?_;refine xS (aS (cx (cA (cx (cA rfl (cA rfl rfl)) rfl rfl kn) (cA rfl rfl)) rfl rfl hb) rfl) ?_;refine xS (aS (b2 (b2 rfl rfl (zM (by decide))) rfl (fd _)) rfl) ?_
 refine xS (aS (lC (cA (tU (cA (b2 (x:=NN) rfl rfl (n8 _)) (cA (b2 (b2 (x:=LL) rfl rfl (l4 _)) rfl rfl) rfl)) (by simp)) (cA (tU (cA (b2 (x:=NN) rfl rfl (n9 _)) (cA (b2 (b2 (x:=LL) rfl rfl (l1 _)) rfl rfl) rfl)) (by simp)) rfl)) (by simp)) rfl) ?_
 refine xS (s1:=pS [some (.ref 0),some (.int m0.pl),some (.int back),some LL,some NN,some WW,some x1,some S] [⟨.lst,PP⟩]) ?_ ?_
 ·have d2:Ek (toB (op2 jv (op2 gM (rd 6) (kI 2)) (kI 1))) (pS [some (.ref 0),some (.int m0.pl),some (.int back),some LL,some NN,some WW,some x1,some S] [⟨.lst,[aK (m0.nm 8,m0.d4),aK (m0.nm 9,.ow m0.s1)]⟩]) (m0.pl%2==1):=bT (b2 (b2 (x:=.int m0.pl) rfl rfl (c9 (by decide))) rfl (jU _ _ _))
  rw[JS];unfold Md.P;by_cases h:m0.pl%2=1
  ·rw[show(m0.pl%2==1)=true by rw[h];rfl]at d2
   rw[if_pos h];exact iT d2 rfl
  ·rw[show(m0.pl%2==1)=false by rw[jF];exact h]at d2
   rw[if_neg h];exact iF d2 rfl
 refine aP (p:=KS) ?_ rfl ?_
 ·rw[XF,XE,JS];show Ev _ _ (PV.lst (m0.ks.map aK)) _;unfold Md.ks;rw[ck];refine b2 (x:=.ref 0) (y:=.lst (m0.LT.map aK)) rfl rfl ?_;show sizeOk ((m0.P.map aK).length+(m0.LT.map aK).length) _=_;exact if_pos (show _<=4000000 by rw[<-JS,P2,aD,hLT];decide)
 refine aP (p:=p9) (b2 (x:=.lst [.b9,.ao [.str (hw m0.b5),enc m0.t5,.ao []],.ao [.str (hw m0.b5),enc m0.t5,.ao [.str (m0.nm 8)]],enc m0.s2]) (lS (cA rfl (cA (b2 (y:=.ao [.ao []]) (b2 (x:=aK (m0.nm 5,m0.d5)) (z:=.ao [.str (hw m0.b5),enc m0.t5]) (b2 (x:=LL) rfl rfl (l5 _)) rfl rfl) rfl (aT (by simp))) (cA (b2 (y:=.ao [.ao [.str (m0.nm 8)]]) (b2 (x:=aK (m0.nm 5,m0.d5)) (z:=.ao [.str (hw m0.b5),enc m0.t5]) (b2 (x:=LL) rfl rfl (l5 _)) rfl rfl) (tU (cA (tU (cA (b2 (x:=NN) rfl rfl (n8 _)) rfl) (by simp)) rfl) (by simp)) (aT (by simp))) (cA (b2 (b2 (x:=LL) rfl rfl (l2 _)) rfl rfl) rfl)))) (by simp)) (b2 (x:=.int back) rfl rfl (c9 (by decide))) (rs _)) rfl ?_
 refine aP (p:=gL) ?_ rfl ?_
 ·rw[HC];exact tU (cA rfl (cA (b2 (x:=.lst [.str "",.str (m0.nm 5),.str (m0.nm 5),.str (m0.nm 2)]) (lS (cA rfl (cA (b2 (x:=NN) rfl rfl (n5 _)) (cA (b2 (x:=NN) rfl rfl (n5 _)) (cA (b2 (x:=NN) rfl rfl (n2 _)) rfl)))) (by simp)) (b2 (x:=.int back) rfl rfl (c9 (by decide))) (rz _)) rfl)) (by simp)
 refine aP (p:=v4) ?_ rfl ?_
 ·rw[hv4,XF];exact rR K (LL:=LL) rfl rfl M4 l4
 refine aP (p:=v5) ?_ rfl ?_
 ·rw[hv5,XF];exact rR K (LL:=LL) rfl rfl M5 l5
 refine aP (p:=v1) ?_ rfl ?_
 ·rw[hv1,XF];exact rR K (LL:=LL) rfl rfl M1 l1
 refine aP (p:=vB) ?_ rfl ?_
 ·rw[hvB,hv5,XF];exact b2 (x:=.lst [.lst [.str ""],.lst ((fk m0.ks m0.d5).map iO),.lst ((fk m0.ks m0.d5).map iO),.lst ((fk m0.ks (.ow m0.s2)).map iO)]) (lS (cA rfl (cA rfl (cA rfl (cA (rR K (LL:=LL) rfl rfl M2 l2) rfl)))) (by simp)) (b2 (x:=.int back) rfl rfl (c9 (by decide))) (hBK _)
 refine aP (p:=vS) ?_ rfl ?_
 ·rw[hvS,XF];exact cx (as:=[KL m0.ks]) (cA rfl rfl) rfl (by simp[ah,noRef,qt]) afn
 refine aP (p:=vN) ?_ rfl ?_
 ·rw[hvN,hvS];exact cx (as:=[SL m0.ks,.str (m0.nm 0),.int (back/16%64)]) (cA rfl (cA (b2 (x:=NN) rfl rfl (n0 _)) (cA (b2 (b2 (x:=.int back) rfl rfl (zM (by decide))) rfl (c9 (by decide))) rfl))) rfl (by simp[ah,noRef,Hs _ (qp K)]) afo
 refine aP (p:=md) ?_ rfl ?_
 ·rw[Yn];unfold mdT caT;rw[<-hWW,<-XF,<-hvS,<-hvN,<-hv4,<-hv5,<-hv1,<-hvB];exact tU (cA rfl (cA rfl (cA rfl (cA rfl (cA (tU (cA (x:=.lst [m0.fn 0,m0.fn 1,m0.fn 2]) (cE (p:=NN) rfl rfl rfl (afl _)) (cA rfl (cA rfl (cA rfl (cA rfl (cA rfl rfl)))))) (by simp)) (cA rfl rfl)))))) (by simp)
 refine aP (p:=vC) ?_ rfl ?_
 ·rw[hvC,X7];exact cE (p:=S) (h:=some (8+(most:Int))) rfl rfl (eB (b2 (x:=.int 8) (y:=.int (most:Int)) rfl rfl rfl) rfl) (afm _)
 refine aP (p:=(.lst RR)) ?_ rfl ?_
 ·rw[RU,hvC];exact b2 (x:=.lst (L.map (bO m0.fn))) (y:=.lst [gL]) (cN' (sV rfl rfl) (by rw[aD];lia) hL1) (lS (cA rfl rfl) (by simp)) (aL (by simp only[aD,aM,sH];lia))
 refine aP (p:=w20) (b2 (x:=.lst [.ao [],.ao [.str (m0.nm 0)],.ao [.str (m0.nm 1)],.ao [.str (m0.nm 0),.str (m0.nm 1)]]) (lS (cA rfl (cA (tU (cA (b2 (x:=NN) rfl rfl (n0 _)) rfl) (by simp)) (cA (tU (cA (b2 (x:=NN) rfl rfl (n1 _)) rfl) (by simp)) (cA (tU (cA (b2 (x:=NN) rfl rfl (n0 _)) (cA (b2 (x:=NN) rfl rfl (n1 _)) rfl)) (by simp)) rfl)))) (by simp)) (b2 (b2 (x:=.int back) rfl rfl (zM (by decide))) rfl (c9 (by decide))) (v20 _)) rfl ?_
 refine aQ (q:=.ref 1) (h':=[⟨.lst,PP⟩,⟨.lst,[aK (m0.nm 0,m0.d4),aK (m0.nm 1,m0.d5)]⟩]) (lC (ps:=[aK (m0.nm 0,m0.d4),aK (m0.nm 1,m0.d5)]) (cA (tU (cA (b2 (x:=NN) rfl rfl (n0 _)) (cA (b2 (b2 (x:=LL) rfl rfl (l4 _)) rfl rfl) rfl)) (by simp)) (cA (tU (cA (b2 (x:=NN) rfl rfl (n1 _)) (cA (b2 (b2 (x:=LL) rfl rfl (l5 _)) rfl rfl) rfl)) (by simp)) rfl)) (by simp)) rfl rfl rfl ?_
 refine xH (h':=[⟨.lst,PP⟩,⟨.lst,m0.hd.map aK⟩]) ?_ ?_
 ·obtain⟨j,hj,hj2⟩:∃j:Nat,m0.pl/2=(j:Int)/\j<=2:=⟨(m0.pl/2).toNat,by lia,by lia⟩
  unfold Md.hd;rw[hj];refine dS (p:=.b9) (yZ (n:=1) (as:=[.int (j:Int),aK (m0.nm 2,.ow m0.s1)]) rfl rfl (cA (b2 (x:=.int m0.pl) rfl rfl (by rw[<-hj];exact zM (by decide))) (cA (tU (cA (b2 (x:=NN) rfl rfl (n2 _)) (cA (b2 (b2 (x:=LL) rfl rfl (l1 _)) rfl rfl) rfl)) (by simp)) rfl)) ?_)
  have:j=0\/j=1\/j=2:=by lia
  rcases this with rfl | rfl | rfl<;>rfl
 refine aP (p:=m0.F2) (tU (cA (b2 (x:=NN) rfl rfl (n12 _)) (cA (x:=.ao (m0.hd.map aK)) (bV (as:=[.ref 1]) (cA rfl rfl) rfl) (cA (x:=.ao [.str (hw m0.b4),enc m0.t4,m0.sT m0.XD]) (b2 (x:=.ao [.str (hw m0.b4),enc m0.t4]) (y:=.ao [w20]) (b2 (x:=aK (m0.nm 4,m0.d4)) (b2 (x:=LL) rfl rfl (l4 _)) rfl rfl) (tU (cA rfl rfl) (by simp)) (by rw[h20];exact aT (by simp))) (cA rfl (cA (tU (cA (tU (cA rfl (cA (b2 (x:=NN) rfl rfl (n0 _)) rfl)) (by simp)) rfl) (by simp)) rfl))))) (by simp)) rfl ?_
 refine aP (p:=(Dl (m0.fn 1) m0.res (.ao RR) m0.P m0.LT)) ?_ rfl ?_
 ·unfold Dl;rw[<-JS,<-h9];exact tU (cA (b2 (x:=NN) rfl rfl (n11 _)) (cA (x:=.ao PP) (bV (as:=[.ref 0]) (cA rfl rfl) rfl) (cA rfl (cA (x:=.ao (m0.LT.map aK)) (bV (as:=[LL]) (cA rfl rfl) (by rw[XE];rfl)) (cA (x:=.ao RR) (bV (as:=[.lst RR]) (cA rfl rfl) rfl) rfl))))) (by simp)
 exact xR (tU (ps:=[m0.F0,Dl (m0.fn 1) m0.res (.ao RR) m0.P m0.LT,m0.F2]) (cA (tU (cA (b2 (x:=NN) rfl rfl (n10 _)) (cA rfl (cA rfl (cA rfl (cA rfl rfl))))) (by simp)) (cA rfl (cA rfl rfl))) (by simp)) nrP rfl
def Md.A(m:Md):List (List de):=m.L.map Tt
def Md.as(m:Md):List (Nat×de):=iC 0 m.A
def CG(j:Nat):Ro->List Nat
 | .jC _=>[]
 | .go n=>[n]
 | .JJ _ _ n=>Cq (j+1) n
 | _=>[j+1]
def Md.nx(m:Md)(j:Nat):List Nat:=match m.L[j]? with
 | some r=>CG j r
 | none=>[]
def Md.lz(m:Md):List (List Nat):=rO m.A m.nx
section
variable {m:Md} {most:Nat} (h:cG m most)
def u5(H:List aB):aZ H m.prog (.int 1)=some m.F1:=rfl
def HE(h:cG m most):ah m.rows=true:=rV _ λp hp=>by
 obtain⟨r,hr,rfl⟩:=aA.mp hp;exact CD lR r (h.ok r hr)
def XG:noRef m.res=true:=by
 unfold Md.res;split
 ·rfl
 ·split
  ·exact dH _
  ·simp[noRef,ah,dH,Md.sT,gg]
def qu(h:cG m most):noRef m.F1=true:=by simp[Md.F1,Dl,noRef,ah,lR,XG,qt,HE h]
def abw:noRef m.F0=true:=rfl
def abx:noRef m.F2=true:=by simp[Md.F2,noRef,ah,lR,dH,qt,Md.sT,gg]
def nY(h:cG m most):noRef m.prog=true:=by simp[Md.prog,noRef,ah,abw,qu h,abx]
def TL(h:cG m most):uK m.F1 m.ks:=Ld _ _ _ m.P m.LT (by have:=@u4 m;unfold Md.ks at this;rw[bJ]at this;lia) (CF)
def XH(h:cG m most)(hr:r∈m.L):pN m.ks m.L.length (bO m.fn r) (Tt r):=Xw h.ks _ lR r (h.ok r hr)
def CH(h:cG m most):m.L.length<=most+1/\0<m.L.length:=by
 obtain⟨L,e,hl⟩:=h.rows;rw[e];simp
 lia
def zW(h:cG m most)(hm:most<=31)(k:Nat)(hk:12<=k):Gives (run txt (k+1) "acts" [m.prog,.int 1] []) (.lst (m.as.map eN)):=by
 have e:m.rows=(m.L.map λr=>(bO m.fn r,Tt r)).map (·.1):=by rw[b6];rfl
 have e2:(m.L.map λr=>(bO m.fn r,Tt r)).map (·.2)=m.A:=by rw[b6];rfl
 have hl:=(CH h).1;have:=Xc k u5 (by rw[<-e];rfl) (qu h) (λq hq=>by
  obtain⟨r,hr,rfl⟩:=aA.mp hq;exact(XH h hr).made m.F1 k (TL h) (qu h) hk) (by grind)
 rw[e2,nQ]at this;exact this
def aby(h:cG m most):∀as∈m.A,as.length<=6:=λas ha=>by
 obtain⟨r,hr,rfl⟩:=aA.mp ha;exact(XH h hr).six
theorem CI:∀(L:List (List de)) (i:Nat),(∀as∈L,as.length<=6)->(iC i L).length<=6*L.length
 | [],_,_=>by simp[iC]
 | as::L,i,h=>by
  have h1:=h as bg;have h2:=CI L (i+1) λa ha=>h a (aU _ ha)
  have:(dY as).length<=6:=by
   cases as with
   | nil=>simp[dY]
   | cons a r=>exact h1
  rw[iC,bJ,aD,aM]
  lia
def zX(h:cG m most):m.as.length<=6*(most+1):=by
 have h1:=CI m.A 0 (aby h);have h2:=(CH h).1;have h3:m.A.length=m.L.length:=by unfold Md.A;rw[aD]
 unfold Md.as
 lia
def TM:Ro->Str
 | .put _ _=>"put"
 | .set _ _ _ _=>"set"
 | .zT _ _=>"copy"
 | .zU _ _=>"move"
 | .qW _ b _=>lw b
 | .call _ _ _=>"call"
 | .JJ _ _ _=>"if"
 | .go _=>"go"
 | .Oe _=>"say"
 | .jC _=>"give"
def TN(fn:Nat->PV)(H:List aB)(r:Ro):aZ H (bO fn r) (.int 0)=some (.str (TM r)):=by cases r<;>rfl
def Og:Ro->Nat
 | .jC _=>0
 | .go _=>1
 | .JJ _ _ _=>2
 | _=>3
def RV(r:Ro):(TM r==Str.ofString "give")=(Og r==0):=by
 cases r with
 | put _ _=>kernel_rfl
 | qW _ b _=>cases b<;>kernel_rfl
 | _=>kernel_rfl
def abz(r:Ro):(TM r==Str.ofString "go")=(Og r==1):=by
 cases r with
 | put _ _=>kernel_rfl
 | qW _ b _=>cases b<;>kernel_rfl
 | _=>kernel_rfl
def abA(r:Ro):(TM r==Str.ofString "if")=(Og r==2):=by
 cases r with
 | put _ _=>kernel_rfl
 | qW _ b _=>cases b<;>kernel_rfl
 | _=>kernel_rfl
def NJ{j:Nat}(hr:m.L[j]?=some r)(H:List aB):aZ H (.ao m.rows) (.int (j:Int))=some (bO m.fn r):=atI_nat (by unfold Md.rows;rw[bZ,hr];rfl)
def CJ(h:cG m most)(hr:m.L[j]?=some r)(hj:Og r≠0):j+1<m.L.length:=by
 obtain⟨L,e,hl⟩:=h.rows;have fL:=(cz.mp hr).1;by_cases hj2:j=L.length
 ·subst hj2;rw[e]at hr;simp at hr;subst hr;exact absurd rfl hj
 ·grind
def TQ(h:cG m most)(hr:m.L[j]?=some r):(CG j r).length<=2/\∀n∈CG j r,n<m.L.length:=by
 have ok:=h.ok r (cB hr);have one:Og r≠0->[j+1].length<=2/\∀n∈[j+1],n<m.L.length:=λhj=>⟨by simp,λn hn=>by rw[bt]at hn;have:=CJ h hr hj;lia⟩
 cases r with
 | jC z=>exact⟨by simp[CG],λ_ z=>nomatch z⟩
 | go n=>exact⟨by simp[CG],λq hq=>by simp only[CG,bt]at hq;rw[hq];exact ok⟩
 | JJ a i n =>
  have:=CJ h hr (by simp[Og])
  have h2:=ok.2;refine⟨?_,λq hq=>?_⟩
  ·show(Cq (j+1) n).length<=2;unfold Cq;split
   ·simp
   ·split<;>simp
  ·have hq:q∈Cq (j+1) n:=hq;unfold Cq at hq;split at hq
   ·simp at hq;lia
   ·split at hq<;>simp at hq<;>lia
 | _=>exact one (by simp[Og])
def XI(h:cG m most)(hm:most<=31)(k:Nat){j:Nat}(hr:m.L[j]?=some r):Gives (run txt (k+1) "row_nexts" [.ao m.rows,.int (j:Int)] []) (nT (CG j r)):=by
 have fL:=(cz.mp hr).1;have hl:=(CH h).1;obtain⟨p,hp⟩:=nw (bO m.fn r);obtain⟨R,hR⟩:=nw (PV.ao m.rows);rw[vz,<-hR];have ha:∀H,aZ H R (.int j)=some p:=λH=>by rw[hR,hp];exact NJ hr H
 have a1:Ev (c6 Ql (aX 2)) (S0 [some R,some (.int j),none]) .nx (S0 [some R,some (.int j),some p]):=aS (b2 rfl rfl (ha _)) rfl;have w:∀v:Str,Ek (toB (op2 jv (op2 aZ (rd 2) (kI 0)) (aN (.str v)))) (S0 [some R,some (.int j),some p]) (TM r==v):=λv=>bT (b2 (b2 rfl rfl (by rw[hp];exact TN _ _ r)) rfl (dI _ _ _))
 have wg:=w "give";have wo:=w "go";have wi:=w "if"
 rw[RV]at wg;rw[abz]at wo;rw[abA]at wi;have k1:Ek (op2 fD (rd 1) (kI 1)) (S0 [some R,some (.int j),some p]) (iN (j+1)):=b2 rfl rfl rfl;have nr:∀l,noRef (nT l)=true:=λl=>by simp[nT,noRef,rN]
 have one:(Og r==0)=false->(Og r==1)=false->(Og r==2)=false->Gives (du (qf (run txt k)) 3 [R,.int j] []) (nT [j+1]):=λz0 z1 z2=>by
  rw[z0]at wg;rw[z1]at wo;rw[z2]at wi;exact gV (sq a1 (sq (iF wg rfl) (sq (iF wo rfl) (sq (iF wi rfl) (rS (tU (cA k1 rfl) (by simp))))))) (nr _)
 have ok:=h.ok r (cB hr);cases r with
 | jC z=>exact gV (sq a1 (qP (iT wg (rS rfl)))) rfl
 | go n=>exact gV (sq a1 (sq (iF wg rfl) (qP (iT wo (rS (tU (ps:=[iN n]) (cA (b2 rfl rfl (by rw[hp];rfl)) rfl) (by simp))))))) (nr _)
 | JJ a i n =>
  have h2:=ok.2;have ss:ssO [] (.lst [iN (j+1),iN n])=some (.lst ((Cq (j+1) n).map iN)):=by
   have e:ssO [] (.lst [iN (j+1),iN n])=(if([((j+1:Nat):Int),(n:Int)].length<=2/\[((j+1:Nat):Int),(n:Int)].all (λn=>decide (0<=n/\n<64))=true)then some (PV.lst ((iI (pf (λi=>[((j+1:Nat):Int),(n:Int)].getD i 0) 2)).map .int))else none):=rfl
   rw[e,if_pos ⟨by simp,by simp;lia⟩,Nh,abd,b6]
   rfl
  exact gV (sq a1 (sq (iF wg rfl) (sq (iF wo rfl) (qP (iT wi (rS (bV (cA (eB (lS (cA k1 (cA (b2 rfl rfl (by rw[hp];rfl)) rfl)) (by simp)) (show Option.map _ (ssO [] (.lst [iN (j+1),iN n]))=_ by rw[ss];rfl)) rfl) rfl))))))) (nr _)
 | _=>exact one rfl rfl rfl
def RX(h:cG m most)(hm:most<=31)(k:Nat):zK (run txt (k+1)) (.ao m.rows) m.A.length m.nx:=λj hj=>by
 have hl:m.A.length=m.L.length:=by unfold Md.A;rw[aD]
 rw[hl]at hj ⊢;obtain⟨r,hr⟩:∃r,m.L[j]?=some r:=⟨_,bU hj⟩
 have e:m.nx j=CG j r:=by unfold Md.nx;rw[hr]
 rw[e];exact⟨XI h hm k hr,(TQ h hr).1,(TQ h hr).2⟩
def iE(h:cG m most)(hm:most<=20)(k:Nat)(hk:12<=k):Gives (run txt (k+2) "nexts" [m.prog,.int 1] []) (.lst (m.lz.map nT))/\Xd m.lz m.as.length:=by
 have ha:=zW h (by lia) k hk
 unfold Md.as at ha;rw[<-nQ]at ha;have hl:=zX h;obtain⟨g1,g2,g3⟩:=Rx (k+1) rfl (by simp[noRef,HE h]) ha (RX h (by lia) k) (by unfold Md.as at hl;lia)
 refine⟨g1,g2,g3,?_,by lia⟩
 obtain⟨a,haa⟩:=uO m.A 0 0 (aq _) (by unfold Md.A;rw[aD];have:=(CH h).2;lia)
 exact List.length_pos_of_mem haa
structure RY (m:Md) (cs:List Nat):Prop where
 nd:cs.Nodup
 lt:∀n∈cs,n<m.as.length
 zero:0∈cs
 nx:∀n∈cs,∀l,m.lz[n]?=some l->∀q∈l,q∈cs
def XJ(h:cG m most)(hm:most<=20):∃cs,(∀k,12<=k->Gives (run txt (k+3) "come_to" [m.prog,.int 1] []) (.lst (cs.map iN)))/\RY m cs:=by
 have N:=(iE h hm 12 (aq _)).2;obtain⟨ag,ns,b1,a2,a3,a4,a5,a6,a7⟩:=FE N;have Z1:(ns.map λn:Nat=>(n:Int)).Nodup:=by
  refine List.Pairwise.map _ (λa b hab z=>hab ?_) a3
  exact Int.ofNat.inj z
 have hl:ns.length<128:=by
  have:=hZ ns (List.range m.as.length) a3 λn hn=>cD.mpr (a4 n hn)
  rw[eP]at this;have:=N.few
  lia
 have tl:ag.length=ns.length:=by
  have:=dA List.length a2
  rwa [aD,aD]at this
 obtain⟨cs,O4,EO⟩:∃cs:List Nat,iI (ns.map λn:Nat=>n)=cs.map (λn:Nat=>(n:Int))/\∀n,n∈cs↔n∈ns:=by
  have hp:=fF (ns.map λn:Nat=>n)
  refine⟨(iI (ns.map λn:Nat=>n)).map Int.toNat,?_,λn=>?_⟩
  ·rw[b6];have:∀l:List Int,(∀i∈l,0<=i)->l=l.map ((λn:Nat=>(n:Int)) ∘ Int.toNat):=λl=>by
    induction l with
    | nil=>exact λ_=>rfl
    | cons i l ih =>
     intro hh;rw[aE,<-ih λj hj=>hh j (aU _ hj)]
     have:=hh i bg;show i::l=(i.toNat:Int)::l;rw[oz this]
   refine this _ λi hi=>?_
   obtain⟨n,_,rfl⟩:=aA.mp (hp.mem_iff.mp hi)
   lia
  ·constructor
   ·intro hn;obtain⟨i,hi,rfl⟩:=aA.mp hn;obtain⟨q,hq,rfl⟩:=aA.mp (hp.mem_iff.mp hi);exact hq
   ·intro hn;exact aA.mpr ⟨n,hp.mem_iff.mpr (aA.mpr ⟨n,hn,rfl⟩),rfl⟩
 refine⟨cs,?_,⟨?_,λn hn=>a4 n ((EO n).mp hn),(EO 0).mpr a7,λn hn l hl q hq=>?_⟩⟩
 ·intro k hk;have hn:=(iE h hm k hk).1;rw[BX];have hc:Ek (di false [none,none] (iu (bnd (ak (bnd Qo (bF 0 2 (run txt (k+2) "nexts"))) (aN [])) (bF 0 1 (run txt (k+2) "arrivals")))) (lq (aX 1) Q4)) (S0 [some m.prog,some (.int 1)]) (.lst (ns.map iN)):=by
   have e:ns.map iN=ag.map λt=>((t.1.map pj).getD 0 .b9):=by
    have:=dA (List.map λks:List bK=>(ks.map pj).getD 0 .b9) a2
    rw[b6,b6]at this;exact this.symm
   rw[e];refine cM (sV (cx (cA (cx (cA rfl (cA rfl rfl)) rfl rfl hn) rfl) rfl rfl (b1 k)) rfl) (by lia) λt ht=>?_
   have:t.1∈ns.map kN:=by rw[<-a2];exact aA.mpr ⟨t,ht,rfl⟩
   obtain⟨n,_,e2⟩:=aA.mp this;obtain⟨f,c⟩:=t;subst e2;exact e1 rfl (b2 rfl rfl rfl)
  refine gV (rS (bV (cA hc rfl) ?_)) (by simp[noRef,rN])
  have hn:lF (ns.map iN)=some (ns.map λn:Nat=>(n:Int)):=by
   have:=pH (ns.map λn:Nat=>n)
   rwa [b6]at this
  show(lF (ns.map iN)).bind _=_;rw[hn,dP,if_pos (Or.inr ⟨by rw[aD];lia,Z1⟩),O4,b6]
  rfl
 ·have:(cs.map λn:Nat=>(n:Int)).Nodup:=by rw[<-O4];exact(fF _).nodup_iff.mpr Z1
  exact List.Pairwise.imp (λ{a b} hab z=>hab (by rw[z])) (List.pairwise_map.mp this)
 ·rw[EO]at hn ⊢;have:kN n∈ag.map (·.1):=by rw[a2];exact aA.mpr ⟨n,hn,rfl⟩
  obtain⟨t,ht,e⟩:=aA.mp this;obtain⟨i,hi⟩:=List.getElem?_of_mem ht;obtain⟨f,c⟩:=t;subst e;obtain⟨fs,f1,f2⟩:=a6 i _ c (cz.mp hi).1 hi;rw[Hg hl]at f1;cases f1;have:=f2 (kN q) (aA.mpr ⟨q,hq,rfl⟩);rw[a2]at this;obtain⟨q',yb,e⟩:=aA.mp this;rw[<-Nc e];exact yb
end
section
variable {fa fb:Gx PV} {s s1 s2:dq} {x y:PV} {r:Option (Rs PV×dq)}
def Yp(h:Ev fa s x s1)(ht:qG s1.h x=some true)(h2:fb s1=r):Io fa fb s=r:=eB h (eB (a:=true) (by show(qG s1.h x).map _=_;rw[ht];rfl) h2)
def anF(h:Ev fa s x s1)(ht:qG s1.h x=some false):Ev (Io fa fb) s x s1:=eB h (eB (by show(qG s1.h x).map _=_;rw[ht];rfl) rfl)
def anB(h:Ev fa s (.bl a) s)(h2:Ev fb s (.bl b) s):Ev (Io fa fb) s (.bl (a&&b)) s:=by
 cases a with
 | true=>exact Yp h rfl h2
 | false=>exact anF h rfl
def Yq(ha:Ev fa s x s)(hb:Ev fb s y s)(h1:g s.h x y=some (.bl a))(hc:Ev fc s z s)(h2:g' s.h y z=some (.bl b)):Ev (chain g g' fa fb fc) s (.bl (a&&b)) s:=by
 have e1:Ev (hp λh=>(g h x y).bind v9) s a s:=by show((g s.h x y).bind v9).map _=_;rw[h1];rfl
 cases a with
 | true =>
  refine eB ha (eB hb (eB e1 (eB hc ?_)));show(g' s.h y z).map _=_;rw[h2];rfl
 | false=>exact eB ha (eB hb (eB e1 rfl))
end
def nZ(a:de):Bool:=(Str.ofString "lend"==a.w || (Str.ofString "sole"==a.w || false))
def n6(k:Nat)(q:Nat×de):Gives (run txt (k+1) "is_lending" [eN q] []) (.bl (nZ q.2)):=by
 rw[uv];exact gV (rS (b2 (b2 rfl rfl rfl) rfl (RT _ _ _ _))) rfl
noncomputable def tls(a:de):List Int:=(List.range a.m.toNat).map λi=>a.f+(i:Nat)*1
def JT(k:Nat){Bd:Nat}(hB:Bd<=500)(ok:wY X Bd q.2):Gives (run txt (k+1) "touched" [eN q] []) (.lst ((tls q.2).map .int)):=by
 rw[BY];have h1:=ok.f0;have h2:=ok.m0;have h3:=ok.few;refine gV (rS (eB (cA (b2 rfl rfl rfl) (cA (b2 (b2 rfl rfl rfl) (b2 rfl rfl rfl) rfl) rfl)) (eB (s1:=S0 [some (eN q)]) ?_ rfl))) (uU _);show Option.map _ (if 0<=q.2.f/\q.2.f<=q.2.f+q.2.m/\q.2.f+q.2.m<=1000 then some (PyProof.Rows.rangeInts q.2.f 1 (q.2.f+q.2.m-q.2.f).toNat)else none)=_
 rw[if_pos ⟨h1,by lia,by lia⟩,show q.2.f+q.2.m-q.2.f=q.2.m by lia]
 rfl
noncomputable def Yr(a:de)(x:Str)(l:Int):Bool:=(a.n==x)&&(decide (a.f<=l)&&decide (l<a.f+a.m))
def JU(k:Nat)(q:Nat×de)(x:Str)(l:Int):Gives (run txt (k+1) "touches" [eN q,.str x,.int l] []) (.bl (Yr q.2 x l)):=by
 rw[BZ];exact gV (rS (anB (b2 (b2 rfl rfl rfl) rfl (dI _ _ _)) (Yq (b2 rfl rfl rfl) rfl (le_int _ _ _) (b2 (b2 rfl rfl rfl) (b2 rfl rfl rfl) rfl) (lt_int _ _ _)))) rfl
def zY(k:Nat)(x:Str):Gives (run txt (k+1) "is_of_call" [.str x] []) (.bl (Txt.isdigit x)):=by
 rw[uw];exact gV (rS rfl) rfl
def zZ(h:List aB)(x:Str)(xs:List Str)(n:Bool):mK n h (.str x) (.ao (xs.map PV.str))=some (.bl (if n=true then !(xs.any λy=>y==x)else xs.any λy=>y==x)):=by
 have e:∀xs:List Str,cL (toT h eY) (xs.map PV.str)=some (xs.map Tr.str):=λxs=>by
  induction xs with
  | nil=>rfl
  | cons y xs ih=>show((cL (toT h eY) (xs.map PV.str)).map _)=_;rw[ih];rfl
 have e2:∀xs:List Str,((xs.map Tr.str).any λy=>eqT y (.str x))=xs.any λy=>y==x:=λxs=>by
  induction xs with
  | nil=>rfl
  | cons y xs ih=>rw[aE,gp,gp,ih];rfl
 have e3:Ip h (.str x) (xs.map PV.str)=some (xs.any λy=>y==x):=by
  show(cL (toT h eY) (xs.map PV.str)).map _=_;rw[e,gH,e2]
 show(Ip h (.str x) (xs.map PV.str)).map _=_;rw[e3];rfl
def CK(h:List aB)(x:Str)(xs:List Str)(n:Bool):mK n h (.str x) (.lst (xs.map PV.str))=some (.bl (if n=true then !(xs.any λy=>y==x)else xs.any λy=>y==x)):=zZ h x xs n
noncomputable def vJ(ps:List Rk)(xs:List Str):List Nat:=(List.range ps.length).filter λi=>xs.any λy=>y==(ps.getD i ("",.ow .num)).1
theorem CL(e:Rk->PV):∀(l:List Rk) (i:Nat) (pre:List Rk),pre.length=i->dN i (l.map e)=(List.range l.length).map λj=>pZ (.int ((i+j:Nat):Int)) (e ((pre++l).getD (i+j) ("",.ow .num)))
 | [],_,_,_=>rfl
 | r::l,i,pre,h=>by
  have ih:=CL e l (i+1) (pre++[r]) (by simp[h])
  rw[aE,dN,ih,aM,Dw,aE,b6]
  congr 1
  ·have:(pre++r::l).getD i ("",.ow .num)=r:=by subst h;simp
   rw[oK,this]
  ·refine xj λj _=>?_
   rw[cj,show i+1+j=i+(j+1) by lia]
   rfl
def Md.F(m:Md):Nat->PV
 | 0=>m.F0
 | 1=>m.F1
 | _=>m.F2
noncomputable def F_0(m:Md)(hi:i<3)(H:List aB):aZ H (m.F i) (.int 0)=some (m.fn i):=by
 match i,hi with
 | 0,_=>rfl
 | 1,_=>rfl
 | 2,_=>rfl
def abB(m:Md)(hi:i<3)(hj:j<3)(H:List aB):jv H (m.fn i) (m.fn j)=some (.bl (i==j)):=by
 show some (PV.bl (m.nm (10+i)==m.nm (10+j)))=_;by_cases e:i=j
 ·subst e;simp
 ·have:(m.nm (10+i)==m.nm (10+j))=false:=by
   rw[jF];intro z;have:=Ho (by lia) (by lia) z
   lia
  rw[this,show(i==j)=false by rw[jF];exact e]
def qw(m:Md)(hj:j<3)(hR:∀H,aZ H R (.int 2)=some (m.fn j))(x2:Option PV):Ek (op2 aZ Qf (kI 0)) (S0 [some m.prog,some R,x2]) (m.F j):=by
 have c:Ek Qf (S0 [some m.prog,some R,x2]) (.lst (([0,1,2].filter λi=>i==j).map m.F)):=by
  refine RL (e:=m.F) (sV rfl rfl) (by simp) λi hi=>?_
  have N6:i<3:=by grind
  obtain⟨f,hf⟩:=nw (m.F i);have h0:=F_0 m N6;rw[<-hf]at h0 ⊢;have g:Ek (toB (op2 jv Q4 Q7)) (S0 [none,some f,some R]) (i==j):=bT (b2 (b2 rfl rfl (h0 _)) (b2 rfl rfl (hR _)) (abB m N6 hj _));cases hg:(i==j)with
  | true=>rw[hg]at g;exact Ob rfl g rfl
  | false=>rw[hg]at g;exact Oc rfl g
 refine b2 c rfl ?_
 match j,hj with
 | 0,_=>rfl
 | 1,_=>rfl
 | 2,_=>rfl
def Md.ps(m:Md):Nat->List Rk
 | 0=>[]
 | 1=>m.P
 | _=>m.hd
def Md.so(m:Md):Nat->List Str
 | 0=>[]
 | 1=>m.so1.map m.nm
 | _=>m.XD.map m.nm
noncomputable def Md.hr(m:Md):Nat->Bool
 | 0=>false
 | 1=>!(m.bk%4==0)&&!(m.bk%4==3)
 | _=>true
def CM(m:Md):Ro->List Nat
 | .call _ j _=>if m.hr j=true then vJ (m.ps j) (m.so j)else []
 | _=>[]
abbrev stI(l:List Nat):PV:=.lst (l.map λi=>.str (sI i))
def FL(l:List Nat):noRef (stI l)=true:=by simp[noRef,gg]
def u6(m:Md)(j:Nat):(m.ps j).length<=3:=by
 unfold Md.ps;split
 ·simp
 ·unfold Md.P;split<;>simp
 ·unfold Md.hd;simp only[bJ,jG,aM,sF,sH]
  lia
noncomputable def F_1(m:Md)(hj:j<3)(H:List aB):aZ H (m.F j) (.int 1)=some (.ao ((m.ps j).map aK)):=by
 match j,hj with
 | 0,_=>rfl
 | 1,_=>rfl
 | 2,_=>rfl
def Md.rs(m:Md)(j:Nat):PV:=if j=1 then .ao [.str (hw m.b5),enc m.t5,.ao ((m.so 1).map .str)]else .ao [.str (hw m.b4),enc m.t4,.ao ((m.so 2).map .str)]
noncomputable def F_2(m:Md)(hj:j<3)(hr:m.hr j=true)(H:List aB):aZ H (m.F j) (.int 2)=some (m.rs j):=by
 have e:∀l:List Nat,m.sT l=.ao ((l.map m.nm).map PV.str):=λl=>by unfold Md.sT;rw[b6];rfl
 match j,hj with
 | 0,_=>cases hr
 | 1,_ =>
  have hr:(!(m.bk%4==0)&&!(m.bk%4==3))=true:=hr;simp at hr;show some m.res=_;unfold Md.res Md.rs;rw[if_neg hr.1,if_neg hr.2,if_pos rfl,e];rfl
 | 2,_ =>
  show some (PV.ao [.str (hw m.b4),enc m.t4,m.sT m.XD])=_;rw[e];rfl
def abC(m:Md)(j:Nat)(H:List aB):∃b,aZ H (m.rs j) (.int 0)=some (.str (hw b)):=by
 unfold Md.rs;split<;>exact⟨_,rfl⟩
def abD(m:Md)(hj:j=1\/j=2)(H:List aB):aZ H (m.rs j) (.int 2)=some (.ao ((m.so j).map .str)):=by
 rcases hj with rfl | rfl<;>rfl
def TR{m:Md}(hj:j<3)(hr:m.hr j=true):j=1\/j=2:=by
 match j,hj with
 | 0,_=>cases hr
 | 1,_=>exact .inl rfl
 | 2,_=>exact .inr rfl
def abE(k:Nat)(m:Md)(j:Nat):Gives (run txt (k+1) "is_holder" [m.rs j] []) (.bl true):=by
 obtain⟨b,hb⟩:=abC m j [];rw[lK];refine gV (rS (b2 (b2 rfl rfl hb) rfl ((RT _ _ _ _).trans ?_))) rfl;cases b<;>kernel_rfl
def JV(k:Nat)(h:cG m most)(hr:r∈m.L):Gives (run txt (k+2) "source_holders" [m.prog,bO m.fn r] []) (stI (CM m r)):=by
 rw[mz];have ok:=h.ok r hr;have w:∀p:PV,(∀H,aZ H p (.int 0)=some (.str (TM r)))->Ek (toB (op2 A6 Q4 (kS "call"))) (S0 [some m.prog,some p,none]) (!(TM r==Str.ofString "call")):=λp hp=>bT (b2 (b2 rfl rfl (hp _)) rfl (uX _ _ _))
 have hw:=w (bO m.fn r) λH=>TN _ H r
 have no:(TM r==Str.ofString "call")=false->CM m r=[]->Gives (du (jA (run txt (k+1))) 3 [m.prog,bO m.fn r] []) (stI (CM m r)):=λz1 z2=>by
  rw[z1]at hw;rw[z2];exact gV (qP (iT hw (rS rfl))) rfl
 cases r with
 | put s o=>exact no (by kernel_rfl) rfl
 | set s g a b=>exact no (by kernel_rfl) rfl
 | zT t s=>exact no (by kernel_rfl) rfl
 | zU t s=>exact no (by kernel_rfl) rfl
 | qW x b s=>exact no (by cases b<;>kernel_rfl) rfl
 | JJ a i n=>exact no (by kernel_rfl) rfl
 | go n=>exact no (by kernel_rfl) rfl
 | Oe a=>exact no (by kernel_rfl) rfl
 | jC z=>exact no (by kernel_rfl) rfl
 | call tk j ar =>
  obtain⟨hj,_⟩:=ok;obtain⟨R,RU⟩:=nw (bO m.fn (.call tk j ar));have hR:∀H,aZ H R (.int 2)=some (m.fn j):=λH=>by rw[RU];rfl
  rw[<-RU]at hw ⊢;have cc:=qw m hj hR none;have hw:=hw;obtain⟨P,hP⟩:=nw m.prog;rw[<-hP]at cc hw ⊢;obtain⟨f,hf⟩:=nw (m.F j);have f1:=F_1 m hj;rw[<-hf]at cc f1;show Gives _ (stI (if m.hr j=true then vJ (m.ps j) (m.so j)else []))
  by_cases hh:m.hr j=true
  ·rw[if_pos hh];have f2:=F_2 m hj hh;rw[<-hf]at f2;have hj2:=TR hj hh;obtain⟨b,hb⟩:=abC m j [];have nn:pY (m.rs j)=false:=by unfold Md.rs;split<;>rfl
   have t1:Ek (dF (toB (op2 X9 Q7 (aN (.b9)))) (aN true) (oV (gi (bnd (ak Q7 (aN [])) (bF 0 1 (run txt (k+1) "is_holder")))))) (S0 [some P,some R,some f]) false:=iF (bT (b2 (b2 rfl rfl (f2 _)) rfl (by show some (PV.bl (pY (m.rs j)))=_;rw[nn]))) (nB (tR (cx (cA (b2 rfl rfl (f2 _)) rfl) rfl rfl (abE k m j)) rfl))
   refine gV (sq (iF hw rfl) (sq (aS cc rfl) (sq (iF t1 rfl) (rS (s1:=S0 [some P,some R,some f]) ?_)))) (FL _);have en:=CL aK (m.ps j) 0 [] rfl;refine RL (sG (by rw[<-en];exact eV (b2 rfl rfl (f1 _)) rfl)) (by rw[eP];have:=u6 m j;lia) λi hi=>?_
   have N6:=cD.mp hi;have hp3:=u6 m j;rw[dy,fN];obtain⟨q,hq⟩:=nw ((m.ps j).getD i ("",.ow .num));rw[<-hq];have g:Ek (toB (op2 (mK false) (op2 aZ (rd 2) (kI 0)) (op2 aZ (op2 aZ (rd 3) (kI 2)) (kI 2)))) (S0 [none,some (.int i),some (aK q),some f]) ((m.so j).any λy=>y==q.1):=bT (b2 (b2 rfl rfl rfl) (b2 (b2 rfl rfl (f2 _)) rfl (abD m hj2 _)) (zZ _ _ _ _))
   cases hg:((m.so j).any λy=>y==q.1)with
   | true=>rw[hg]at g;exact Ob rfl g (bV (cA rfl rfl) (M9 _ i (by lia)))
   | false=>rw[hg]at g;exact Oc rfl g
  ·rw[if_neg hh];have hnh:∃d:PV,(∀H,aZ H f (.int 2)=some d)/\(pY d=true\/pY d=false/\Gives (run txt (k+1) "is_holder" [d] []) (.bl false)):=by
    rw[hf]
    match j,hj,hh with
    | 0,_,_=>exact⟨.b9,λ_=>rfl,.inl rfl⟩
    | 1,_,hh =>
     refine⟨m.res,λ_=>rfl,?_⟩
     have hh:¬((!(m.bk%4==0)&&!(m.bk%4==3))=true):=hh;simp at hh;unfold Md.res;by_cases e0:m.bk%4=0
     ·rw[if_pos e0];exact .inl rfl
     ·rw[if_neg e0,if_pos (hh e0)];refine .inr ⟨?_,?_⟩
      ·cases m.s2<;>rfl
      ·exact ez k (.ow m.s2)
    | 2,_,hh=>exact absurd rfl hh
   obtain⟨d,d1,d2⟩:=hnh;exact gV (sq (iF hw rfl) (sq (aS cc rfl) (qP (iT (by
    rcases d2 with d2 | ⟨d2,d3⟩
    ·exact iT (bT (b2 (b2 rfl rfl (d1 _)) rfl (by show some (PV.bl (pY d))=_;rw[d2]))) rfl
    ·exact iF (bT (b2 (b2 rfl rfl (d1 _)) rfl (by show some (PV.bl (pY d))=_;rw[d2]))) (nB (tR (cx (cA (b2 rfl rfl (d1 _)) rfl) rfl rfl d3) rfl))) (rS rfl))))) rfl
abbrev oj(m:Md):PV:=.nd (.kO "Course" ["function","listed","follow","sources"]) [m.F1,.lst (m.as.map eN),.lst (m.lz.map nT),.lst (m.L.map λr=>stI (CM m r))]
theorem FN:∀l:List (Nat×de),ah (l.map eN)=true
 | []=>rfl
 | _::l=>by rw[aE];simp[ah,eN,mD,noRef,FN l]
def pO(h:cG m most):noRef (oj m)=true:=by
 have:ah (m.L.map λr=>stI (CM m r))=true:=rV _ λp hp=>by
  obtain⟨r,_,rfl⟩:=aA.mp hp;exact FL _
 simp[noRef,ah,qu h,FN,zL,this]
def XM(hl:live ⟨k,ps⟩=true)(hp:ah ps=true):ve (⟨k,ps⟩::r) 4 (.ref 0)=some (.nd k ps):=by
 unfold ve;rw[if_neg (by simp[noRef])]
 show(if live ⟨k,ps⟩=true then(cL (ve (⟨k,ps⟩::r) 3) ps).map (PV.nd k)else none)=_
 rw[if_pos hl,He ps hp];rfl
def NK(k:Nat)(hk:14<=k)(h:cG m most)(hm:most<=20)(s:dq)(hs:s.h=[])(ht:Ev ts s [m.prog,.int 1] s):Ev (mkP "Course" 3 (Rf txt (run txt k) "Course") ts) s (oj m) s:=by
 obtain⟨k,rfl⟩:∃j,k=j+2:=⟨k-2,by lia⟩
 have ha:=zW h (by lia) (k+1) (by lia)
 have hn:=(iE h hm k (by lia)).1
 rw[Jj];refine eB ht ?_;rw[if_pos ⟨rfl,by grind⟩]
 have hsr:∀r∈m.L,Gives (run txt (k+2) "source_holders" [m.prog,bO m.fn r] []) (stI (CM m r)):=λr hr=>JV k h hr
 have nP:=nY h;have h4:∀H,aZ H m.F1 (.int 4)=some (.ao (m.L.map (bO m.fn))):=λ_=>rfl
 have nR:=λr hr=>CD (fn:=m.fn) lR r (h.ok r hr)
 have nF:=qu h;have TU:∀H,aZ H m.prog (.int 1)=some m.F1:=u5
 obtain⟨P,hP⟩:=nw m.prog;rw[<-hP]at ha hn hsr nP TU ⊢;obtain⟨F,hF⟩:=nw m.F1;rw[<-hF]at h4 nF TU;have e:du (BU (run txt (k+2))) 3 [.ref 0,P,.int 1] [⟨.kO "Course" [],[]⟩]=some (.ok .b9,[⟨.kO "Course" ["function","listed","follow","sources"],[F,.lst (m.as.map eN),.lst (m.lz.map nT),.lst (m.L.map λr=>stI (CM m r))]⟩]):=by
  refine Rg (J4:=[some (.ref 0),some P,some (.int 1)]) (sq (s1:=⟨[some (.ref 0),some P,some (.int 1)],[⟨.kO "Course" ["function"],[F]⟩]⟩) ?_ (sq (s1:=⟨[some (.ref 0),some P,some (.int 1)],[⟨.kO "Course" ["function","listed"],[F,.lst (m.as.map eN)]⟩]⟩) ?_ (sq (s1:=⟨[some (.ref 0),some P,some (.int 1)],[⟨.kO "Course" ["function","listed","follow"],[F,.lst (m.as.map eN),.lst (m.lz.map nT)]⟩]⟩) ?_ ?_)))
  ·exact eB (b2 rfl rfl (TU _)) (eB rfl (by kernel_rfl))
  ·exact eB (cx (cA rfl (cA rfl rfl)) rfl (by simp[ah,nP,noRef]) ha) (eB (a:=.ref 0) rfl (by kernel_rfl))
  ·exact eB (cx (as:=[P,.int 1]) (cA rfl (cA rfl rfl)) rfl (by simp[ah,nP,noRef]) hn) (eB (a:=.ref 0) rfl (by kernel_rfl))
  ·refine eB (cM (l:=m.L) (e:=bO m.fn) (G:=λr=>stI (CM m r)) (sV (p:=.ao (m.L.map (bO m.fn))) (b2 (x:=F) (b2 (x:=P) rfl rfl (TU _)) rfl (h4 _)) rfl) (by have:=(CH h).1;lia) λr hr=>?_) (eB (a:=.ref 0) rfl (by kernel_rfl))
   exact e1 (Ag:=[none,some (bO m.fn r),some P]) (h1:=[⟨.kO "Course" ["function","listed","follow"],[F,.lst (m.as.map eN),.lst (m.lz.map nT)]⟩]) rfl (cx (as:=[P,bO m.fn r]) (cA rfl (cA rfl rfl)) rfl (by simp[ah,nP,nR r hr]) (hsr r hr))
 rw[e];show(ve [⟨.kO "Course" ["function","listed","follow","sources"],[F,.lst (m.as.map eN),.lst (m.lz.map nT),.lst (m.L.map λr=>stI (CM m r))]⟩] 4 (.ref 0)).map _=_
 have nn:=pO h;have d:ve [⟨.kO "Course" ["function","listed","follow","sources"],[F,.lst (m.as.map eN),.lst (m.lz.map nT),.lst (m.L.map λr=>stI (CM m r))]⟩] 4 (.ref 0)=some (oj m):=by
  rw[hF];exact XM rfl (by simpa[noRef]using nn)
 rw[d];rfl
section
variable {m:Md} {most:Nat}
def qx{n:Nat}(hq:m.as[n]?=some q)(H:List aB):aZ H (.lst (m.as.map eN)) (.int (n:Int))=some (eN q):=atI_nat (by rw[bZ,hq];rfl)
def HF{n:Nat}(hl:m.lz[n]?=some l)(H:List aB):aZ H (.lst (m.lz.map nT)) (.int (n:Int))=some (nT l):=atI_nat (by rw[bZ,hl];rfl)
def abF{j:Nat}(hr:m.L[j]?=some r)(H:List aB):aZ H (.lst (m.L.map λr=>stI (CM m r))) (.int (j:Int))=some (stI (CM m r)):=atI_nat (by rw[bZ,hr];rfl)
def CN(m:Md)(g:Int)(x:Str):Bool:=decide (0<=g)&&(match m.as[g.toNat]? with | some q=>q.2.t&&(q.2.n==x) | none=>false)
def ge_int(h:List aB)(i j:Int):VI h (.int i) (.int j)=some (.bl (decide (i>=j))):=rfl
def pP(k:Nat)(hg:g<(m.as.length:Int))(x:Str):Gives (run txt (k+1) "is_through" [oj m,.int g,.str x] []) (.bl (CN m g x)):=by
 rw[uB];obtain⟨C,hC⟩:=nw (oj m);have f1:Ek Q8 (S0 [some C,some (.int g),some (.str x)]) (.lst (m.as.map eN)):=by rw[hC];rfl
 rw[<-hC];unfold CN;have t0:Ek (op2 VI (rd 1) (kI 0)) (S0 [some C,some (.int g),some (.str x)]) (.bl (decide (0<=g))):=b2 rfl rfl (ge_int _ _ _);by_cases h0:0<=g
 ·rw[bX h0]at t0 ⊢;obtain⟨n,rfl⟩:=xf h0;obtain⟨q,hq⟩:∃q,m.as[n]?=some q:=⟨_,bU (by lia)⟩
  rw[ei,hq];have f2:Ek (op2 aZ Q8 (rd 1)) (S0 [some C,some (.int n),some (.str x)]) (eN q):=b2 f1 rfl (qx hq _);exact gV (rS (Yp t0 rfl (anB (b:=q.2.n==x) (b2 f2 rfl rfl) (b2 (b2 f2 rfl rfl) rfl (dI _ _ _))))) rfl
 ·rw[iV h0]at t0 ⊢;exact gV (rS (anF t0 rfl)) rfl
def kM(k:Nat)(hk:6<=k)(h:cG m most)(hx:(x,d)∈m.ks):Gives (run txt (k+1) "count_leaves_of" [m.F1,.str x] []) (.int ((lv (bN d)).length:Int)):=by
 obtain⟨j,rfl⟩:∃j,k=j+2:=⟨k-2,by lia⟩
 have K:=h.ks;have hd:=(K.good _ hx).1.1;have k1:=TL h (j+1) _ hx;have k2:=uH j d;have k3:=er.all LA (bN d) (j+1) (by have:=hd.2;simp only at this;lia) (by have:=BL (bN d);have:=hd.1;simp only at this;lia)
 rw[lu];obtain⟨F,hF⟩:=nw m.F1;obtain⟨D,hD⟩:=nw (encK d);obtain⟨E,hE⟩:=nw (enc (bN d));rw[<-hD,<-hE]at k2;rw[<-hE]at k3;rw[<-hF];refine gV (rS (bV (cA (cx (cA (cx (cA (cx (cA rfl (cA rfl rfl)) rfl rfl (by grind)) rfl) rfl rfl k2) rfl) rfl rfl k3) rfl) ?_)) rfl
 show some (PV.int (((bY (lv (bN d))).length:Nat):Int))=_;rw[e9]
structure Ft where
 n:Nat
 x:Str
 l:Int
 g:Int
 s:Int
noncomputable def kF(f:Ft):List bK:=[.inl (f.n:Int),.inr f.x,.inl f.l,.inl f.g,.inl f.s]
def gC(f:Ft):PV:=.ao [.int (f.n:Int),.str f.x,.int f.l,.int f.g,.int f.s]
def CP(i:Nat)(q:Rk):List Ft:=if jh q.2=true then(List.range (lv (bN q.2)).length).map fun(l:Nat)=>⟨0,q.1,(l:Int),-1-(i:Int),(l:Int)⟩else []
def iG:Nat->List Rk->List Ft
 | _,[]=>[]
 | i,q::l=>CP i q++iG (i+1) l
theorem NL:∀l:List Ft,ah (l.map gC)=true
 | []=>rfl
 | _::l=>by rw[aE];simp[ah,gC,noRef,NL l]
def CQ(h:mL K)(hq:q∈K):(CP i q).length<=3:=by
 unfold CP;split
 ·rw[aD,eP];exact(h.good q hq).2
 ·simp
theorem CS(k:Nat)(hk:7<=k)(h:cG m most):∀(ps:List Rk) (i:Nat) (acc:List Ft) (x2 x3 x4:Option PV),(∀q∈ps,q∈m.ks)->acc.length+3*ps.length<=1000->i+ps.length<=100 ->
  ∃Ym x3' Aj,fW (gW 2 Q1) (iM (run txt k)) (dN i (ps.map aK)) ⟨[some m.F1,some (.ref 0),x2,x3,x4],[⟨.lst,acc.map gC⟩]⟩=some (.ok .nx,⟨[some m.F1,some (.ref 0),Ym,x3',Aj],[⟨.lst,(acc++iG i ps).map gC⟩]⟩)
 | [],i,acc,x2,x3,x4,_,_,_=>⟨x2,x3,x4,by simp[iG];rfl⟩
 | q::ps,i,acc,x2,x3,x4,hp,hz,hi=>by
  rw[aM]at hz hi;have hq:=hp q bg;have mI:=CQ h.ks (i:=i) hq;obtain⟨j,rfl⟩:∃j,k=j+1:=⟨k-1,by lia⟩
  have step:∃Aj,Ev (iM (run txt (j+1))) ⟨[some m.F1,some (.ref 0),some (.int i),some (aK q),x4],[⟨.lst,acc.map gC⟩]⟩ .nx ⟨[some m.F1,some (.ref 0),some (.int i),some (aK q),Aj],[⟨.lst,(acc++CP i q).map gC⟩]⟩:=by
   have nF:=qu h;have cl:=kM j (by lia) h hq
   obtain⟨F,hF⟩:=nw m.F1;rw[<-hF]at nF cl ⊢;have t1:Ek (gi (bnd (ak Qw (aN [])) (bF 0 1 (run txt (j+1) "is_holder")))) ⟨[some F,some (.ref 0),some (.int i),some (aK q),x4],[⟨.lst,acc.map gC⟩]⟩ (jh q.2):=tR (cx (cA (b2 rfl rfl rfl) rfl) rfl (by simp[ah,rL]) (ez j q.2)) rfl
   unfold CP;by_cases hh:jh q.2=true
   ·rw[hh]at t1;rw[if_pos hh,ck];have hl3:=(h.ks.good q hq).2;obtain⟨n,hn⟩:=nw ((lv (bN q.2)).length);rw[<-hn]at cl hl3;refine⟨some (.int n),iT t1 (sq (aS (cx (cA rfl (cA (b2 rfl rfl rfl) rfl)) rfl (by simp[ah,nF,noRef]) cl) rfl) (dS (p:=.b9) (yZ rfl rfl (cA (cM (G:=fun(l:Nat)=>gC ⟨0,q.1,(l:Int),-1-(i:Int),(l:Int)⟩) (lP (cA rfl rfl) (c7 ‹_›)) (by grind) λl hl=>?_) rfl) ?_)))⟩
    ·have e0:mE l=iN l:=by unfold mE iN;rw[kh]
     rw[e0];exact e1 rfl (tU (cA rfl (cA (b2 rfl rfl rfl) (cA rfl (cA (b2 rfl rfl rfl) (cA rfl rfl))))) (by simp))
    ·rw[hn,b6];exact xC rfl rfl (by grind)
   ·have hh:jh q.2=false:=by grind
    rw[hh]at t1;rw[if_neg (by grind),fA]
    exact⟨x4,iF t1 rfl⟩
  obtain⟨Aj,hs⟩:=step;obtain⟨y2,y3,y4,e⟩:=CS (j+1) hk h ps (i+1) (acc++CP i q) (some (.int i)) (some (aK q)) Aj (λr hr=>hp r (aU _ hr)) (by grind) (by lia)
  refine⟨y2,y3,y4,?_⟩;rw[iG,<-cj,aE,dN];exact fC rfl hs e
def RZ:∀q∈m.P,q∈m.ks:=λq hq=>gG _ hq
def CU:m.P.length=2:=by unfold Md.P;split<;>rfl
def Aa(k:Nat)(hk:7<=k)(h:cG m most):run txt (k+1) "held_at_first" [m.F1] []=some (.ok (.ref 0),[⟨.lst,(iG 0 m.P).map gC⟩]):=by
 obtain⟨x2,x3,x4,e⟩:=CS k hk h m.P 0 [] none none none RZ (by rw[CU];decide) (by rw[CU];decide)
 rw[fN]at e;rw[nK];exact j6 (sq rfl (sq (fS (sG (eV (b2 rfl rfl rfl) rfl)) e) (rS rfl)))
end
section
variable {m:Md} {most:Nat}
def NO:List Str:=[sI 0,sI 1,sI 2,sI 3]
structure XN (m:Md) (q:Nat×de):Prop where
 nm:q.2.k=""\/q.2.k∈CB m.ks\/q.2.k∈NO
 tk:q.2.k≠""->nZ q.2=true\/(q.2.w="take"/\nZ q.2=false/\∃b s j ar,m.L[q.1]?=some (.call (some (q.2.k,.ho b s)) j ar)/\(q.2.k,Kn.ho b s)∈m.ks/\m.hr j=true/\j<3)
def CV{a:de}(h:a.k=""):XN m (i,a):=⟨.inl h,λz=>absurd h z⟩
theorem CW:∀(L:List (List de)) (i:Nat) (q:Nat×de),q∈iC i L->∃j as,q.1=i+j/\L[j]?=some as/\q.2∈dY as
 | [],_,_,h=>nomatch h
 | as::L,i,q,h=>by
  rw[iC,bD]at h;rcases h with h | h
  ·obtain⟨a,ha,rfl⟩:=aA.mp h;exact⟨0,as,rfl,rfl,ha⟩
  ·obtain⟨j,bs,h1,h2,h3⟩:=CW L (i+1) q h;exact⟨j+1,bs,by lia,by simpa using h2,h3⟩
def FO(hq:q∈m.as):∃r,m.L[q.1]?=some r/\q.2∈dY (Tt r):=by
 obtain⟨j,as,h1,h2,h3⟩:=CW m.A 0 q hq;unfold Md.A at h2;rw[bZ]at h2;obtain⟨r,hr,rfl⟩:=bz h2;rw[dy]at h1;rw[<-h1]at hr;exact⟨r,hr,h3⟩
def CY(h:cG m most)(hq:q∈m.as):wY (CB m.ks) 3 q.2:=by
 obtain⟨r,hr,AU⟩:=FO hq;exact JH (XH h (cB hr)).ok q.2 AU
def TV:∀q∈J5 a,q.k="":=λq hq=>by
 unfold J5 at hq;split at hq
 ·rw[bt]at hq;subst hq;rfl
 ·cases hq
def CZ:∀q∈pK o,q.k="":=λq hq=>by
 cases o with
 | n i=>cases hq
 | s s =>
  rcases bD.mp hq with h | h
  ·exact TV q h
  ·rw[bt]at h;subst h;rfl
def TX:∀q∈Cc s,q.k="":=λq hq=>by
 unfold Cc at hq;split at hq
 ·rw[bt]at hq;subst hq;rfl
 ·rcases bD.mp hq with h | h
  ·exact TV q h
  ·rw[bt]at h;subst h;rfl
theorem NP:∀(l:List Rk) (i:Nat),i+l.length<=4->∀q∈jT i l,q.k=""\/nZ q=true/\q.k∈NO
 | [],_,_,_,h=>nomatch h
 | r::l,i,hl,q,h=>by
  rw[aM]at hl;simp only[jT,aV]at h;rcases h with rfl | h
  ·obtain⟨x,d⟩:=r;cases d with
   | ow s=>exact .inl rfl
   | ho b s =>
    refine .inr ⟨?_,?_⟩
    ·cases b<;>kernel_rfl
    ·have:i=0\/i=1\/i=2\/i=3:=by lia
     rcases this with rfl | rfl | rfl | rfl<;>simp[NO,tkA,tA]
  ·exact NP l (i+1) (by lia) q h
def C4(h:cG m most)(hq:q∈m.as):XN m q:=by
 obtain⟨r,hr,AU⟩:=FO hq;have ok:=h.ok r (cB hr);obtain⟨i,a⟩:=q;have rest:∀as:List de,(∀q∈as,q.k="")->a∈dY as->XN m (i,a):=λas h1 h2=>by
  cases as with
  | nil =>
   simp only[dY,bt]at h2;subst h2;exact CV rfl
  | cons b l=>exact CV (h1 a h2)
 have two:∀{x y:de},x.k=""->y.k=""->∀q∈[x,y],q.k="":=λ{x y} hx hy q hq=>by
  grind
 have app:∀{as bs:List de},(∀q∈as,q.k="")->(∀q∈bs,q.k="")->∀q∈as++bs,q.k="":=by grind
 cases r with
 | put s o=>exact rest _ (app CZ TX) AU
 | set s g a b=>exact rest _ (app (app CZ CZ) TX) AU
 | zT t s=>exact rest _ (two rfl rfl) AU
 | zU t s=>exact rest _ (two rfl rfl) AU
 | JJ a i n=>exact rest _ (app CZ λq (z:q∈([]:List de))=>nomatch z) AU
 | go n=>exact rest _ (λq (z:q∈([]:List de))=>nomatch z) AU
 | Oe a=>exact rest _ CZ AU
 | jC z =>
  cases z with
  | none=>exact rest _ (λq (z:q∈([]:List de))=>nomatch z) AU
  | some r =>
   refine rest _ (λq hq=>?_) AU
   rw[show Tt (.jC (some r))=[gvA r.1 r.2]from rfl,bt]at hq
   subst hq;obtain⟨x,d⟩:=r;cases d<;>rfl
 | qW x b s =>
  have hx:=ok.2;have:a=rM (lw b) s x:=by
   have:a∈[rM (lw b) s x]:=AU;simpa using this
  subst this;exact⟨.inr (.inl (aA.mpr ⟨_,hx,rfl⟩)),λ_=>.inl (by cases b<;>kernel_rfl)⟩
 | call tk j ar =>
  obtain⟨hj,ht,ha,hm,hl,htm⟩:=ok;rcases bD.mp (by
   have e:dY (Tt (.call tk j ar))=jT 0 ar++qj::nN tk:=by
    show dY (jT 0 ar++qj::nN tk)=_;cases jT 0 ar<;>rfl
   rw[<-e];exact AU)with h1 | h1
  ·rcases NP ar 0 (by lia) a h1 with h2 | ⟨h2,h3⟩
   ·exact CV h2
   ·exact⟨.inr (.inr h3),λ_=>.inl h2⟩
  ·rcases aV.mp h1 with rfl | h1
   ·exact CV rfl
   ·cases tk with
    | none=>cases h1
    | some r =>
     obtain⟨x,d⟩:=r;cases d with
     | ow s =>
      simp only[nN,bt]at h1;subst h1;exact CV rfl
     | ho b s =>
      simp only[nN,bt]at h1;subst h1;have hx:=htm (x,.ho b s) rfl;refine⟨.inr (.inl (aA.mpr ⟨_,hx,rfl⟩)),λ_=>.inr ⟨rfl,(by show(Str.ofString "lend"==Str.ofString "take" || (Str.ofString "sole"==Str.ofString "take" || false))=false;decide +kernel),b,s,j,ar,hr,hx,?_,hj⟩⟩
      have ht:=ht
      match j,hj,ht with
      | 0,_,ht=>cases ht
      | 1,_,ht =>
       have ht:some (Kn.ho b s)=m.z.map (·.2):=ht;show(!(m.bk%4==0)&&!(m.bk%4==3))=true;unfold Md.z at ht;by_cases e0:m.bk%4=0
       ·grind
       ·grind
      | 2,_,_=>rfl
def oe(h:cG m most)(hm:most<=20):m.lz.length=m.as.length:=(iE h hm 12 (aq _)).2.len
def pQ(h:cG m most)(hm:most<=20){n:Nat}(hl:m.lz[n]?=some l):l.length<=2/\∀q∈l,q<m.as.length:=(iE h hm 12 (aq _)).2.ok l (cB hl)
noncomputable def C5(n:Nat)(a:de)(b:Nat):List Ft:=(List.range a.m.toNat).map fun(j:Nat)=>⟨b,a.k,(j:Int),(n:Int),a.f+(j:Nat)*1⟩
def jd(m:Md)(n:Nat)(a:de)(l:List Nat):List Ft:=if nZ a=true/\CN m (n:Int) a.k=false then l.flatMap (C5 n a)else []
def C6(ok:wY X 3 a)(n b:Nat):(C5 n a b).length<=3:=by
 have h1:=ok.f0;have h2:=ok.m0;have h3:=ok.few;rw[C5,aD,eP]
 lia
theorem C7(k:Nat)(nC:noRef C=true){n:Nat}(ok:wY X 3 q.2):∀(l:List Nat) (acc:List Ft) (x4:Option PV),acc.length+3*l.length<=1000 ->
  ∃Aj,fW (aX 4) (uz (run txt (k+1))) (l.map iN) ⟨[some C,some (.int (n:Int)),some (eN q),some (.ref 0),x4],[⟨.lst,acc.map gC⟩]⟩=some (.ok .nx,⟨[some C,some (.int (n:Int)),some (eN q),some (.ref 0),Aj],[⟨.lst,(acc++l.flatMap (C5 n q.2)).map gC⟩]⟩)
 | [],acc,x4,_=>⟨x4,by simp;rfl⟩
 | b::l,acc,x4,hz=>by
  rw[aM]at hz;have hn:=C6 ok n b;obtain⟨Aj,e⟩:=C7 k nC ok l (acc++C5 n q.2 b) (some (iN b)) (by grind)
  refine⟨Aj,?_⟩;rw[iR,<-cj];refine fC rfl (dS (p:=.b9) (yZ (s2:=⟨[some C,some (.int (n:Int)),some (eN q),some (.ref 0),some (iN b)],[⟨.lst,acc.map gC⟩]⟩) rfl rfl (cA (x:=.lst ((C5 n q.2 b).map gC)) ?_ rfl) ?_)) e
  ·have t:=JT k (by decide) ok
   have en:∀(l:List Nat) i (f:Nat->Int),dN i (l.map λj=>PV.int (f j))=(List.range l.length).map λj=>pZ (.int (i+j:Nat)) (.int (f (l.getD j 0))):=λl=>by
    induction l with
    | nil=>exact λ_ _=>rfl
    | cons a l ih =>
     intro i f;rw[aE,dN,ih (i+1) f,aM,Dw,aE,b6]
     congr 1
     refine xj λj _=>?_
     show _=pZ (.int ((i+(j+1):Nat):Int)) _;rw[show i+1+j=i+(j+1) by lia]
     rfl
   have e2:(tls q.2).map PV.int=(List.range q.2.m.toNat).map λj=>PV.int (q.2.f+(j:Nat)*1):=by unfold tls;rw[b6];rfl
   have en2:=en (List.range q.2.m.toNat) 0 (λj=>q.2.f+j*1)
   rw[<-e2,eP]at en2;rw[C5,b6];refine cM (sG (by rw[<-en2];exact eV (p:=.lst ((tls q.2).map .int)) (cx (as:=[eN q]) (cA rfl rfl) rfl (by simp[ah,noRef,eN,mD]) t) rfl)) (by rw[eP];have h1:=ok.f0;have h3:=ok.few;lia) λj hj=>?_
   have hj:=cD.mp hj;have ej:(List.range q.2.m.toNat).getD j 0=j:=by grind
   rw[ej,dy];exact e1 (Ag:=[none,some (.int (j:Int)),some (.int (q.2.f+(j:Nat)*1)),some (eN q),some (iN b),some (.int (n:Int))]) (h1:=[⟨.lst,acc.map gC⟩]) rfl (tU (ps:=[.int (b:Int),.str q.2.k,.int (j:Int),.int (n:Int),.int (q.2.f+(j:Nat)*1)]) (cA rfl (cA (b2 (x:=eN q) rfl rfl rfl) (cA rfl (cA rfl (cA rfl rfl))))) (by simp))
  ·rw[ck];exact xC (n:=0) rfl rfl (by grind)
def R0(k:Nat)(h:cG m most)(hm:most<=20){n:Nat}(hq:m.as[n]?=some q)(hl:m.lz[n]?=some l):Gives (run txt (k+2) "newly_lent" [oj m,.int (n:Int)] []) (.lst ((jd m n q.2 l).map gC)):=by
 rw[uA];have fL:=(cz.mp hq).1;have ok:=CY h (cB hq);have th:=pP (m:=m) k (g:=(n:Int)) (by lia) q.2.k
 have ld:=n6 k q;have nC:=pO h;obtain⟨x4,e⟩:=C7 k nC ok l [] none (by have:=(pQ h hm hl).1;simp;lia)
 rw[fN]at e;have f1:∀(x2 x3 x4:Option PV),Ek Q8 (S0 [some (oj m),some (.int n),x2,x3,x4]) (.lst (m.as.map eN)):=λ_ _ _=>rfl
 have f2:∀(x2 x4:Option PV),Ek (yI "follow" (rd 0)) ⟨[some (oj m),some (.int n),x2,some (.ref 0),x4],[⟨.lst,[]⟩]⟩ (.lst (m.lz.map nT)):=λ_ _=>rfl
 obtain⟨C,hC⟩:=nw (oj m);rw[<-hC]at th nC e f1 f2 ⊢;have a1:Ev (c6 (op2 aZ Q8 (rd 1)) (aX 2)) (S0 [some C,some (.int n),none,none,none]) .nx (S0 [some C,some (.int n),some (eN q),none,none]):=aS (b2 (f1 _ _ _) rfl (qx hq _)) rfl;have t1:Ek (dF (oV (gi (bnd Q2 (bF 0 1 (run txt (k+1) "is_lending"))))) (aN true) (gi (bnd (ak (rd 0) (ak (rd 1) (ak Qy (aN [])))) (bF 0 3 (run txt (k+1) "is_through"))))) (S0 [some C,some (.int n),some (eN q),none,none]) (!nZ q.2 || CN m n q.2.k):=oB (nB (tR (cx (cA rfl rfl) rfl rfl ld) rfl)) (tR (cx (cA rfl (cA rfl (cA (b2 rfl rfl rfl) rfl))) rfl rfl th) rfl);unfold jd;by_cases hc:nZ q.2=true/\CN m n q.2.k=false
 ·rw[hc.1,hc.2]at t1;rw[if_pos hc];exact⟨.ref 0,_,j6 (sq a1 (sq (iF t1 rfl) (sq rfl (sq (fS (sV (b2 (f2 _ _) rfl (HF hl _)) rfl) e) (rS rfl))))),mB (NL _)⟩
 ·rw[if_neg hc];have:(!nZ q.2 || CN m n q.2.k)=true:=by
   grind
  rw[this]at t1;exact gV (sq a1 (qP (iT t1 (rS rfl)))) rfl
end
theorem u7{bd:PV->List aB->Option (Option PV×List aB)}{h:List aB}{n:Nat}{ps:List PV}{F:PV->Option PV}(hn:cH h (.ref n)=some (.lst,ps))(hb:∀p∈ps,bd p h=some (F p,h)):∀(f i:Nat),ps.length-i<f->i<=ps.length->p0 bd n f i h=some ((ps.drop i).filterMap F,h)
 | 0,i,hf,_=>by lia
 | f+1,i,hf,hi=>by
  have nx:GG n h i=some ps[i]?:=by unfold GG;rw[hn]
  have st:p0 bd n (f+1) i h=(match GG n h i with
   | some (some p)=>(bd p h).bind λr=>(p0 bd n f (i+1) r.2).map λs=>(r.1.toList++s.1,s.2)
   | some none=>some ([],h)
   | none=>none):=rfl
  rw[st,nx];by_cases hl:i<ps.length
  ·rw[bU hl];show(bd ps[i] h).bind _=_;rw[hb _ (List.getElem_mem hl),dP];rw[u7 hn hb f (i+1) (by lia) hl,rZ hl]
   cases e:F ps[i]with
   | none=>rw[List.filterMap_cons_none e];rfl
   | some v=>rw[List.filterMap_cons_some e];rfl
  ·rw[ou (by lia),List.drop_eq_nil_of_le (by lia)]
   rfl
def afr{α:Type}{link:List (Option Nat)}{fi:Gx EE}{bd:Bd}{s s1:dq}{n:Nat}{l:List α}{e G:α->PV}{f:α->Bool}(hi:Ev fi s (.cl n) s1)(hn:s1.h[n]?=some ⟨.lst,l.map e⟩)(hl:l.length<4000000)(hb:∀a∈l,bd (bE link s1.ρ) (e a) s1.h=some (if f a=true then some (G a)else none,s1.h)):Ev (di false link fi bd) s (.lst ((l.filter f).map G)) s1:=by
 have z:∀l:List α,(∀a∈l,bd (bE link s1.ρ) (e a) s1.h=some (if f a=true then some (G a)else none,s1.h))->(l.map e).filterMap (λp=>match bd (bE link s1.ρ) p s1.h with | some (o,_)=>o | none=>none)=(l.filter f).map G:=by
  intro l;induction l with
  | nil=>exact λ_=>rfl
  | cons a l ih =>
   intro h;have h1:=h a bg;have h2:=ih λb hb=>h b (aU _ hb)
   rw[aE,sk,h1,h2];cases hf:f a<;>simp[hf]
 have k:=u7 (bd:=bd (bE link s1.ρ)) (F:=λp=>match bd (bE link s1.ρ) p s1.h with | some (o,_)=>o | none=>none) (by
  show(s1.h[n]?).bind _=_;rw[hn];rfl) (λp hp=>by
  grind) gF 0 (by rw[aD];show _<4000000;lia) (dm _)
 rw[xK,z l hb]at k;refine eB hi ?_;show(p0 (bd (bE link s1.ρ)) n gF 0 s1.h).bind _=_;rw[k];rfl
structure S4 where
 x:Str
 l:Int
 g:Int
 s:Int
def Oh(o:S4):PV:=.ao [.str o.x,.int o.l,.int o.g,.int o.s]
def Ft.of(n:Nat)(o:S4):Ft:=⟨n,o.x,o.l,o.g,o.s⟩
def TY(m:Md)(x:Str):Nat:=match lN m.ks x with
 | some d=>(lv (bN d)).length
 | none=>0
def XO(m:Md)(j:Nat):List Nat:=match m.L[j]? with
 | some r=>CM m r
 | none=>[]
def u9(m:Md)(j:Nat)(x:Str):Bool:=((XO m j).map sI).any λy=>y==x
def given(m:Md)(q:Nat×de)(f:Ft):List Int :=
 if nZ q.2=true then(if(q.2.t&&Yr q.2 f.x f.l)=true then [f.l-q.2.f]else [])
 else if u9 m q.1 f.x=true then(List.range (TY m q.2.k)).map λi=>(0:Int)+(i:Nat)*1 else []
def jl(m:Md)(q:Nat×de)(f:Ft):List S4:=if(q.2.k==Str.ofString "" || CN m f.g q.2.k)=true then []else(given m q f).map λl=>⟨q.2.k,l,f.g,f.s⟩
def gO(m:Md)(q:Nat×de)(f:Ft):List S4:=(if(!(f.x==q.2.k)&&!CN m f.g q.2.k)=true then [⟨f.x,f.l,f.g,f.s⟩]else [])++jl m q f
def lT(m:Md)(n:Nat)(q:Nat×de):Bool:=match m.as[n]? with
 | some p=>(p.1:Int)==(q.1:Int)
 | none=>false
def qX(m:Md)(q:Nat×de)(f:Ft)(n:Nat):List Ft:=((gO m q f).filter λo=>lT m n q || !Txt.isdigit o.x).map (Ft.of n)
section
variable {m:Md} {most:Nat}
def Ab(h:cG m most){x:Str}{d:Kn}(hx:(x,d)∈m.ks):TY m x=(lv (bN d)).length/\TY m x<=3:=by
 have e:=kZ m.ks (x,d) CF hx;have:=(h.ks.good _ hx).2;unfold TY;rw[e];exact⟨rfl,this⟩
def XQ{q:Nat×de}(hq:q∈m.as):∃r,m.L[q.1]?=some r:=let ⟨r,h,_⟩:=FO hq;⟨r,h⟩
def R6(k:Nat)(hk:6<=k)(h:cG m most){q:Nat×de}(hq:q∈m.as)(hne:q.2.k≠"")(f:Ft):Gives (run txt (k+2) "leaves_given" [oj m,eN q,gC f] []) (.lst ((given m q f).map .int)):=by
 rw[pG];have ld:=n6 k q;have tc:=JU k q f.x f.l;have tk:=(C4 h hq).tk hne;have f1:∀H,Ek (yI "sources" (rd 0)) ⟨[some (oj m),some (eN q),some (gC f)],H⟩ (.lst (m.L.map λr=>stI (CM m r))):=λ_=>rfl
 have f2:∀H,Ek (yI "function" (rd 0)) ⟨[some (oj m),some (eN q),some (gC f)],H⟩ m.F1:=λ_=>rfl
 obtain⟨C,hC⟩:=nw (oj m);rw[<-hC]at f1 f2 ⊢;have t1:Ek (gi (bnd Q0 (bF 0 1 (run txt (k+1) "is_lending")))) (S0 [some C,some (eN q),some (gC f)]) (nZ q.2):=tR (cx (cA rfl rfl) rfl rfl ld) rfl;unfold given;cases hL:nZ q.2 with
 | true =>
  rw[hL]at t1;rw[if_pos rfl];have t2:Ek (dF (gi Qv) (gi (bnd (ak (rd 1) (ak Qb (ak Q7 (aN [])))) (bF 0 3 (run txt (k+1) "touches")))) (aN false)) (S0 [some C,some (eN q),some (gC f)]) (q.2.t&&Yr q.2 f.x f.l):=nD (tR (b2 rfl rfl rfl) rfl) (tR (cx (cA rfl (cA (b2 rfl rfl rfl) (cA (b2 rfl rfl rfl) rfl))) rfl rfl tc) rfl);cases hT:(q.2.t&&Yr q.2 f.x f.l)with
  | true =>
   rw[hT]at t2;rw[if_pos rfl];exact gV (qP (iT t1 (rS (iT t2 (lS (cA (b2 (b2 rfl rfl rfl) (b2 rfl rfl rfl) rfl) rfl) (by simp)))))) rfl
  | false =>
   rw[hT]at t2;rw[if_neg dc];exact gV (qP (iT t1 (rS (iF t2 rfl)))) rfl
 | false =>
  rw[hL]at t1;rw[if_neg dc];obtain⟨r,hr⟩:=XQ hq;rcases tk with tk | ⟨_,_,b,s,j,ar,_,hx,_⟩
  ·grind
  have hs:u9 m q.1 f.x=((CM m r).map sI).any λy=>y==f.x:=by
   unfold u9 XO;rw[hr]
  have e1:stI (CM m r)=.lst (((CM m r).map sI).map .str):=by
   simp_all
  have t2:Ek (toB (op2 (mK true) Qb (op2 aZ (yI "sources" (rd 0)) Q4))) (S0 [some C,some (eN q),some (gC f)]) (!u9 m q.1 f.x):=by
   rw[hs];refine bT (b2 (b2 rfl rfl rfl) (b2 (f1 _) (b2 rfl rfl rfl) ?_) (CK _ _ _ true));rw[<-e1];exact abF hr _
  cases hS:u9 m q.1 f.x with
  | false =>
   rw[hS]at t2;rw[if_neg dc];exact gV (sq (iF t1 rfl) (qP (iT t2 (rS rfl)))) rfl
  | true =>
   rw[hS]at t2;rw[if_pos rfl];obtain⟨c1,c2⟩:=Ab h hx;have cl:=kM k hk h hx;rw[<-c1]at cl;refine gV (sq (iF t1 rfl) (sq (iF t2 rfl) (rS (eB (cA (cx (cA (f2 _) (cA (b2 rfl rfl rfl) rfl)) rfl rfl cl) rfl) (eB (s1:=S0 [some C,some (eN q),some (gC f)]) ?_ rfl))))) (uU _);show Option.map _ (if 0<=(TY m q.2.k:Int)/\(TY m q.2.k:Int)<=1000 then some (PyProof.Rows.rangeInts 0 1 (TY m q.2.k:Int).toNat)else none)=_
   rw[if_pos ⟨by lia,by lia⟩,ei]
   rfl
def w5(h:cG m most){q:Nat×de}(hq:q∈m.as)(hne:q.2.k≠"")(f:Ft):(given m q f).length<=3:=by
 unfold given;split
 ·split<;>simp
 ·rename_i hL;split
  ·rcases(C4 h hq).tk hne with tk | ⟨_,_,b,s,j,ar,_,hx,_⟩
   ·exact absurd tk hL
   ·rw[aD,eP];exact(Ab h hx).2
  ·simp
def NQ(k:Nat)(hk:6<=k)(h:cG m most){q:Nat×de}(hq:q∈m.as){f:Ft}(hg:f.g<(m.as.length:Int)):Gives (run txt (k+3) "passed_on" [oj m,eN q,gC f] []) (.lst ((jl m q f).map Oh)):=by
 rw[vH];have th:=pP (k+1) hg q.2.k;have nC:=pO h;obtain⟨C,hC⟩:=nw (oj m);have gv:q.2.k≠""->Gives (run txt (k+2) "leaves_given" [C,eN q,gC f] []) (.lst ((given m q f).map .int)):=λhne=>by rw[hC];exact R6 k hk h hq hne f
 rw[<-hC]at th nC ⊢;have t1:Ek (dF (toB (op2 jv (op2 aZ (rd 1) (kI 6)) (kS ""))) (aN true) (gi (bnd (ak (rd 0) (ak (op2 aZ (rd 2) (kI 3)) (ak (op2 aZ (rd 1) (kI 6)) (aN [])))) (bF 0 3 (run txt (k+2) "is_through"))))) (S0 [some C,some (eN q),some (gC f)]) (q.2.k==Str.ofString "" || CN m f.g q.2.k):=oB (bT (b2 (b2 rfl rfl rfl) rfl (dI _ _ _))) (tR (cx (cA rfl (cA (b2 rfl rfl rfl) (cA (b2 rfl rfl rfl) rfl))) rfl rfl th) rfl);unfold jl;cases hc:(q.2.k==Str.ofString "" || CN m f.g q.2.k)with
 | true =>
  rw[hc]at t1;rw[if_pos rfl];exact gV (qP (iT t1 (rS rfl))) rfl
 | false =>
  rw[hc]at t1;rw[if_neg dc];have hne:q.2.k≠"":=λz=>by
   have:=(Bool.or_eq_false_iff.mp hc).1;rw[z]at this;exact absurd this (by decide +kernel)
  have hl:=w5 h hq hne f;rw[b6];refine gV (sq (iF t1 rfl) (rS (cM (sV (cx (cA rfl (cA rfl (cA rfl rfl))) rfl rfl (gv hne)) rfl) (c7 ‹_›) λl _=>?_))) ?_
  ·exact e1 rfl (b2 (y:=.ao [.int f.g,.int f.s]) (tU (cA (b2 rfl rfl rfl) (cA rfl rfl)) (by simp)) (cE rfl rfl rfl rfl) (aT (by simp)))
  ·have:∀l:List Int,ah (l.map (Oh ∘ λl=>(⟨q.2.k,l,f.g,f.s⟩:S4)))=true:=λl=>by
    induction l with
    | nil=>rfl
    | cons a l ih=>rw[aE];simp only[ah,ih,xO];rfl
   simp only[noRef,this]
def FP(h:cG m most){q:Nat×de}(hq:q∈m.as)(f:Ft):(jl m q f).length<=3:=by
 unfold jl;split
 ·simp
 ·rename_i hc;rw[aD];exact w5 h hq (by grind) f
def mH(h:cG m most){q:Nat×de}(hq:q∈m.as)(f:Ft):(gO m q f).length<=4:=by
 unfold gO;rw[bJ];have h1:(if(!(f.x==q.2.k)&&!CN m f.g q.2.k)=true then [(⟨f.x,f.l,f.g,f.s⟩:S4)]else []).length<=1:=by split<;>simp
 have:=FP h hq f
 lia
theorem qy(k:Nat)(h:cG m most){q:Nat×de}{f:Ft}(T:List S4)(hT:T.length<=4):∀(l:List Nat) (acc:List Ft) (x5 x6:Option PV),(∀n∈l,n<m.as.length)->acc.length+4*l.length<=1000 ->
  ∃vg J6,fW (aX 5) (qS (run txt (k+1))) (l.map iN) ⟨[some (oj m),some (gC f),some (eN q),some (.ref 0),some (.ref 1),x5,x6],[⟨.lst,T.map Oh⟩,⟨.lst,acc.map gC⟩]⟩=some (.ok .nx,⟨[some (oj m),some (gC f),some (eN q),some (.ref 0),some (.ref 1),vg,J6],[⟨.lst,T.map Oh⟩,⟨.lst,(acc++l.flatMap λn=>(T.filter λo=>lT m n q || !Txt.isdigit o.x).map (Ft.of n)).map gC⟩]⟩)
 | [],acc,x5,x6,_,_=>⟨x5,x6,by simp;rfl⟩
 | n::l,acc,x5,x6,hl,hz=>by
  rw[aM]at hz;have hfl:(T.filter λo=>lT m n q || !Txt.isdigit o.x).length<=4:=by grind
  have hfb:∀b:Bool,(T.filter λo=>b || !Txt.isdigit o.x).length<=4:=by grind
  obtain⟨vg,J6,e⟩:=qy k h T hT l (acc++(T.filter λo=>lT m n q || !Txt.isdigit o.x).map (Ft.of n)) (some (iN n)) (some (.bl (lT m n q))) (λp hp=>hl p (aU _ hp)) (by grind)
  refine⟨vg,J6,?_⟩;rw[iR,<-cj];obtain⟨p,hp⟩:∃p,m.as[n]?=some p:=⟨_,bU (hl n bg)⟩
  have sr:lT m n q=((p.1:Int)==(q.1:Int)):=by unfold lT;rw[hp]
  have f1:∀x6 H,Ek Q8 ⟨[some (oj m),some (gC f),some (eN q),some (.ref 0),some (.ref 1),some (iN n),x6],H⟩ (.lst (m.as.map eN)):=λ_ _=>rfl
  obtain⟨C,hC⟩:=nw (oj m);rw[<-hC]at f1 e ⊢;obtain⟨b,hb⟩:=nw (lT m n q);rw[<-hb]at e sr ⊢;refine fC rfl (sq (s1:=⟨[some C,some (gC f),some (eN q),some (.ref 0),some (.ref 1),some (iN n),some (.bl b)],[⟨.lst,T.map Oh⟩,⟨.lst,acc.map gC⟩]⟩) (aS (b2 (b2 (b2 (f1 _ _) rfl (qx hp _)) rfl rfl) (b2 rfl rfl rfl) (by rw[sr];exact jU _ _ _)) rfl) (dS (p:=.b9) (yZ (s2:=⟨[some C,some (gC f),some (eN q),some (.ref 0),some (.ref 1),some (iN n),some (.bl b)],[⟨.lst,T.map Oh⟩,⟨.lst,acc.map gC⟩]⟩) rfl rfl (cA (x:=.lst (((T.filter λo=>b || !Txt.isdigit o.x).map (Ft.of n)).map gC)) ?_ rfl) ?_))) e
  ·rw[b6];refine afr (eB rfl rfl) rfl (by lia) λo _=>?_
   ·have g:Ek (dF (gi (rd 3)) (aN true) (oV (gi (bnd (ak Q4 (aN [])) (bF 0 1 (run txt (k+1) "is_of_call")))))) ⟨[none,some (Oh o),some (iN n),some (.bl b)],[⟨.lst,T.map Oh⟩,⟨.lst,acc.map gC⟩]⟩ (b || !Txt.isdigit o.x):=oB (tR rfl rfl) (nB (tR (cx (cA (b2 rfl rfl rfl) rfl) rfl rfl (zY k o.x)) rfl));cases hg:(b || !Txt.isdigit o.x)with
    | true=>rw[hg]at g;exact Ob rfl g (b2 rfl rfl (aT (by simp)))
    | false=>rw[hg]at g;exact Oc rfl g
  ·rw[ck];exact xC rfl rfl (by grind)
def NR(k:Nat)(hk:6<=k)(h:cG m most)(hm:most<=20){f:Ft}{q:Nat×de}{l:List Nat}(hq:m.as[f.n]?=some q)(hl:m.lz[f.n]?=some l)(hg:f.g<(m.as.length:Int)):Gives (run txt (k+4) "held_behind" [oj m,gC f] []) (.lst ((l.flatMap (qX m q f)).map gC)):=by
 rw[qT];have NS:=cB hq;have th:=pP (k+2) hg q.2.k;have ps:=NQ k hk h NS hg;have nC:=pO h;have N7:=pQ h hm hl;obtain⟨x5,x6,e⟩:=qy (k+2) h (gO m q f) (mH h NS f) l [] none none N7.2 (by simp;lia)
 have f1:∀(x2 x3 x4 x5 x6:Option PV) H,Ek Q8 ⟨[some (oj m),some (gC f),x2,x3,x4,x5,x6],H⟩ (.lst (m.as.map eN)):=λ_ _ _ _ _ _=>rfl
 have f2:∀(x2 x3 x4 x5 x6:Option PV) H,Ek (yI "follow" (rd 0)) ⟨[some (oj m),some (gC f),x2,x3,x4,x5,x6],H⟩ (.lst (m.lz.map nT)):=λ_ _ _ _ _ _=>rfl
 obtain⟨C,hC⟩:=nw (oj m);rw[<-hC]at th ps nC e f1 f2 ⊢;have a1:Ev (c6 (op2 aZ Q8 Q4) (aX 2)) (S0 [some C,some (gC f),none,none,none,none,none]) .nx (S0 [some C,some (gC f),some (eN q),none,none,none,none]):=aS (b2 (f1 _ _ _ _ _ _) (b2 rfl rfl rfl) (qx hq _)) rfl;have t1:Ek (dF (toB (op2 A6 Q3 Qy)) (oV (gi (bnd (ak (rd 0) (ak Qv (ak Qy (aN [])))) (bF 0 3 (run txt (k+3) "is_through"))))) (aN false)) ⟨[some C,some (gC f),some (eN q),some (.ref 0),none,none,none],[⟨.lst,[]⟩]⟩ (!(f.x==q.2.k)&&!CN m f.g q.2.k):=nD (bT (b2 (b2 rfl rfl rfl) (b2 rfl rfl rfl) (uX _ _ _))) (nB (tR (cx (cA rfl (cA (b2 rfl rfl rfl) (cA (b2 rfl rfl rfl) rfl))) rfl (by simp[ah,nC,noRef]) th) rfl))
 obtain⟨T0,hT0⟩:=nw ((if(!(f.x==q.2.k)&&!CN m f.g q.2.k)=true then [⟨f.x,f.l,f.g,f.s⟩]else []):List S4)
 have qB:gO m q f=T0++jl m q f:=by rw[hT0];rfl
 have l0:T0.length<=1:=by grind
 have l1:=mH h NS f;rw[qB,bJ]at l1;have a3:Ev (gQ (Dj "list" yB (rd 3) (ak (bnd (ak (rd 0) (ak (rd 2) Q0)) (bF 0 3 (run txt (k+3) "passed_on"))) (aN [])))) ⟨[some C,some (gC f),some (eN q),some (.ref 0),none,none,none],[⟨.lst,T0.map Oh⟩]⟩ .nx ⟨[some C,some (gC f),some (eN q),some (.ref 0),none,none,none],[⟨.lst,(gO m q f).map Oh⟩]⟩:=by
  rw[qB,ck];exact dS (yZ rfl rfl (cA (cx (cA rfl (cA rfl (cA rfl rfl))) rfl (by simp[ah,nC,noRef,eN,mD,gC]) ps) rfl) (xC rfl rfl (by grind)))
 refine⟨.ref 1,_,j6 (sq a1 (sq rfl (sq (by
  rw[hT0];cases hc:(!(f.x==q.2.k)&&!CN m f.g q.2.k)with
  | true =>
   rw[hc]at t1;rw[if_pos rfl];exact iT t1 (dS (yZ rfl rfl (cA (cE rfl rfl rfl rfl) rfl) (aC (ps:=[]) rfl (by simp))))
  | false =>
   rw[hc]at t1;rw[if_neg dc];exact iF t1 rfl) (sq a3 (sq rfl (sq (fS (sV (b2 (f2 _ _ _ _ _ _) (b2 rfl rfl rfl) (HF hl _)) rfl) e) (rS rfl))))))),?_⟩
 exact zI rfl (NL _)
end
noncomputable def deF:List bK->Option Ft
 | [.inl n,.inr x,.inl l,.inl g,.inl s]=>if 0<=n then some ⟨n.toNat,x,l,g,s⟩else none
 | _=>none
def HG(f:Ft):deF (kF f)=some f:=by
 show(if 0<=(f.n:Int)then some (Ft.mk (f.n:Int).toNat f.x f.l f.g f.s)else none)=_
 rw[if_pos (by lia),ei]
def NT(h:deF k=some f):k=kF f:=by
 rcases k with _ | ⟨n | _,_ | ⟨_ | x,_ | ⟨l | _,_ | ⟨g | _,_ | ⟨s | _,_ | _⟩⟩⟩⟩⟩<;>first | (cases h;done) | skip
 obtain⟨h0,h⟩:=bR h;cases h;unfold kF;rw[show((Int.toNat _:Nat):Int)=_ from oz h0]
def NU(h:kF a=kF b):a=b:=by
 have:=dA deF h;rw[HG,HG]at this;exact cC this
def R7(m:Md)(f:Ft):Option (List Ft):=if f.g<(m.as.length:Int)then(m.as[f.n]?).bind λq=>(m.lz[f.n]?).map λl=>l.flatMap (qX m q f)else none
def C8(m:Md)(k:List bK):Option (List (List bK)):=(deF k).bind λf=>(R7 m f).map λfs=>fs.map kF
section
variable {m:Md} {most:Nat}
def Xs(m:Md):List Str:=Str.ofString ""::(CB m.ks++NO)
def XR:(Xs m).length=15:=by
 unfold Xs NO CB;rw[aM,bJ,aD,u4];rfl
structure qY (m:Md) (f:Ft):Prop where
 n:f.n<m.as.length
 x:f.x∈Xs m
 l:0<=f.l/\f.l<3
 g:-4<=f.g/\f.g<(m.as.length:Int)
 s:0<=f.s/\f.s<3
def Us(m:Md):List (List bK):=(List.range m.as.length).flatMap λn=>(Xs m).flatMap λx=>(List.range 3).flatMap fun(l:Nat)=>(List.range (m.as.length+4)).flatMap fun(g:Nat)=>(List.range 3).map fun(s:Nat)=>kF ⟨n,x,(l:Int),(g:Int)-4,(s:Int)⟩
theorem vb{f:α->List β}:∀l:List α,(∀a∈l,(f a).length=c)->(l.flatMap f).length=l.length*c
 | [],_=>by simp
 | a::l,h=>by
  rw[iR,bJ,h a bg,vb l λb hb=>h b (aU _ hb),aM,Nat.add_mul]
  lia
def NV:(Us m).length=m.as.length*(15*(3*((m.as.length+4)*3))):=by
 have h:(Us m).length=(List.range m.as.length).length*(15*(3*((m.as.length+4)*3))):=by
  refine vb _ λn _=>?_
  have h:((Xs m).flatMap λx=>(List.range 3).flatMap fun(l:Nat)=>(List.range (m.as.length+4)).flatMap fun(g:Nat)=>(List.range 3).map fun(s:Nat)=>kF ⟨n,x,l,g-4,s⟩).length=(Xs m).length*(3*((m.as.length+4)*3)):=by
   refine vb _ λx _=>?_
   have h:((List.range 3).flatMap fun(l:Nat)=>(List.range (m.as.length+4)).flatMap fun(g:Nat)=>(List.range 3).map fun(s:Nat)=>kF ⟨n,x,l,g-4,s⟩).length=(List.range 3).length*((m.as.length+4)*3):=by
    refine vb _ λl _=>?_
    have h:((List.range (m.as.length+4)).flatMap fun(g:Nat)=>(List.range 3).map fun(s:Nat)=>kF ⟨n,x,(l:Int),(g:Int)-4,(s:Int)⟩).length=(List.range (m.as.length+4)).length*3:=vb _ λg _=>by rw[aD,eP]
    rw[h,eP]
   rw[h,eP]
  rw[h,XR]
 rw[h,eP]
def FQ(h:qY m f):kF f∈Us m:=by
 obtain⟨h1,h2,h3,h4,h5⟩:=h;refine dw.mpr ⟨f.n,cD.mpr h1,dw.mpr ⟨f.x,h2,dw.mpr ⟨f.l.toNat,cD.mpr (by lia),dw.mpr ⟨(f.g+4).toNat,cD.mpr (by lia),aA.mpr ⟨f.s.toNat,cD.mpr (by lia),?_⟩⟩⟩⟩⟩
 congr 1
 obtain⟨n,x,l,g,s⟩:=f;simp only at h3 h4 h5 ⊢
 congr 1<;>lia
def TZ(h:k∈Us m):∃f,k=kF f/\qY m f:=by
 obtain⟨n,hn,h⟩:=dw.mp h;obtain⟨x,hx,h⟩:=dw.mp h;obtain⟨l,hl,h⟩:=dw.mp h;obtain⟨g,hg,h⟩:=dw.mp h;obtain⟨s,hs,rfl⟩:=aA.mp h;rw[cD]at hn hl hg hs;exact⟨_,rfl,hn,hx,⟨by grind,by grind⟩,⟨by grind,by grind⟩,⟨by grind,by grind⟩⟩
def abH(h:cG m most)(hq:q∈m.as):q.2.k∈Xs m:=by
 rcases(C4 h hq).nm with h1 | h1 | h1
 ·rw[h1];exact bg
 ·exact aU _ (gG _ h1)
 ·exact aU _ (dO _ h1)
def JW(h:cG m most)(hq:q∈m.as)(hf:qY m f)(ho:o∈gO m q f):o.x∈Xs m/\(0<=o.l/\o.l<3)/\o.g=f.g/\o.s=f.s:=by
 unfold gO at ho;rcases bD.mp ho with ho | ho
 ·split at ho
  ·rw[bt]at ho;subst ho;exact⟨hf.x,hf.l,rfl,rfl⟩
  ·cases ho
 ·unfold jl at ho;split at ho
  ·cases ho
  ·rename_i hc;obtain⟨l,hl,rfl⟩:=aA.mp ho;refine⟨abH h hq,?_,rfl,rfl⟩;have ok:=CY h hq;have h1:=ok.f0;have h3:=ok.few;unfold given at hl;split at hl
   ·split at hl
    ·rename_i ht;rw[bt]at hl;subst hl;have ht:=(ie.mp ht).2;unfold Yr at ht;simp only[aO,iU]at ht;show 0<=f.l-q.2.f/\f.l-q.2.f<3
     lia
    ·cases hl
   ·rename_i hL;split at hl
    ·obtain⟨i,hi,rfl⟩:=aA.mp hl;have hi:=cD.mp hi;rcases(C4 h hq).tk (by grind)with tk | ⟨_,_,b,s,j,ar,_,hx,_⟩
     ·grind
     ·have:=(Ab h hx).2;show 0<=(0:Int)+i*1/\(0:Int)+i*1<3
      lia
    ·cases hl
def NW(h:cG m most)(hm:most<=20)(hf:qY m f):∃q l,m.as[f.n]?=some q/\m.lz[f.n]?=some l/\R7 m f=some (l.flatMap (qX m q f))/\(∀f'∈l.flatMap (qX m q f),qY m f')/\(l.flatMap (qX m q f)).length<=8:=by
 obtain⟨q,hq⟩:∃q,m.as[f.n]?=some q:=⟨_,bU hf.n⟩
 obtain⟨l,hl⟩:∃l,m.lz[f.n]?=some l:=⟨_,bU (by rw[oe h hm];exact hf.n)⟩
 have NS:=cB hq;have N7:=pQ h hm hl;refine⟨q,l,hq,hl,?_,λf' NX=>?_,?_⟩
 ·unfold R7;rw[if_pos hf.g.2,hq,hl];rfl
 ·obtain⟨n,hn,NX⟩:=dw.mp NX;obtain⟨o,ho,rfl⟩:=aA.mp NX;obtain⟨o1,o2,o3,o4⟩:=JW h NS hf (gn.mp ho).1;exact⟨N7.2 n hn,o1,o2,by show -4<=o.g/\o.g<_;rw[o3];exact hf.g,by show 0<=o.s/\o.s<3;rw[o4];exact hf.s⟩
 ·have:∀l:List Nat,(l.flatMap (qX m q f)).length<=4*l.length:=λl=>by
   induction l with
   | nil=>simp
   | cons n l ih =>
    rw[iR,bJ,aM];have:(qX m q f n).length<=4:=by
     unfold qX;rw[aD];exact br (List.length_filter_le _ _) (mH h NS f)
    lia
  have:=this l
  lia
theorem HH(h:cG m most)(hN:0<m.as.length):∀(l:List Rk) (i:Nat),(∀q∈l,q∈m.ks)->i+l.length<=3->∀f∈iG i l,qY m f
 | [],_,_,_,f,hf=>nomatch hf
 | q::l,i,hl,hi,f,hf=>by
  rw[aM]at hi;rw[iG,bD]at hf;rcases hf with hf | hf
  ·have hq:=hl q bg;unfold CP at hf;split at hf
   ·obtain⟨j,hj,rfl⟩:=aA.mp hf;have hj:=cD.mp hj;have h3:=(h.ks.good q hq).2;exact⟨hN,aU _ (gG _ (aA.mpr ⟨q,hq,rfl⟩)),⟨by grind,by grind⟩,⟨by grind,by grind⟩,⟨by grind,by grind⟩⟩
   ·cases hf
  ·exact HH h hN l (i+1) (λr hr=>hl r (aU _ hr)) (by lia) f hf
def XS(h:cG m most)(hm:most<=20)(hq:m.as[n]?=some q)(hl:m.lz[n]?=some l):∀f∈jd m n q.2 l,qY m f:=λf hf=>by
 unfold jd at hf;split at hf
 ·obtain⟨b,hb,hf⟩:=dw.mp hf;obtain⟨j,hj,rfl⟩:=aA.mp hf;have hj:=cD.mp hj;have NS:=cB hq;have ok:=CY h NS;have h1:=ok.f0;have h2:=ok.m0;have h3:=ok.few;have fL:=(cz.mp hq).1;exact⟨(pQ h hm hl).2 b hb,abH h NS,⟨by show 0<=(j:Int);lia,by show(j:Int)<3;lia⟩,⟨by show(-4:Int)<=n;lia,by show n<(m.as.length:Int);lia⟩,⟨by show 0<=q.2.f+j*1;lia,by show q.2.f+j*1<3;lia⟩⟩
 ·cases hf
def gT(m:Md)(cs:List Nat):List Ft:=cs.flatMap λn=>match m.as[n]?,m.lz[n]? with
 | some q,some l=>jd m n q.2 l
 | _,_=>[]
def C9(m:Md)(cs:List Nat):List Ft:=iG 0 m.P++gT m cs
def Dc(h:cG m most)(hm:most<=20)(hq:m.as[n]?=some q)(hl:m.lz[n]?=some l):(jd m n q.2 l).length<=6:=by
 unfold jd;split
 ·have ok:=CY h (cB hq);have:∀l:List Nat,(l.flatMap (C5 n q.2)).length<=3*l.length:=λl=>by
   induction l with
   | nil=>simp
   | cons b l ih =>
    rw[iR,bJ,aM];have:=C6 ok n b
    lia
  have:=this l;have:=(pQ h hm hl).1
  lia
 ·simp
theorem w6(k:Nat)(h:cG m most)(hm:most<=20)(x0 x1:Option PV):∀(cs:List Nat) (acc:List Ft) (x3:Option PV),(∀n∈cs,n<m.as.length)->acc.length+6*cs.length<=3000 ->
  ∃x3',fW (aX 3) (B5 (run txt (k+2))) (cs.map iN) ⟨[x0,x1,some (.ref 0),x3,some (oj m)],[⟨.lst,acc.map gC⟩]⟩=some (.ok .nx,⟨[x0,x1,some (.ref 0),x3',some (oj m)],[⟨.lst,(acc++gT m cs).map gC⟩]⟩)
 | [],acc,x3,_,_=>⟨x3,by simp[gT];rfl⟩
 | n::cs,acc,x3,hc,hz=>by
  rw[aM]at hz;have hn:=hc n bg;obtain⟨q,hq⟩:∃q,m.as[n]?=some q:=⟨_,bU hn⟩
  obtain⟨l,hl⟩:∃l,m.lz[n]?=some l:=⟨_,bU (by rw[oe h hm];exact hn)⟩
  have e:gT m (n::cs)=jd m n q.2 l++gT m cs:=by
   unfold gT;rw[iR,hq,hl]
  have vX:=Dc h hm hq hl;obtain⟨x3',ih⟩:=w6 k h hm x0 x1 cs (acc++jd m n q.2 l) (some (iN n)) (λp hp=>hc p (aU _ hp)) (by grind)
  refine⟨x3',?_⟩;rw[e,<-cj];have nv:=R0 k h hm hq hl;have nC:=pO h;obtain⟨C,hC⟩:=nw (oj m);rw[<-hC]at nv nC ih ⊢;refine fC rfl (dS (p:=.b9) (yZ rfl rfl (cA (cx (as:=[C,.int (n:Int)]) (cA rfl (cA rfl rfl)) rfl (by simp[ah,nC,noRef]) nv) rfl) ?_)) ih
  rw[ck];exact xC rfl rfl (by grind)
structure XT (m:Md) (cs:List Nat) (ag:iA):Prop where
 ok:∀t∈ag,∃f,t.1=kF f/\qY m f
 nd:(ag.map (·.1)).Nodup
 why:Ti (C8 m) ((C9 m cs).map kF) ag
 done:Fd (C8 m) ag ag.length
 fst:∀f∈C9 m cs,kF f∈ag.map (·.1)
def XU(k:Nat)(hk:14<=k)(h:cG m most)(hm:most<=20)(hc:Gives (run txt (k+3) "come_to" [m.prog,.int 1] []) (.lst (cs.map iN)))(Cm:RY m cs):∃ag,Gives (run txt (k+4) "held" [m.prog,.int 1] []) (.lst (ag.map toldP))/\XT m cs ag:=by
 have hN:=(iE h hm 12 (aq _)).2.pos;have hN2:=zX h;have hN3:m.as.length<=126:=by lia
 have hcl:cs.length<=m.as.length:=by
  have:=hZ cs (List.range m.as.length) Cm.nd λn hn=>cD.mpr (Cm.lt n hn)
  rwa [eP]at this
 have hU:(Us m).length<=2300000:=by
  rw[NV];have h1:(m.as.length+4)*3<=390:=by lia
  have h2:15*(3*((m.as.length+4)*3))<=17550:=by lia
  exact br (Nat.mul_le_mul hN3 h2) (by decide)
 have fok:∀f∈C9 m cs,qY m f:=λf hf=>by
  rcases bD.mp hf with hf | hf
  ·exact HH h hN m.P 0 RZ (by rw[CU];decide) f hf
  ·obtain⟨n,hn,hf⟩:=dw.mp hf;have fL:=Cm.lt n hn;obtain⟨q,hq⟩:∃q,m.as[n]?=some q:=⟨_,bU fL⟩
   obtain⟨l,hl⟩:∃l,m.lz[n]?=some l:=⟨_,bU (by rw[oe h hm];exact fL)⟩
   rw[hq,hl]at hf;exact XS h hm hq hl f hf
 obtain⟨ag,t1,t2,t3,t4,t5,t6⟩:=um (C8 m) ((C9 m cs).map kF) (Us m) 8 (by show _<4000000;lia) (by show _<3000000;lia) (λg hg=>by
  obtain⟨f,rfl,hf⟩:=TZ hg;obtain⟨q,l,h1,h2,h3,h4,h5⟩:=NW h hm hf;refine⟨(l.flatMap (qX m q f)).map kF,?_,λk' Yc=>?_,by rw[aD];exact h5⟩
  ·unfold C8;rw[HG,dP,h3];rfl
  ·obtain⟨f',NX,rfl⟩:=aA.mp Yc;exact FQ (h4 f' NX)) (λk' Yc=>by
  obtain⟨f,hf,rfl⟩:=aA.mp Yc;exact FQ (fok f hf))
 refine⟨ag,?_,⟨λt ht=>?_,t2,t4,t5,λf hf=>t6 _ (aA.mpr ⟨f,hf,rfl⟩)⟩⟩
 ·rw[MY];have c0:=NK (k+3) (eJ ‹_›) h hm (S0 [some m.prog,some (.int 1),none,none,none]) rfl (ts:=ak (rd 0) Q0) (cA rfl (cA rfl rfl));have c1:=Aa (k+2) (by lia) h
  have hf:∀l:List Ft,l.map gC=(l.map kF).map dv:=λl=>by rw[b6];rfl
  have mI:(iG 0 m.P).length<=6:=by
   have:∀l i,(∀q∈l,q∈m.ks)->(iG i l).length<=3*l.length:=λl=>by
    induction l with
    | nil=>exact λ_ _=>by simp[iG]
    | cons q l ih =>
     intro i hl;rw[iG,bJ,aM];have:=CQ h.ks (i:=i) (hl q bg);have:=ih (i+1) λr hr=>hl r (aU _ hr)
     lia
   have:=this m.P 0 RZ;rw[CU]at this;exact this
  obtain⟨x3,e⟩:=w6 (k+1) h hm (some m.prog) (some (.int 1)) cs (iG 0 m.P) none Cm.lt (by lia)
  have lm:∀g (fs:List (List bK)),C8 m g=some fs->Gives (run txt (k+3) "held_behind" [oj m,dv g] []) (.lst (fs.map dv)):=λg fs hg=>by
   unfold C8 at hg;obtain⟨f,d1,d2⟩:=bf hg;obtain⟨Uv,d3,rfl⟩:=bz d2;have eg:=NT d1;subst eg;unfold R7 at d3;obtain⟨d4,d3⟩:=bR d3;obtain⟨q,d5,d6⟩:=bf d3;obtain⟨l,d7,rfl⟩:=bz d6;have:=NR (k-1) (by lia) h hm d5 d7 d4
   rw[hf]at this;rw[show k+3=k-1+4 by lia]
   exact this
  have nC:=pO h;have nP:=nY h;have TU:∀H,aZ H m.prog (.int 1)=some m.F1:=u5
  have nF:=qu h;obtain⟨P,hP⟩:=nw m.prog;obtain⟨C,hC⟩:=nw (oj m);obtain⟨F,hF⟩:=nw m.F1;rw[<-hP,<-hC]at c0 e;rw[<-hF]at c1 nF;rw[<-hC]at lm nC;rw[<-hP]at hc nP TU ⊢;rw[<-hF]at TU;have a2:Ev (c6 (bnd (ak Ql (aN [])) (bF 1 1 (run txt (k+3) "held_at_first"))) (aX 2)) (S0 [some P,some (.int 1),none,none,some C]) .nx ⟨[some P,some (.int 1),some (.ref 0),none,some C],[⟨.lst,(iG 0 m.P).map gC⟩]⟩:=aS (clG (cA (b2 rfl rfl (TU _)) rfl) rfl rfl c1) rfl;have cm:Ek (iu (bnd Qo (bF 0 2 (run txt (k+3) "come_to")))) ⟨[some P,some (.int 1),some (.ref 0),none,some C],[⟨.lst,(iG 0 m.P).map gC⟩]⟩ (.sq (cs.map iN)):=sV (cx (cA rfl (cA rfl rfl)) rfl (by simp[ah,nP,noRef]) hc) rfl
  have r:=Nb (fe:=rd 2) (fb:=bnd (ak (rd 1) Qm) (bF 0 2 (run txt (k+3) "held_behind"))) (link:=[some 4]) (s:=⟨[some P,some (.int 1),some (.ref 0),x3,some C],[⟨.lst,(iG 0 m.P++gT m cs).map gC⟩]⟩) (s1:=⟨[some P,some (.int 1),some (.ref 0),x3,some C],[⟨.lst,(iG 0 m.P++gT m cs).map gC⟩]⟩) (p:=.ref 0) (fk:=(C9 m cs).map kF) (res:=ag) rfl (.inr ⟨0,rfl,by show some _=some _;rw[show iG 0 m.P++gT m cs=C9 m cs from rfl,hf]⟩) (Hh (k+2)) (Nd (k+3)) (λf hf=>by
   obtain⟨f',_,rfl⟩:=aA.mp hf;show 5<1000;decide) (by
   rw[aD];unfold C9;rw[bJ];have:(gT m cs).length<=6*cs.length:=by
    have:∀cs:List Nat,(∀n∈cs,n<m.as.length)->(gT m cs).length<=6*cs.length:=λcs=>by
     induction cs with
     | nil=>exact λ_=>by simp[gT]
     | cons n cs ih =>
      intro hc;have hn:=hc n bg;obtain⟨q,hq⟩:∃q,m.as[n]?=some q:=⟨_,bU hn⟩
      obtain⟨l,hl⟩:∃l,m.lz[n]?=some l:=⟨_,bU (by rw[oe h hm];exact hn)⟩
      have e:gT m (n::cs)=jd m n q.2 l++gT m cs:=by
       unfold gT;rw[iR,hq,hl]
      rw[e,bJ,aM];have:=Dc h hm hq hl;have:=ih λp hp=>hc p (aU _ hp)
      lia
    exact this cs Cm.lt
   lia) t1 (λg fs hg=>by
   refine⟨λf' NX=>?_,λtold'=>⟨some (dv g)::[some C],?_⟩⟩
   ·unfold C8 at hg;obtain⟨f,d1,d2⟩:=bf hg;obtain⟨Uv,d3,rfl⟩:=bz d2;obtain⟨f'',_,rfl⟩:=aA.mp NX;show 5<1000;decide
   ·exact cx (as:=[C,dv g]) (cA rfl (cA rfl rfl)) rfl (by simp[ah,nC,Rh]) (lm g fs hg))
  refine⟨.ref 2,_,j6 (sq (aS c0 rfl) (sq a2 (sq (fS cm e) (rS r)))),?_⟩;exact zI (n:=2) (WZ (hd:=[⟨.lst,(iG 0 m.P++gT m cs).map gC⟩,nq])) (zJ ag)
 ·obtain⟨f,e,ok⟩:=TZ (t3 t ht);exact⟨f,e,ok⟩
end
theorem Dd:∀(kvs acc:List (bK×PV)),((acc++kvs).map (·.1)).Nodup->wz kvs ⟨.gU false (acc.map λq=>[q.1]),acc.map (·.2)⟩=⟨.gU false ((acc++kvs).map λq=>[q.1]),(acc++kvs).map (·.2)⟩
 | [],acc,_=>by rw[fA];rfl
 | (k,p)::kvs,acc,h=>by
  have hno:ll [k] (acc.map λq=>[q.1])=false:=by
   unfold ll;rw[List.any_eq_false];intro x hx;obtain⟨q,hq,rfl⟩:=aA.mp hx;rw[ck,xx]at h;simp only[iU];intro e;injection e with e _
   exact h.2.2 q.1 (aA.mpr ⟨q,hq,rfl⟩) k (by simp) e
  have ih:=Dd kvs (acc++[(k,p)]) (by rw[cj];exact h)
  show wz kvs (qI false [k] p (acc.map λq=>[q.1]) (acc.map (·.2)))=_
  unfold qI;rw[hno,if_neg dc];rw[cj,ck,ck]at ih;exact ih
def R8{ks:List Rk}(hn:(ks.map (·.1)).Nodup)(hl:ks.length<=1000):IZ (ks.map aK)=some ⟨.gU false (ks.map λq=>[.inr q.1]),ks.map λq=>encK q.2⟩:=by
 have e:∀ks:List Rk,cL GY (ks.map aK)=some (ks.map λq=>((.inr q.1:bK),encK q.2)):=λks=>by
  induction ks with
  | nil=>rfl
  | cons q ks ih=>rw[aE,cL,ih];rfl
 unfold IZ;rw[aD,if_pos hl,e,gH];have:=Dd (ks.map λq=>((.inr q.1:bK),encK q.2)) [] (by
  grind)
 rw[fN,b6,b6]at this;exact dA some this
theorem De(x:Str):∀ks:List Rk,gR [.inr x] (ks.map λq=>[.inr q.1]) (ks.map λq=>encK q.2)=(lN ks x).map encK
 | []=>rfl
 | q::ks=>by
  rw[aE,aE,gR,lN];by_cases e:q.1=x
  ·grind
  ·rw[if_neg (by grind),if_neg e]
   exact De x ks
section
variable {m:Md} {most:Nat}
def JX(h:cG m most)(hx:(x,d)∈m.ks)(ha:Ev fa s (.ao (m.P.map aK)) s)(hb:Ev fb s (.ao (m.LT.map aK)) s)(hr:∀H,Ek fx ⟨s.ρ,s.h++H⟩ (.str x)):∃H,Ev (op2 aZ (G0 fa fb) fx) s (encK d) ⟨s.ρ,s.h++H⟩:=by
 have e1:IZ (m.P.map aK++m.LT.map aK)=some ⟨.gU false (m.ks.map λq=>[.inr q.1]),m.ks.map λq=>encK q.2⟩:=by
  rw[<-ck];exact R8 CF (by have:=@u4 m;unfold Md.ks at this;lia)
 have hp:(m.P.map aK).isEmpty=false:=by
  have:=@CU m;cases e:m.P with
  | nil=>rw[e]at this;cases this
  | cons a b=>rfl
 refine⟨[⟨.gU false (m.ks.map λq=>[.inr q.1]),m.ks.map λq=>encK q.2⟩],b2 (x:=.ref s.h.length) (eB ha (eB hb ?_)) (hr _) ?_⟩
 ·show(if((m.P.map aK).isEmpty || (m.LT.map aK).isEmpty)=true then none else(IZ (m.P.map aK++m.LT.map aK)).bind λc=>mj c s)=_
  rw[hp,if_neg (by show ¬((false || false)=true);decide),e1]
  rfl
 ·have dr:cH (s.h++[⟨.gU false (m.ks.map λq=>[.inr q.1]),m.ks.map λq=>encK q.2⟩]) (.ref s.h.length)=some (.gU false (m.ks.map λq=>[.inr q.1]),m.ks.map λq=>encK q.2):=by
   show((s.h++[_])[s.h.length]?).bind _=_;rw[rX (aq _),Nat.sub_self];rfl
  show(match cH (s.h++[⟨.gU false (m.ks.map λq=>[.inr q.1]),m.ks.map λq=>encK q.2⟩]) (.ref s.h.length)with
   | some (.ao,ps)=>(m8 (.str x)).bind (L2.mh ps)
   | some (.lst,ps)=>(m8 (.str x)).bind (L2.mh ps)
   | some (.gU t ks,ps)=>(j0 t (.str x)).bind λk=>gR k ks ps
   | _=>none)=_
  rw[dr];show gR [.inr x] _ _=_;rw[De,kZ m.ks (x,d) CF hx];rfl
def FT(k:Nat)(h:cG m most)(hj:j<3)(hh:m.hr j=true):Gives (run txt (k+1) "_law_sources" [m.prog,bO m.fn (.call tk j ar)] []) (stI (vJ (m.ps j) (m.so j))):=by
 rw[zB];obtain⟨R,RU⟩:=nw (bO m.fn (.call tk j ar));have hR:∀H,aZ H R (.int 2)=some (m.fn j):=λH=>by rw[RU];rfl
 rw[<-RU];have cc:=qw m hj hR none;obtain⟨P,hP⟩:=nw m.prog;rw[<-hP]at cc ⊢;obtain⟨f,hf⟩:=nw (m.F j);have f1:=F_1 m hj;have f2:=F_2 m hj hh;rw[<-hf]at cc f1 f2;have hj2:=TR hj hh;refine gV (sq (aS cc rfl) (rS (s1:=S0 [some P,some R,some f]) ?_)) (FL _);have ln:∀H,fB H [.ao ((m.ps j).map aK)]=some (iN (m.ps j).length):=λH=>by
  show some (PV.int (((m.ps j).map aK).length:Nat))=_;rw[aD];rfl
 refine RL (lP (cA (bV (cA (b2 rfl rfl (f1 _)) rfl) (ln _)) rfl) (by have:=u6 m j;lia)) (by rw[eP];have:=u6 m j;lia) λi hi=>?_
 have N6:=cD.mp hi;have hp3:=u6 m j;have e0:mE i=iN i:=by unfold mE iN;rw[kh]
 rw[e0];obtain⟨q,hq⟩:=nw ((m.ps j).getD i ("",.ow .num));have AU:(m.ps j)[i]?=some q:=by rw[hq,Kf,bU N6];rfl
 rw[<-hq];have ix:∀H,aZ H (.ao ((m.ps j).map aK)) (iN i)=some (aK q):=λH=>atI_nat (by rw[bZ,AU];rfl)
 have g:Ek (toB (op2 (mK false) (op2 aZ (op2 aZ Qb (rd 1)) (kI 0)) (op2 aZ Q7 (kI 2)))) (S0 [none,some (iN i),some f]) ((m.so j).any λy=>y==q.1):=bT (b2 (b2 (b2 (b2 rfl rfl (f1 _)) rfl (ix _)) rfl rfl) (b2 (b2 rfl rfl (f2 _)) rfl (abD m hj2 _)) (zZ _ _ _ _))
 cases hg:((m.so j).any λy=>y==q.1)with
 | true=>rw[hg]at g;exact Ob rfl g (bV (cA rfl rfl) (M9 _ i (by lia)))
 | false=>rw[hg]at g;exact Oc rfl g
def gD(f:Ft)(c:Int):PV:=.ao [.int (f.n:Int),.str f.x,.int f.l,.int f.g,.int f.s,.int c]
def NY(k:Nat)(i:Int):Gives (run txt (k+1) "_law_whole" [.int i] []) (.bl true):=by
 rw[Fp];exact gV (rS rfl) rfl
def FU(h:List aB)(i j:Int):A6 h (.int i) (.int j)=some (.bl (!(i==j))):=rfl
def paS(f:Ft)(c:Int)(PP:PV)(x7 x8:Option PV):dq:=S0 [some (gD f c),some PP,some (.int (f.n:Int)),some (.str f.x),some (.int f.l),some (.int f.g),some (.int f.s),x7,x8]
def Df(k:Nat)(f:Ft)(c:Int)(ps:List Rk):Ev (c6 QB (gW 5 (dM (aX 2) (dM (aX 3) Qa)))) (S0 [some (gD f c),some (.ao (ps.map aK)),none,none,none,none,none,none,none]) .nx (paS f c (.ao (ps.map aK)) none none) /\
  Ek (dF (toB (op2 A6 (rd 2) (kI 0))) (aN true) (dF (oV (toB (chain VH Et (kI 0) (op2 VG Qu (rd 5)) (fX fB Q0)))) (aN true) (toB (op2 A6 (rd 6) (rd 4))))) (paS f c (.ao (ps.map aK)) none none) (!((f.n:Int)==0) || (!(decide (0 <= -1-f.g)&&decide (-1-f.g<(ps.length:Int))) || !(f.s==f.l))):=by
 have ln:∀H,fB H [.ao (ps.map aK)]=some (.int (ps.length:Int)):=λH=>by
  show some (PV.int ((ps.map aK).length:Nat))=_;rw[aD]
 obtain⟨PP,JS⟩:=nw (PV.ao (ps.map aK));rw[<-JS]at ln ⊢;exact⟨aS (cE rfl rfl rfl rfl) rfl,oB (bT (b2 rfl rfl (FU _ _ _))) (oB (nB (bT (Yq rfl (b2 rfl rfl rfl) (le_int _ _ _) (bV (cA rfl rfl) (ln _)) (lt_int _ _ _)))) (bT (b2 rfl rfl (FU _ _ _))))⟩
def NZ(k:Nat)(f:Ft)(c:Int)(ps:List Rk)(hg:0<=f.g):Gives (run txt (k+1) "_law_of_a_param" [gD f c,.ao (ps.map aK)] []) (.bl false):=by
 rw[j4];obtain⟨a1,t1⟩:=Df k f c ps;rw[show(!((f.n:Int)==0) || (!(decide (0 <= -1-f.g)&&decide (-1-f.g<(ps.length:Int))) || !(f.s==f.l)))=true by grind]at t1
 exact gV (sq a1 (qP (iT t1 (rS rfl)))) rfl
theorem Dg:∀(l:List Rk) (i:Nat) (f:Ft),f∈iG i l->∃j q t,l[j]?=some q/\jh q.2=true/\t<(lv (bN q.2)).length/\f=⟨0,q.1,(t:Int),-1-((i+j:Nat):Int),(t:Int)⟩
 | [],_,_,h=>nomatch h
 | q::l,i,f,h=>by
  rw[iG,bD]at h;rcases h with h | h
  ·unfold CP at h;split at h
   ·rename_i hh;obtain⟨t,ht,rfl⟩:=aA.mp h;exact⟨0,q,t,rfl,hh,cD.mp ht,rfl⟩
   ·cases h
  ·obtain⟨j,q',t,h1,h2,h3,h4⟩:=Dg l (i+1) f h;exact⟨j+1,q',t,by simpa using h1,h2,h3,by rw[h4,show i+1+j=i+(j+1) by lia]⟩
def JY(k:Nat)(hk:4<=k)(h:cG m most)(c:Int)(hf:f∈iG 0 m.P):Gives (run txt (k+1) "_law_of_a_param" [gD f c,.ao (m.P.map aK)] []) (.bl true):=by
 obtain⟨j,q,t,h1,h2,h3,rfl⟩:=Dg m.P 0 f hf;rw[dy];rw[j4];obtain⟨a1,t1⟩:=Df k ⟨0,q.1,t,-1-j,t⟩ c m.P;have hj:=(cz.mp h1).1;have hb:(!(((0:Nat):Int)==0) || (!(decide (0 <= -1-(-1-(j:Int)))&&decide (-1-(-1-j)<(m.P.length:Int))) || !(t==(t:Int))))=false:=by
  grind
 rw[hb]at t1;have hq:=RZ q (cB h1);have good:=h.ks.good q hq;have lv3:=k6 (bN q.2) (k-1) (by have:=good.1.1.2;lia) (by grind)
 rw[show k-1+1=k by lia]at lv3
 have ix:∀H,aZ H (.ao (m.P.map aK)) (.int (-1-(-1-j)))=some (aK q):=λH=>by
  rw[show -1-(-1-j)=(j:Int) by lia]
  exact atI_nat (by grind)
 obtain⟨x,d⟩:=q;cases d with
 | ow s=>cases h2
 | ho b s =>
  obtain⟨E,hE⟩:=nw (enc s);have ek:∀H,aZ H (encK (.ho b s)) (.int 1)=some E:=λH=>by rw[hE];rfl
  have ln:∀H,fB H [.lst (bY (lv s))]=some (.int ((lv s).length:Int)):=λH=>by
   show some (PV.int ((bY (lv s)).length:Nat))=_;rw[e9]
  have h3:t<(lv s).length:=h3;obtain⟨PP,JS⟩:=nw (PV.ao (m.P.map aK));rw[<-JS]at a1 t1 ix ⊢;have e:(Str.ofString "lent"==kw (.ho b s) || (Str.ofString "sole"==kw (.ho b s) || false))=true:=by cases b<;>kernel_rfl
  have cc:=Yq (fa:=aN (.int 0)) (fb:=rd 4) (fc:=fX fB (ak (bnd (ak (op2 aZ (rd 8) (kI 1)) (aN [])) (bF 0 1 (run txt k "_law_leaves"))) (aN []))) (s:=paS ⟨0,x,(t:Int),-1-(j:Int),(t:Int)⟩ c PP (some (.str x)) (some (encK (.ho b s)))) rfl rfl (le_int _ _ _) (bV (cA (cx (cA (b2 rfl rfl (ek _)) rfl) rfl rfl (by rw[hE];exact lv3)) rfl) (ln _)) (lt_int _ _ _)
  rw[bX (show(0:Int)<=(t:Int) by lia),bX (show(t:Int)<((lv s).length:Int) by lia)]at cc
  exact gV (sq a1 (sq (iF t1 rfl) (sq (s1:=paS ⟨0,x,(t:Int),-1-(j:Int),(t:Int)⟩ c PP (some (.str x)) (some (encK (.ho b s)))) (aS (p:=aK (x,.ho b s)) (b2 (x:=PP) (y:=.int (-1-(-1-(j:Int)))) rfl (b2 (x:=.int (-1)) (y:=.int (-1-(j:Int))) rfl rfl rfl) (ix _)) rfl) (rS (p:=.bl true) (Yp (x:=.bl true) (b2 (x:=.str x) (y:=.str x) rfl rfl (by rw[dI,fz])) rfl (Yp (x:=.bl true) (b2 (x:=.str (kw (.ho b s))) (y:=.ao [.str "lent",.str "sole"]) (b2 (x:=encK (.ho b s)) rfl rfl (pM _ _)) rfl (by rw[RT,e])) rfl cc)))))) rfl
end
def HI(h:List aB)(i:Int)(l:List Nat)(n:Bool):mK n h (.int i) (nT l)=some (.bl (if n=true then !(l.any λy=>(y:Int)==i)else l.any λy=>(y:Int)==i)):=by
 have e:∀l:List Nat,cL (toT h eY) (l.map iN)=some (l.map fun(y:Nat)=>Tr.int y):=λl=>by
  induction l with
  | nil=>rfl
  | cons y l ih=>show((cL (toT h eY) (l.map iN)).map _)=_;rw[ih];rfl
 have e2:∀l:List Nat,((l.map fun(y:Nat)=>Tr.int y).any λy=>eqT y (.int i))=l.any λy=>y==i:=λl=>by
  induction l with
  | nil=>rfl
  | cons y l ih=>rw[aE,gp,gp,ih];rfl
 have e3:Ip h (.int i) (l.map iN)=some (l.any λy=>y==i):=by
  show(cL (toT h eY) (l.map iN)).map _=_;rw[e,gH,e2]
 show(Ip h (.int i) (l.map iN)).map _=_;rw[e3];rfl
def HJ{l:List Nat}(h:n∈l):(l.any λy=>(y:Int)==(n:Int))=true:=by grind
noncomputable def vh(cs:List Nat):aB:=⟨.gU false (cs.map fun(n:Nat)=>[.inl (n:Int)]),cs.map λ_=>.bl true⟩
def N0(cs:List Nat)(n:Nat):ll [.inl (n:Int)] (cs.map fun(n:Nat)=>[.inl (n:Int)])=cs.any λy=>y==n:=by
 unfold ll;rw[List.any_map]
 congr 1
 funext y
 show decide ([(Sum.inl y:bK)]=[.inl n])=(y==n);by_cases e:y=n
 ·grind
 ·grind
theorem w9(c:CT)(P0 Ag:List (Option PV))(hρ:P0.length=5)(H:List aB):∀(cs acc:List Nat) (x6:Option PV),(acc++cs).Nodup->(acc++cs).length<4000000 ->
  ∃J6,fW (aX 6) (G8 c) (cs.map iN) ⟨P0++some (.ref 0)::x6::Ag,vh acc::H⟩=some (.ok .nx,⟨P0++some (.ref 0)::J6::Ag,vh (acc++cs)::H⟩)
 | [],acc,x6,_,_=>⟨x6,by rw[fA];rfl⟩
 | n::cs,acc,x6,hn,hl=>by
  obtain⟨a0,a1,a2,a3,a4,rfl⟩:∃a0 a1 a2 a3 a4,P0=[a0,a1,a2,a3,a4]:=by
   match P0,hρ with
   | [a0,a1,a2,a3,a4],_=>exact⟨a0,a1,a2,a3,a4,rfl⟩
  obtain⟨J6,ih⟩:=w9 c [a0,a1,a2,a3,a4] Ag rfl H cs (acc++[n]) (some (iN n)) (by grind) (by grind)
  refine⟨J6,?_⟩;rw[cj]at ih;refine fC (s1:=⟨[a0,a1,a2,a3,a4]++some (.ref 0)::some (iN n)::Ag,vh acc::H⟩) rfl ?_ ih;unfold G8;refine eB rfl (eB rfl (eB rfl ?_));show(IS (.ref 0) (iN n) (.bl true) _).map _=_;have e:IS (.ref 0) (iN n) (.bl true) ⟨[a0,a1,a2,a3,a4]++some (.ref 0)::some (iN n)::Ag,vh acc::H⟩=(if(acc.map fun(n:Nat)=>[(Sum.inl n:bK)]).length<gF then some ⟨[a0,a1,a2,a3,a4]++some (.ref 0)::some (iN n)::Ag,(vh acc::H).set 0 (qI false [.inl n] (.bl true) (acc.map fun(n:Nat)=>[.inl n]) (acc.map λ_=>.bl true))⟩else none):=rfl
  rw[e,if_pos (show(acc.map fun(n:Nat)=>[(Sum.inl n:bK)]).length<gF by rw[aD];show acc.length<4000000;rw[bJ]at hl;lia)]
  unfold qI;rw[N0];have:(acc.any λy=>y==n)=false:=by
   grind
  rw[this,if_neg dc];unfold vh;rw[ck,ck];rfl
section
variable {m:Md} {most:Nat}
abbrev RW(m:Md):PV:=.lst (m.as.map eN)
abbrev AF(m:Md):PV:=.lst (m.lz.map nT)
def XW(f:Ft)(c:Int)(R A:PV)(x9:Option PV)(h:List aB):dq:=⟨[some (gD f c),some R,some A,some (.ref 0),some (.int (f.n:Int)),some (.str f.x),some (.int f.l),some (.int f.g),some (.int f.s),x9],h⟩
def Ac(k:Nat)(hc:n∈cs)(hq:m.as[n]?=some q)(hl:m.lz[n]?=some l)(TK:0<=q.2.m)(c:Int)(hf:f∈jd m n q.2 l)(H:List aB):run txt (k+1) "_law_of_a_lending" [gD f c,RW m,AF m,.ref 0] (vh cs::H)=some (.ok (.bl true),vh cs::H):=by
 unfold jd at hf;split at hf
 ·rename_i T1;obtain⟨b,hb,hf⟩:=dw.mp hf;obtain⟨j,hj,rfl⟩:=aA.mp hf;have hj:=cD.mp hj;have ra:∀H,aZ H (RW m) (.int n)=some (eN q):=qx hq
  have na:∀H,aZ H (AF m) (.int n)=some (nT l):=HF hl
  have hth:(q.2.t&&(q.2.n==q.2.k))=false:=by
   have:=T1.2;unfold CN at this;rw[bX (show 0<=(n:Int) by lia),ei,hq,Bool.true_and]at this
   exact this
  rw[nM];obtain⟨R,hR⟩:=nw (RW m);obtain⟨A,hA⟩:=nw (AF m);rw[<-hR]at ra ⊢;rw[<-hA]at na ⊢;obtain⟨f,hf⟩:=nw (⟨b,q.2.k,j,n,q.2.f+j*1⟩:Ft);rw[<-hf];have fn:f.n=b:=by rw[hf]
  have fx:f.x=q.2.k:=by rw[hf]
  have fl:f.l=j:=by rw[hf]
  have fg:f.g=n:=by rw[hf]
  have fs:f.s=q.2.f+j:=by grind
  clear hf;have a1:Ev (c6 QB (gW 5 Qg)) ⟨[some (gD f c),some R,some A,some (.ref 0),none,none,none,none,none,none],vh cs::H⟩ .nx (XW f c R A none (vh cs::H)):=aS (cE rfl rfl rfl rfl) rfl;have a2:Ev (c6 (op2 aZ (rd 1) (rd 7)) (aX 9)) (XW f c R A none (vh cs::H)) .nx (XW f c R A (some (eN q)) (vh cs::H)):=aS (b2 rfl rfl (by grind)) rfl
  have t2:Ek (dF (toB (op2 (mK true) (op2 aZ (rd 9) (kI 1)) (mJ .ao Qz))) (aN true) (dF (toB (op2 A6 (op2 aZ (rd 9) (kI 6)) (rd 5))) (aN true) (dF (gi (op2 aZ (rd 9) (kI 3))) (toB (op2 jv (op2 aZ (rd 9) (kI 2)) (rd 5))) (aN false)))) (XW f c R A (some (eN q)) (vh cs::H)) (!nZ q.2 || (!(q.2.k==f.x) || (q.2.t&&(q.2.n==f.x)))):=oB (bT (b2 (b2 rfl rfl rfl) rfl rfl)) (oB (bT (b2 (b2 rfl rfl rfl) rfl (uX _ _ _))) (nD (tR (b2 rfl rfl rfl) rfl) (bT (b2 (b2 rfl rfl rfl) rfl (dI _ _ _)))));rw[fx,T1.1,hth,fz]at t2;have c1:=Yq (fa:=aN (.int 0)) (fb:=rd 6) (fc:=op2 aZ (rd 9) (kI 5)) (s:=XW f c R A (some (eN q)) (vh cs::H)) (x:=.int 0) (y:=.int f.l) (z:=.int q.2.m) rfl rfl (le_int _ _ _) (b2 (x:=eN q) rfl rfl rfl) (lt_int _ _ _);rw[fl,bX (show(0:Int)<=(j:Int) by lia),bX (show(j:Int)<q.2.m by lia)]at c1
  have c2:Ek (op2 jv (rd 8) (op2 fD (op2 aZ (rd 9) (kI 4)) (rd 6))) (XW f c R A (some (eN q)) (vh cs::H)) (.bl true):=b2 (x:=.int f.s) (y:=.int (q.2.f+f.l)) rfl (b2 (x:=.int q.2.f) (y:=.int f.l) (b2 (x:=eN q) rfl rfl rfl) rfl rfl) (by rw[jU,fs,fl,fz])
  have c3:Ek (op2 (mK false) (rd 4) (op2 aZ (rd 2) (rd 7))) (XW f c R A (some (eN q)) (vh cs::H)) (.bl true):=b2 (x:=.int (f.n:Int)) (y:=nT l) rfl (b2 (x:=A) (y:=.int f.g) rfl rfl (by grind)) (by rw[HI,fn];show some (PV.bl (l.any λy=>(y:Int)==(b:Int)))=_;rw[HJ hb])
  exact j6 (sq a1 (sq (iF (by
   refine bT (b2 rfl rfl ?_);rw[fg];show some (PV.bl (!ll [.inl n] (cs.map fun(n:Nat)=>[.inl n])))=_
   rw[N0,List.any_eq_true.mpr ⟨n,hc,by simp⟩]
   rfl) rfl) (sq a2 (sq (iF t2 rfl) (rS (Yp c1 rfl (Yp c2 rfl c3)))))))
 ·cases hf
def N1(p:PV):Ev (aN p) s p s:=rfl
def xT(hc:Ev gc s true s1)(ht:Rt P (f s1)):Rt P (dW (dF gc f (aN .nx)) h s):=xI hc (λ_=>ht) λz=>nomatch z
def JZ(f g:Ft)(c d:Int)(P R A:PV)(q:Nat×de)(x11:Option PV)(h:List aB):dq:=⟨[some (gD f c),some (gD g d),some P,some R,some A,some (.int (g.n:Int)),some (eN q),some (.str f.x),some (.int f.l),some (.int f.g),some (.int f.s),x11],h⟩
def abJ(h:List aB)(a b c d:Int):A6 h (.ao [.int a,.int b]) (.ao [.int c,.int d])=some (.bl (!(a==c&&(b==d&&true)))):=rfl
def T2(h:List aB)(a:Str)(b:Int)(c:Str)(d:Int):jv h (.ao [.str a,.int b]) (.ao [.str c,.int d])=some (.bl (a==c&&(b==d&&true))):=rfl
def R9(k:Nat)(hk:6<=k)(h:cG m most)(hm:most<=20)(c d:Int)(hg:qY m g)(hq:m.as[g.n]?=some q)(hl:m.lz[g.n]?=some l)(hf:f∈l.flatMap (qX m q g)):∃h',run txt (k+2) "_law_comes" [gD f c,gD g d,m.prog,RW m,AF m] []=some (.ok (.bl true),h'):=by
 obtain⟨n,hn,hf⟩:=dw.mp hf;obtain⟨o,ho,rfl⟩:=aA.mp hf;obtain⟨ho,afs⟩:=gn.mp ho;have NS:=cB hq;have hnN:=(pQ h hm hl).2 n hn;obtain⟨p,hp⟩:∃p,m.as[n]?=some p:=⟨_,bU hnN⟩
 have sr:lT m n q=((p.1:Int)==(q.1:Int)):=by unfold lT;rw[hp]
 rw[sr]at afs;have ra:∀H,aZ H (RW m) (.int (g.n:Int))=some (eN q):=qx hq
 have rp:∀H,aZ H (RW m) (.int n)=some (eN p):=qx hp
 have na:∀H,aZ H (AF m) (.int (g.n:Int))=some (nT l):=HF hl
 have og:o.g=g.g/\o.s=g.s/\CN m g.g q.2.k=false:=by
  unfold gO at ho;rcases bD.mp ho with h1 | h1
  ·grind
  ·unfold jl at h1;split at h1
   ·cases h1
   ·grind
 obtain⟨og,os,oth⟩:=og;have NI:∀r,g.g=(r:Nat)->∃qr,m.as[r]?=some qr/\(qr.2.t&&(qr.2.n==q.2.k))=false:=λr hr=>by
  obtain⟨qr,hqr⟩:∃qr,m.as[r]?=some qr:=⟨_,bU (by have:=hg.g.2;lia)⟩
  refine⟨qr,hqr,?_⟩;unfold CN at oth;rw[hr,bX (show 0<=(r:Int) by lia),ei,hqr,Bool.true_and]at oth
  exact oth
 have rr:∀r qr,m.as[r]?=some qr->∀H,aZ H (RW m) (.int (r:Nat))=some (eN qr):=λr qr hqr=>qx hqr
 have hsw:∀b s j ar,m.L[q.1]?=some (.call (some (q.2.k,.ho b s)) j ar)->∀H,aZ H (.ao m.rows) (.int (q.1:Int))=some (bO m.fn (.call (some (q.2.k,.ho b s)) j ar)):=λb s j ar hr H=>NJ hr H
 have p1:∀H,aZ H m.prog (.int 1)=some m.F1:=u5
 have p11:∀H,aZ H m.F1 (.int 1)=some (.ao (m.P.map aK)):=λ_=>rfl
 have p13:∀H,aZ H m.F1 (.int 3)=some (.ao (m.LT.map aK)):=λ_=>rfl
 have p14:∀H,aZ H m.F1 (.int 4)=some (.ao m.rows):=λ_=>rfl
 have nP:=nY h;have lsr:∀tk j (ar:List Rk),j<3->m.hr j=true->Gives (run txt (k+1) "_law_sources" [m.prog,bO m.fn (.call tk j ar)] []) (stI (vJ (m.ps j) (m.so j))):=λtk j ar hj hh=>FT k h hj hh
 have nF:=qu h;rw[Fq];obtain⟨P,hP⟩:=nw m.prog;obtain⟨R,hR⟩:=nw (RW m);obtain⟨A,hA⟩:=nw (AF m);obtain⟨F,hF⟩:=nw m.F1;rw[<-hR]at ra rp rr;rw[<-hA]at na;rw[<-hF]at p1 p11 p13 p14;rw[<-hP]at p1 lsr nP;rw[<-hP,<-hR,<-hA];obtain⟨f,hf⟩:=nw (Ft.of n o);rw[<-hf];have fn:f.n=n:=by rw[hf];rfl
 have fx:f.x=o.x:=by rw[hf];rfl
 have fl:f.l=o.l:=by rw[hf];rfl
 have fg:f.g=g.g:=by rw[hf,<-og];rfl
 have fs:f.s=g.s:=by rw[hf,<-os];rfl
 clear hf
 suffices hh:Rt (λp=>p=.bl true) (B6 (run txt (k+1)) ⟨gz 12 [gD f c,gD g d,P,R,A],[]⟩)from by
  obtain⟨p,⟨J4,h'⟩,e,_,rfl⟩:=hh;exact⟨h',j6 e⟩
 have t4:Ek (toB (op2 A6 (rd 7) (op2 aZ (rd 6) (kI 6)))) (JZ f g c d P R A q none []) (!(f.x==q.2.k)):=bT (b2 (x:=.str f.x) (y:=.str q.2.k) rfl (b2 (x:=eN q) rfl rfl rfl) (uX _ _ _));refine xS (s1:=⟨[some (gD f c),some (gD g d),some P,some R,some A,some (.int (g.n:Int)),none,none,none,none,none,none],[]⟩) (aS (b2 (x:=gD g d) rfl rfl rfl) rfl) (xS (s1:=⟨[some (gD f c),some (gD g d),some P,some R,some A,some (.int (g.n:Int)),some (eN q),none,none,none,none,none],[]⟩) (aS (b2 (x:=R) (y:=.int (g.n:Int)) rfl rfl (ra _)) rfl) (xS (s1:=JZ f g c d P R A q none []) (aS (p:=.ao [.str f.x,.int f.l,.int f.g,.int f.s]) (cE (p:=gD f c) rfl rfl rfl rfl) rfl) (xS (iF (by
  have:=oB (bT (b2 (g:=mK true) (fa:=op2 aZ (rd 0) (kI 0)) (fb:=op2 aZ (rd 4) (rd 5)) (s:=JZ f g c d P R A q none []) (y:=nT l) (b2 (x:=gD f c) rfl rfl rfl) (b2 (x:=A) (y:=.int (g.n:Int)) rfl rfl (na _)) (HI _ _ _ _))) (bT (b2 (g:=A6) (fa:=cutE (rd 1) (m9 (kI 3)) (m9 (kI 5))) (fb:=mJ .ao (ak (rd 9) (ak (rd 10) (aN [])))) (x:=.ao [.int g.g,.int g.s]) (y:=.ao [.int f.g,.int f.s]) (cE (p:=gD g d) rfl rfl rfl rfl) (tU (cA rfl (cA rfl rfl)) (by simp)) (abJ _ _ _ _ _)))
  rw[if_pos rfl,fn,HJ hn,fg,fs,fz,fz]at this;exact this) rfl) (xS (iF (by
  have ge:Ek (toB (op2 VI (rd 9) (kI 0))) (JZ f g c d P R A q none []) (decide (f.g>=0)):=bT (b2 (x:=.int f.g) rfl rfl (ge_int _ _ _));by_cases h0:0<=f.g
  ·rw[bX h0]at ge;obtain⟨r,hr⟩:=xf h0;obtain⟨qr,hqr,hb⟩:=NI r (by grind)
   have ix:Ek (op2 aZ (rd 3) (rd 9)) (JZ f g c d P R A q none []) (eN qr):=b2 (x:=R) (y:=.int f.g) rfl rfl (by grind)
   refine iT ge ?_;have:=nD (tR (p:=.bl qr.2.t) (b2 (g:=aZ) (x:=eN qr) ix (N1 (.int 3)) rfl) rfl) (bT (b2 (g:=jv) (fa:=op2 aZ (op2 aZ (rd 3) (rd 9)) (kI 2)) (fb:=op2 aZ (rd 6) (kI 6)) (x:=.str qr.2.n) (y:=.str q.2.k) (b2 (x:=eN qr) ix (N1 (.int 2)) rfl) (b2 (x:=eN q) rfl rfl rfl) (dI _ _ _)));rw[hb]at this;exact this
  ·rw[iV h0]at ge;exact iF ge rfl) rfl) (xS (iF (by
  have:=nD (tR (p:=.bl (Txt.isdigit f.x)) (show Ek (QR (rd 7)) (JZ f g c d P R A q none []) (.bl (Txt.isdigit f.x))from rfl) rfl) (bT (b2 (g:=A6) (fa:=op2 aZ (op2 aZ (rd 3) (op2 aZ (rd 0) (kI 0))) (kI 0)) (fb:=op2 aZ (rd 6) (kI 0)) (x:=.int (p.1:Int)) (y:=.int (q.1:Int)) (b2 (x:=eN p) (b2 (x:=R) (y:=.int (f.n:Int)) rfl (b2 (x:=gD f c) rfl rfl rfl) (by grind)) rfl rfl) (b2 (x:=eN q) rfl rfl rfl) (FU _ _ _)))
  have e:(Txt.isdigit f.x&&!((p.1:Int)==(q.1:Int)))=false:=by
   grind
  rw[e]at this;exact this) rfl) (xI t4 (λhne=>?_) λheq=>?_))))))
 ·-- it ajS on
  have Lv:o=⟨g.x,g.l,g.g,g.s⟩:=by
   unfold gO at ho;rcases bD.mp ho with h1 | h1
   ·grind
   ·unfold jl at h1;split at h1
    ·cases h1
    ·grind
  refine xR (p:=.bl true) (b2 (x:=.ao [.str g.x,.int g.l]) (y:=.ao [.str f.x,.int f.l]) (cE (p:=gD g d) rfl rfl rfl rfl) (tU (cA rfl (cA rfl rfl)) (by simp)) ?_) rfl rfl
  rw[T2,fx,fl,Lv,fz,fz];rfl
 ·have heq:f.x=q.2.k:=by
   grind
  obtain⟨lf,Dp,Lv,hne⟩:∃lf,lf∈given m q g/\o=⟨q.2.k,lf,g.g,g.s⟩/\q.2.k≠"":=by
   unfold gO at ho;rcases bD.mp ho with h1 | h1
   ·grind
   ·unfold jl at h1;split at h1
    ·cases h1
    ·rename_i hc;obtain⟨lf,h2,rfl⟩:=aA.mp h1;exact⟨lf,h2,rfl,λz=>hc (by rw[z];rfl)⟩
  have fl2:f.l=lf:=by rw[fl,Lv]
  have tw:Ek (toB (op2 jv (op2 aZ (rd 6) (kI 1)) (kS "take"))) (JZ f g c d P R A q none []) (q.2.w==Str.ofString "take"):=bT (b2 (x:=.str q.2.w) (b2 (x:=eN q) rfl rfl rfl) rfl (dI _ _ _));rcases(C4 h NS).tk hne with hL | ⟨hw,hL,b,s,j,ar,hr,hx,hhr,hj⟩
  ·-- a acR acS a afv
   unfold given at Dp;rw[if_pos hL]at Dp;split at Dp
   ·rename_i ht;rw[bt]at Dp;obtain⟨ht1,Yd⟩:=ie.mp ht;unfold Yr at Yd;simp only[aO,iU]at Yd;have gx:q.2.n=g.x:=aY Yd.1;have nw:(q.2.w==Str.ofString "take")=false:=by
     have Yo:=hL;unfold nZ at Yo;cases e:(q.2.w==Str.ofString "take")with
     | false=>rfl
     | true =>
      rw[aY e]at Yo;exact absurd Yo (by decide +kernel)
    rw[nw]at tw;refine xS (iF tw rfl) (xS (s1:=JZ f g c d P R A q none []) (iF ?_ rfl) (xR (p:=.bl true) (b2 (x:=.ao [.str g.x,.int g.l]) (y:=.ao [.str q.2.n,.int (q.2.f+f.l)]) (cE (p:=gD g d) rfl rfl rfl rfl) (tU (cA (b2 (x:=eN q) rfl rfl rfl) (cA (b2 (x:=.int q.2.f) (y:=.int f.l) (b2 (x:=eN q) rfl rfl rfl) rfl rfl) rfl)) (by simp)) ?_) rfl rfl))
    ·have:=oB (bT (b2 (g:=mK true) (fa:=op2 aZ (rd 6) (kI 1)) (fb:=mJ .ao Qz) (s:=JZ f g c d P R A q none []) (x:=.str q.2.w) (y:=.ao [.str "lend",.str "sole"]) (z:=.bl (!nZ q.2)) (b2 (x:=eN q) rfl rfl rfl) rfl rfl)) (oB (nB (tR (fa:=op2 aZ (rd 6) (kI 3)) (p:=.bl q.2.t) (b2 (x:=eN q) rfl rfl rfl) rfl)) (nB (bT (Yq (g:=VH) (g':=Et) (fa:=aN (.int 0)) (fb:=rd 8) (fc:=op2 aZ (rd 6) (kI 5)) (x:=.int 0) (y:=.int f.l) (z:=.int q.2.m) rfl rfl (le_int _ _ _) (b2 (x:=eN q) rfl rfl rfl) (lt_int _ _ _)))));rw[hL,ht1,fl2,Dp,bX (show(0:Int)<=g.l-q.2.f by lia),bX (show g.l-q.2.f<q.2.m by lia)]at this
     exact this
    ·rw[T2,gx,fl2,Dp,show q.2.f+(g.l-q.2.f)=g.l by lia,fz,fz]
     rfl
   ·cases Dp
  ·-- Oi take of a call
   rw[hw,fz]at tw;unfold given at Dp;rw[if_neg (by rw[hL];decide)]at Dp
   split at Dp
   ·rename_i afw;obtain⟨i,hi,Dp⟩:=aA.mp Dp;have hi:=cD.mp hi;obtain⟨c1,c2⟩:=Ab h hx;have hsd:=hsw b s j ar hr;have good:=h.ks.good _ hx;have lv3:=k6 s k (by have:=good.1.1.2;simp only[bN]at this;lia) (by have:=good.2;simp only[bN]at this;lia)
    obtain⟨E,hE⟩:=nw (enc s);rw[<-hE]at lv3;have ek:∀H,aZ H (encK (.ho b s)) (.int 1)=some E:=λH=>by rw[hE];rfl
    have nE:noRef E=true:=by rw[hE];exact dH s
    obtain⟨D,hD⟩:=nw (encK (.ho b s));rw[<-hD]at ek;obtain⟨Hd,kd⟩:=JX h hx (fa:=op2 aZ Qb (kI 1)) (fb:=op2 aZ Qb (kI 3)) (fx:=rd 7) (s:=JZ f g c d P R A q none []) (b2 (x:=F) (b2 (x:=P) rfl rfl (p1 _)) rfl (p11 _)) (b2 (x:=F) (b2 (x:=P) rfl rfl (p1 _)) rfl (p13 _)) (λH=>by rw[<-heq];rfl)
    rw[<-hD]at kd;have ln:∀H,fB H [.lst (bY (lv s))]=some (.int ((lv s).length:Int)):=λH=>by
     show some (PV.int ((bY (lv s)).length:Nat))=_;rw[e9]
    have t5:Ek (oV (toB (chain VH Et (kI 0) (rd 8) (fX fB (ak (bnd QA (bF 0 1 (run txt (k+1) "_law_leaves"))) (aN [])))))) (JZ f g c d P R A q (some D) Hd) false:=by
     have:=nB (bT (Yq (g:=VH) (g':=Et) (fa:=aN (.int 0)) (fb:=rd 8) (fc:=fX fB (ak (bnd QA (bF 0 1 (run txt (k+1) "_law_leaves"))) (aN []))) (s:=JZ f g c d P R A q (some D) Hd) (x:=.int 0) (y:=.int f.l) (z:=.int ((lv s).length:Int)) rfl rfl (le_int _ _ _) (bV (as:=[.lst (bY (lv s))]) (cA (cx (as:=[E]) (cA (b2 (x:=D) rfl rfl (ek _)) rfl) rfl (by simp[ah,nE]) lv3) rfl) (ln _)) (lt_int _ _ _)))
     have c1:TY m q.2.k=(lv s).length:=c1;have Dp:lf=(i:Int):=by rw[<-Dp];lia
     rw[fl2,Dp,bX (show(0:Int)<=(i:Int) by lia),bX (show(i:Int)<((lv s).length:Int) by lia)]at this
     exact this
    have ls:=lsr (some (q.2.k,.ho b s)) j ar hj hhr;have nRo:noRef (bO m.fn (.call (some (q.2.k,.ho b s)) j ar))=true:=CD lR _ (h.ok _ (cB hr));obtain⟨RO,hRO⟩:=nw (bO m.fn (.call (some (q.2.k,.ho b s)) j ar));rw[<-hRO]at ls nRo hsd;have Sq:u9 m q.1 g.x=((vJ (m.ps j) (m.so j)).map sI).any λy=>y==g.x:=by
     unfold u9 XO;rw[hr];show((if m.hr j=true then vJ (m.ps j) (m.so j)else []).map sI).any _=_
     rw[if_pos hhr]
    have e1:stI (vJ (m.ps j) (m.so j))=.lst (((vJ (m.ps j) (m.so j)).map sI).map .str):=by
     show PV.lst ((vJ (m.ps j) (m.so j)).map λi=>.str (sI i))=_
     rw[b6];rfl
    rw[e1]at ls;refine xT tw (xS (s1:=JZ f g c d P R A q (some D) Hd) (aS kd rfl) (xS (iF t5 rfl) (xR (p:=.bl true) (b2 (x:=.str g.x) (y:=.lst (((vJ (m.ps j) (m.so j)).map sI).map .str)) (b2 (x:=gD g d) rfl rfl rfl) (cx (as:=[P,RO]) (cA rfl (cA (b2 (x:=.ao m.rows) (y:=.int (q.1:Int)) (b2 (x:=F) (b2 (x:=P) rfl rfl (p1 _)) rfl (p14 _)) (b2 (x:=eN q) rfl rfl rfl) (hsd _)) rfl)) rfl (by simp[ah,nP,nRo]) ls) ?_) rfl rfl)))
    rw[CK,<-Sq,afw];rfl
   ·cases Dp
end
section
variable {m:Md} {most:Nat}
def Ak(S W P R A FD:PV)(x6 x8 x9 zV:Option PV)(cs:List Nat):dq:=⟨[some S,some W,some P,some R,some A,some (.ref 0),x6,some FD,x8,x9,zV],[vh cs]⟩
def Sb(k:Nat)(hk:10<=k)(h:cG m most)(hm:most<=20)(Cm:RY m cs)(T:XT m cs ag)(S W:PV)(x6 x9 zV:Option PV)(ht:ag[i]?=some t) :
  ∃x9' XX,Ev (zC (run txt (k+2))) (Ak S W m.prog (RW m) (AF m) (.lst (ag.map toldP)) x6 (some (iN i)) x9 zV cs) .nx (Ak S W m.prog (RW m) (AF m) (.lst (ag.map toldP)) x6 (some (iN i)) x9' XX cs):=by
 obtain⟨ks,c⟩:=t;obtain⟨f,hf,ok⟩:=T.ok _ (cB ht);simp only at hf;subst hf;have ft:∀{j:Nat} {t:List bK×Int},ag[j]?=some t->∀H,aZ H (.lst (ag.map toldP)) (.int j)=some (toldP t):=λhj H=>atI_nat (by rw[bZ,hj];rfl)
 have f0:=ft ht;have wh:=NY (k+1) c;have nP:=nY h;have nF1:∀H,aZ H m.prog (.int 1)=some m.F1:=u5
 have nP1:∀H,aZ H m.F1 (.int 1)=some (.ao (m.P.map aK)):=λ_=>rfl
 have afx:(-1:Int)<=c/\c<i:=by
  rcases T.why i _ c ht with⟨h1,_⟩ | ⟨j,g,d,fs,h1,h2,_⟩
  ·lia
  ·lia
 have XY:(c = -1/\f∈C9 m cs)\/∃(j:Nat) (g:Ft) (d:Int) (q:Nat×de) (l:List Nat),c=j/\ag[j]?=some (kF g,d)/\qY m g/\m.as[g.n]?=some q/\m.lz[g.n]?=some l/\f∈l.flatMap (qX m q g):=by
  rcases T.why i _ c ht with⟨h1,h2⟩ | ⟨j,g,d,fs,h1,h2,h3,h4,h5⟩
  ·obtain⟨f',NX,e⟩:=aA.mp h2;rw[<-NU e];exact .inl ⟨h1,NX⟩
  ·obtain⟨g,rfl,hg⟩:=T.ok _ (cB h3);obtain⟨q,l,g1,g2,g3,g4,g5⟩:=NW h hm hg;unfold C8 at h4;rw[HG,dP,g3]at h4;cases h4;obtain⟨f',NX,e⟩:=aA.mp h5;rw[<-NU e];exact .inr ⟨j,g,d,q,l,h2,h3,hg,g1,g2,NX⟩
 have HK:∀n q (l:List Nat),n∈cs->m.as[n]?=some q->m.lz[n]?=some l->f∈jd m n q.2 l->run txt (k+2) "_law_of_a_lending" [gD f c,RW m,AF m,.ref 0] [vh cs]=some (.ok (.bl true),[vh cs]):=λn q l hn hq hl hf=>Ac (k+1) hn hq hl (CY h (cB hq)).m0 c hf []
 have Dh:∀(j:Nat) (g:Ft) (d:Int) (q:Nat×de) (l:List Nat),qY m g->m.as[g.n]?=some q->m.lz[g.n]?=some l->f∈l.flatMap (qX m q g)->∃h',run txt (k+2) "_law_comes" [gD f c,gD g d,m.prog,RW m,AF m] []=some (.ok (.bl true),h'):=λj g d q l hg hq hl hf=>R9 k (by lia) h hm c d hg hq hl hf
 have HL:f∈iG 0 m.P->Gives (run txt (k+2) "_law_of_a_param" [gD f c,.ao (m.P.map aK)] []) (.bl true):=λhf=>JY (k+1) (by lia) h c hf
 have N2:0<=f.g->Gives (run txt (k+2) "_law_of_a_param" [gD f c,.ao (m.P.map aK)] []) (.bl false):=λhg=>NZ (k+1) f c m.P hg
 have nrR:noRef (RW m)=true:=FN _;have nrA:noRef (AF m)=true:=zL _;have nPP:noRef (.ao (m.P.map aK))=true:=qt _;obtain⟨FD,Ys⟩:=nw (PV.lst (ag.map toldP));obtain⟨P,hP⟩:=nw m.prog;obtain⟨R,hR⟩:=nw (RW m);obtain⟨A,hA⟩:=nw (AF m);obtain⟨PP,JS⟩:=nw (PV.ao (m.P.map aK));obtain⟨F,hF⟩:=nw m.F1;rw[<-Ys]at f0;simp only[<-Ys]at ft;rw[<-hP,<-hF]at nF1;rw[<-hF,<-JS]at nP1;rw[<-hP]at nP;rw[<-JS]at HL N2 nPP;rw[<-hR,<-hA]at HK;rw[<-hP,<-hR,<-hA]at Dh;rw[<-hR]at nrR;rw[<-hA]at nrA;rw[<-Ys,<-hP,<-hR,<-hA];have a1:Ev (c6 (op2 aZ (rd 7) (rd 8)) (aX 9)) (Ak S W P R A FD x6 (some (iN i)) x9 zV cs) .nx (Ak S W P R A FD x6 (some (iN i)) (some (gD f c)) zV cs):=aS (b2 rfl rfl (f0 _)) rfl;have t1:Ek (dF (oV (gi (bnd (ak Qh (aN [])) (bF 0 1 (run txt (k+2) "_law_whole"))))) (aN true) (dF (toB (op2 VI Qh (rd 8))) (aN true) (toB (op2 Et Qh Qu)))) (Ak S W P R A FD x6 (some (iN i)) (some (gD f c)) zV cs) false:=by
  have:=oB (nB (tR (cx (ts:=ak Qh (aN [])) (s:=Ak S W P R A FD x6 (some (iN i)) (some (gD f c)) zV cs) (cA (b2 rfl rfl rfl) rfl) rfl rfl wh) rfl)) (oB (bT (b2 (g:=VI) (fa:=op2 aZ (rd 9) (kI 5)) (fb:=rd 8) (x:=.int c) (y:=.int (i:Int)) (b2 (x:=gD f c) rfl rfl rfl) rfl (ge_int _ _ _))) (bT (b2 (g:=Et) (fa:=op2 aZ (rd 9) (kI 5)) (fb:=A9 (kI 1)) (x:=.int c) (y:=.int (-1)) (b2 (x:=gD f c) rfl rfl rfl) rfl (lt_int _ _ _))));rw[iV (show ¬(c>=(i:Int)) by lia),iV (show ¬(c < -1) by lia)]at this
  exact this
 have t2:Ek (toB (op2 jv Qh Qu)) (Ak S W P R A FD x6 (some (iN i)) (some (gD f c)) zV cs) (c == -1):=bT (b2 (x:=.int c) (y:=.int (-1)) (b2 (x:=gD f c) rfl rfl rfl) rfl (jU _ _ _));rcases XY with⟨hc,hf⟩ | ⟨j,g,d,q,l,hc,h1,hg,hq,hl,hf⟩
 ·rw[show(c == -1)=true by rw[hc];rfl]at t2
  have main:∀b:Bool,Gives (run txt (k+2) "_law_of_a_param" [gD f c,PP] []) (.bl b)->(b=false->run txt (k+2) "_law_of_a_lending" [gD f c,R,A,.ref 0] [vh cs]=some (.ok (.bl true),[vh cs]))->Ev (zC (run txt (k+2))) (Ak S W P R A FD x6 (some (iN i)) x9 zV cs) .nx (Ak S W P R A FD x6 (some (iN i)) (some (gD f c)) (some (.bl b)) cs):=λb hb hl=>by
   refine sq a1 (sq (iF t1 rfl) (iT t2 (sq (s1:=Ak S W P R A FD x6 (some (iN i)) (some (gD f c)) (some (.bl b)) cs) (aS (cx (as:=[gD f c,PP]) (cA rfl (cA (b2 (x:=F) (b2 (x:=P) rfl rfl (nF1 _)) rfl (nP1 _)) rfl)) rfl (by simp[ah,noRef,gD,nPP]) hb) rfl) ?_)))
   have t3:Ek (oV (gi (rd 10))) (Ak S W P R A FD x6 (some (iN i)) (some (gD f c)) (some (.bl b)) cs) (!b):=nB (tR (p:=.bl b) rfl rfl);cases b with
   | true=>exact iF (iF t3 rfl) rfl
   | false =>
    refine iF (iT t3 (nB (b:=true) (tR (p:=.bl true) (s1:=Ak S W P R A FD x6 (some (iN i)) (some (gD f c)) (some (.bl false)) cs) (clG (as:=[gD f c,R,A,.ref 0]) (s1:=Ak S W P R A FD x6 (some (iN i)) (some (gD f c)) (some (.bl false)) cs) (cA rfl (cA rfl (cA rfl (cA rfl rfl)))) rfl (by simp[ah,noRef,Ak]) (hl rfl)) rfl))) rfl
  rcases bD.mp hf with hf | hf
  ·exact⟨_,_,main true (HL hf) λz=>nomatch z⟩
  ·obtain⟨n,hn,hf⟩:=dw.mp hf;have fL:=Cm.lt n hn;obtain⟨q,hq⟩:∃q,m.as[n]?=some q:=⟨_,bU fL⟩
   obtain⟨l,hl⟩:∃l,m.lz[n]?=some l:=⟨_,bU (by rw[oe h hm];exact fL)⟩
   rw[hq,hl]at hf;have hf:f∈jd m n q.2 l:=hf;have fg:f.g=(n:Int):=by
    unfold jd at hf;split at hf
    ·obtain⟨b,_,hf⟩:=dw.mp hf;obtain⟨j,_,rfl⟩:=aA.mp hf;rfl
    ·cases hf
   exact⟨_,_,main false (N2 (by lia)) λ_=>HK n q l hn hq hl hf⟩
 ·rw[show(c == -1)=false by rw[hc,jF];lia]at t2
  obtain⟨h',e⟩:=Dh j g d q l hg hq hl hf;have fj:∀H,aZ H FD (.int c)=some (gD g d):=λH=>by rw[hc];exact ft h1 H
  exact⟨_,_,sq a1 (sq (iF t1 rfl) (iF t2 (iF (nB (b:=true) (tR (p:=.bl true) (s1:=Ak S W P R A FD x6 (some (iN i)) (some (gD f c)) zV cs) (clV (as:=[gD f c,gD g d,P,R,A]) (s1:=Ak S W P R A FD x6 (some (iN i)) (some (gD f c)) zV cs) (cA rfl (cA (b2 (x:=FD) (y:=.int c) rfl (b2 (x:=gD f c) rfl rfl rfl) (fj _)) (cA rfl (cA rfl (cA rfl rfl))))) rfl (by simp[ah,noRef,gD,nP,nrR,nrA]) e (y8 rfl)) rfl)) rfl)))⟩
theorem vc(k:Nat)(hk:10<=k)(h:cG m most)(hm:most<=20)(Cm:RY m cs)(T:XT m cs ag)(S W:PV)(x6:Option PV):∀(is:List Nat) (x8 x9 zV:Option PV),(∀i∈is,i<ag.length) ->
  ∃x8' x9' XX,fW (aX 8) (zC (run txt (k+2))) (is.map mE) (Ak S W m.prog (RW m) (AF m) (.lst (ag.map toldP)) x6 x8 x9 zV cs)=some (.ok .nx,Ak S W m.prog (RW m) (AF m) (.lst (ag.map toldP)) x6 x8' x9' XX cs)
 | [],x8,x9,zV,_=>⟨x8,x9,zV,rfl⟩
 | i::is,x8,x9,zV,hi=>by
  obtain⟨t,ht⟩:∃t,ag[i]?=some t:=⟨_,bU (hi i bg)⟩
  obtain⟨y9,y10,e⟩:=Sb k hk h hm Cm T S W x6 x9 zV ht;obtain⟨z8,z9,z10,e2⟩:=vc k hk h hm Cm T S W x6 is (some (iN i)) y9 y10 λj hj=>hi j (aU _ hj)
  have e0:mE i=iN i:=by unfold mE iN;rw[kh]
  refine⟨z8,z9,z10,?_⟩;rw[aE,e0];exact fC rfl e e2
end
noncomputable abbrev wds:List Str:=["put","set","copy","move","lend","lend","lend","lend","lend","lend","lend","call"]
noncomputable abbrev abM:List Str:=["call","call","if","if","go","say","give"]
def N3(ns:List Int)(_:ns.length<=63):Yes (run txt 21 "law" [E8 ns] []):=by
 obtain⟨m,hp,ok⟩:=JR 16 (by decide) ns 12 (by decide) (W:=wds++abM) (by decide +kernel)
 obtain⟨cs,hc,Cm⟩:=XJ ok (by decide)
 obtain⟨ag,hh,T⟩:=XU 16 (by decide) ok (by decide) (hc 16 (by decide)) Cm
 have ha:=zW ok (by decide) 19 (by decide)
 have hn:=(iE ok (by decide) 18 (by decide)).1
 have Ss:=hc 17 (by decide)
 have vX:ag.length<=3000000:=by
  have:=hZ (ag.map (·.1)) (Us m) T.nd λx hx=>by
   obtain⟨t,ht,rfl⟩:=aA.mp hx;obtain⟨f,e,o⟩:=T.ok t ht;rw[e];exact FQ o
  rw[aD,NV]at this;have hN2:=zX ok;have h2:15*(3*((m.as.length+4)*3))<=17550:=by lia
  exact br this (br (Nat.mul_le_mul hN2 h2) (by decide))
 obtain⟨y6,cl⟩:=w9 (run txt 20) [some (E8 ns),some (.lst (wds.map .str)),some m.prog,some (RW m),some (AF m)] [none,none,none,none] rfl [] cs [] none (by rw[fN];exact Cm.nd) (by
  rw[fN];have:=hZ cs (List.range m.as.length) Cm.nd λn hn=>cD.mpr (Cm.lt n hn)
  rw[eP]at this;have:=zX ok
  lia)
 rw[fN]at cl;obtain⟨z8,z9,z10,fl⟩:=vc 18 (by decide) ok (by decide) Cm T (E8 ns) (.lst (wds.map .str)) y6 (List.range ag.length) none none none λi hi=>cD.mp hi
 have nP:=nY ok;have ln:∀H,fB H [.lst (ag.map toldP)]=some (iN ag.length):=λH=>by
  show some (PV.int ((ag.map toldP).length:Nat))=_;rw[aD];rfl
 obtain⟨P,hP⟩:=nw m.prog;obtain⟨R,hR⟩:=nw (RW m);obtain⟨A,hA⟩:=nw (AF m);obtain⟨FD,Ys⟩:=nw (PV.lst (ag.map toldP));obtain⟨S,hS⟩:=nw (E8 ns);have hp:Gives (run txt 20 "_law_program" [S,.int 12,.lst ((wds++abM).map .str)] []) P:=by grind
 have ha:Gives (run txt 20 "acts" [P,.int 1] []) R:=by grind
 have hn:Gives (run txt 20 "nexts" [P,.int 1] []) A:=by grind
 have Ss:Gives (run txt 20 "come_to" [P,.int 1] []) (.lst (cs.map iN)):=by grind
 have hh:Gives (run txt 20 "held" [P,.int 1] []) FD:=by grind
 rw[<-hP]at nP;rw[<-Ys]at ln;rw[<-hP,<-hR,<-hA,<-hS]at cl;rw[<-hP,<-hR,<-hA,<-hS,<-Ys]at fl;rw[<-hS];have e:run txt 21 "law" [S] []=some (.ok (.bl true),[vh cs]):=by
  rw[Rl];refine j6 (J4:=[some S,some (.lst (wds.map .str)),some P,some R,some A,some (.ref 0),y6,some FD,z8,z9,z10]) ?_;refine sq rfl ?_;refine sq (aS (cx (cA rfl (cA rfl (cA (b2 rfl rfl (by rw[ck];exact aL (by simp))) rfl))) rfl rfl hp) rfl) ?_
  refine sq (aS (cx (cA rfl (cA rfl rfl)) rfl rfl ha) rfl) ?_;refine sq (aS (cx (cA rfl (cA rfl rfl)) rfl rfl hn) rfl) ?_;refine sq rfl ?_;refine sq (fS (sV (cx (cA rfl (cA rfl rfl)) rfl (by simp[ah,nP,noRef]) Ss) rfl) cl) ?_
  refine sq (aS (cx (cA rfl (cA rfl rfl)) rfl (by simp[ah,nP,noRef]) hh) rfl) ?_
  exact sq (fS (lP (cA (bV (cA rfl rfl) (ln _)) rfl) (by lia)) fl) (rS rfl)
 exact⟨_,e⟩
end cX
open PySem PySem.W PyProof.Rows PySem.Calls
theorem PySem.Challenge.cw_lendrule_k32_whole_why_it_is_held_holds : PySem.Challenge.rw_lendrule_k32_whole_why_it_is_held.Holds := by
 exact cX.fin λd h1 h2=>L2.U.MO (P:=cX.txt) (N:=21) (st:=cX.aa7) (x:="_law_script") (l:=PySem.Challenge.rw_lendrule_k32_whole_why_it_is_held) (by kernel_rfl) (by kernel_rfl) rfl h1 h2 ⟨rfl,by decide,by decide⟩ (by kernel_rfl) (λw h Y=>Y) cX.N3
end
