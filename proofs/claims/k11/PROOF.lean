import PyProof.Rows.All
import Wide.All
import OpenK.AllK
import Wide.FinOn
import Lean
import PyProof.EqAt
import PyProof.EqKinds
import PyProof.TupleCall
import PySem.Challenge.RW_apartbook_k11_no_books
set_option Elab.async false
set_option linter.all false
set_option maxRecDepth 100000
namespace PySem.W.Fast
noncomputable def tw6634262151860069604:=PySem.Challenge.pw_apartbook_k11_no_books
theorem te6634262151860069604:PySem.Challenge.pw_apartbook_k11_no_books=tw6634262151860069604:=rfl
def tw13395807440234036646:=0
def tw11334208506711779314:=0
def tw8174792810430452868:=0
def tw1259216841457681931:=0
def tw2640120217382952797:=0
def tw42084012798300753:=0
def tw3838301627156987219:=0
def tw4594262074023206984:=0
def tw12969166069620064092:=0
def tw5948108297909300018:=0
def tw5350780231491362472:=0
def tw14176310412423228403:=0
def tw12834014811745806557:=0
def tw2915390799406450794:=0
def tw10971845431175418845:=0
def tw9025027659421306195:=0
def tw5225777360420712759:=0
def tw2330249125628536629:=0
def tw9097517759608432482:=0
def tw8280455570492479852:=0
def tw9204198638060050268:=0
def tw12149351385396578441:=0
def tw8517070591558643169:=0
def tw12207618561418016615:=0
def tw783970062636462761:=0
def tw8809149366362865240:=0
def tw12351663886491250471:=0
def tw15994621381997305227:=0
def tw13252313690986363495:=0
def tw456343470819033158:=0
def tw3718789492184853161:=0
def tw12384693382613203180:=0
def tw3088550260796556547:=0
def tw17183352995740867119:=0
def tw8567885761024688233:=0
def tw5032940033044925932:=0
def tw3154764058716120165:=0
end PySem.W.Fast
set_option compiler.extract_closed false
abbrev zax.{u}:=@List.getElem?_eq_getElem.{u}
abbrev zay:=@PySem.wpAny_bind
abbrev zaz:=@PySem.Heap.get?_push_of_some
abbrev zav.{u,v}:=@List.length_map.{u,v}
abbrev zaw.{u}:=@List.mem_cons_of_mem.{u}
abbrev zaa.{u}:=@List.mem_cons_self.{u}
abbrev zab:=@PySem.wpAny_pure
abbrev zac:=@Nat.le_refl
abbrev zbx.{u}:=@List.size_toArray.{u}
abbrev zby.{u}:=@Option.some.inj.{u}
abbrev zbz:=@PySem.Heap.get?_push_size
abbrev zbv:=@PySem.Heap.lt_size
abbrev zbw.{u}:=@List.getElem?_set_ne.{u}
abbrev zba.{u,v}:=@List.getElem?_map.{u,v}
abbrev zbb.{u}:=@List.getElem?_eq_some_iff.{u}
abbrev zbc.{u}:=@List.contains_iff_mem.{u}
abbrev zcx:=@Nat.lt_of_lt_of_le
abbrev zcy.{u}:=@List.mem_append_right.{u}
abbrev zcz.{u}:=@List.getElem?_set_self.{u}
abbrev zcv:=@Nat.ne_of_lt
abbrev zcw:=@Int.emod_lt_of_pos
abbrev zca.{u}:=@List.length_append.{u}
abbrev zcb:=@List.mem_range
abbrev zcc:=@Nat.le_trans
theorem zau0(h:True:=by first|exact .inl rfl|exact .inr rfl|assumption):True:=h
theorem zau1(h:True:=by decide):True:=h
theorem zau2(h:True:=by rfl):True:=h
theorem zau3(h:True:=by intro _;rfl):True:=h
theorem zau4(h:True:=by with_unfolding_all rfl):True:=h
theorem zau5(h:True:=by first|exact Or.inl rfl|exact Or.inr (Or.inl rfl)|exact Or.inr (Or.inr rfl)):True:=h
theorem zau6(h:True:=by exact fun _ _=>rfl):True:=h
theorem zau7(h:True:=by exact fun _=>rfl):True:=h
theorem zau8(h:True:=by first|exact Or.inl rfl|exact Or.inr rfl):True:=h
namespace L2
open PySem PySem.Spec PyProof.Rows
noncomputable abbrev Key:=Sum Int Str
noncomputable def joj:Key->Value->Bool
 | .inl k,v=>Value.isInt k v
 | .inr x,v=>Value.isStrOf x v
noncomputable def keyH(w:World):Key->Int
 | .inl k=>hashInt k
 | .inr x=>hashStr w x
theorem jbu:∀ {k:Key} {v:Value},joj k v=true->(∃ i t,k=Sum.inl i/\v=Value.int i t)\/(∃ x t,k=Sum.inr x/\v=Value.str x t)
 | .inl i,v,h=>by
  obtain⟨t,e⟩:=Value.isInt_shape (k:=i) (v:=v) h;exact .inl ⟨i,t,rfl,e⟩
 | .inr x,v,h=>by
  obtain⟨t,e⟩:=Value.isStrOf_shape (x:=x) (v:=v) h;exact .inr ⟨x,t,rfl,e⟩
theorem jqe(i:Int)(t:Tok):joj (.inl i) (.int i t)=true:=by simp[joj,Value.isInt]
theorem jqf(x:Str)(t:Tok):joj (.inr x) (.str x t)=true:=by simp[joj,Value.isStrOf]
theorem jzc(a b:Int):decide ((Sum.inl a:Key)=Sum.inl b)=(a == b):=by
 by_cases e:a=b
 ·subst e;simp
 ·have h:¬ (Sum.inl a:Key)=Sum.inl b:=fun q=>e (Sum.inl.inj q)
  rw[decide_eq_false h];exact (beq_eq_false_iff_ne.mpr e).symm
theorem jzf(a b:Str):decide ((Sum.inr a:Key)=Sum.inr b)=decide (a=b):=by
 by_cases e:a=b
 ·subst e;simp
 ·have h:¬ (Sum.inr a:Key)=Sum.inr b:=fun q=>e (Sum.inr.inj q)
  rw[decide_eq_false h,decide_eq_false e]
theorem jzd(a:Int)(b:Str):decide ((Sum.inl a:Key)=Sum.inr b)=false:=decide_eq_false (fun q=>nomatch q)
theorem jze(a:Str)(b:Int):decide ((Sum.inr a:Key)=Sum.inl b)=false:=decide_eq_false (fun q=>nomatch q)
noncomputable def jfk(prog:Program)(w:World):PySem.KeyKind prog w Key where
 is:=joj
 hash:=keyH w
 inj:=fun v a b ha hb=>by
  rcases jbu ha with ⟨i,t,rfl,rfl⟩|⟨x,t,rfl,rfl⟩
  ·rcases jbu hb with ⟨j,u,rfl,e⟩|⟨y,u,rfl,e⟩
   ·injection e with e1 _;rw[e1]
   ·exact nomatch e
  ·rcases jbu hb with ⟨j,u,rfl,e⟩|⟨y,u,rfl,e⟩
   ·exact nomatch e
   ·injection e with e1 _;rw[e1]
 byValue:=fun k v h=>by
  rcases jbu h with ⟨i,t,rfl,rfl⟩|⟨x,t,rfl,rfl⟩<;>rfl
 pyHash:=fun hv h=>by
  rcases jbu hv with ⟨i,t,rfl,rfl⟩|⟨x,t,rfl,rfl⟩
  ·exact wpAny_pyHash_int h
  ·exact wpAny_pyHash_str h
 eqBool:=fun hu hv h=>by
  rcases jbu hu with ⟨i,t,rfl,rfl⟩|⟨x,t,rfl,rfl⟩
  ·rcases jbu hv with ⟨j,u,rfl,rfl⟩|⟨y,u,rfl,rfl⟩
   ·rw[jzc] at h;exact wpAny_eqBool_int h
   ·rw[jzd] at h;exact SeqAt.EqAt.int_str i t y u _ _ _ _ h
  ·rcases jbu hv with ⟨j,u,rfl,rfl⟩|⟨y,u,rfl,rfl⟩
   ·rw[jze] at h;exact SeqAt.EqAt.str_int x t j u _ _ _ _ h
   ·rw[jzf] at h;exact wpAny_eqBool_str h
 «strs»:=fun k x t v h=>by
  rcases jbu h with ⟨i,u,rfl,e⟩|⟨y,u,rfl,e⟩
  ·exact nomatch e
  ·injection e with e1 _
   subst e1;cases v<;>rfl
theorem jmh(prog:Program)(w:World)(i:Int)(t:Tok):(jfk prog w).is (.inl i) (.int i t)=true:=jqe i t
theorem jmi(prog:Program)(w:World)(x:Str)(t:Tok):(jfk prog w).is (.inr x) (.str x t)=true:=jqf x t
inductive V where
 | non|bl (b:Bool)|int (i:Int)|str (x:Str)|byt (b:Array UInt8)|flt (b:UInt64)|ref (a:Addr)|ty (n:String)
 deriving DecidableEq
noncomputable def RelV:V->Value->Prop
 | .non,u=>u=Value.none
 | .bl b,u=>u=Value.bool b
 | .int i,u=>∃ t,u=Value.int i t
 | .str x,u=>∃ t,u=Value.str x t
 | .byt b,u=>∃ t,u=Value.bytes b t
 | .flt b,u=>∃ t,u=Value.float b t
 | .ref a,u=>u=Value.ref a
 | .ty n,u=>u=Value.type n
noncomputable abbrev Vals:List V->List Value->Prop:=Paired RelV
theorem Vals.length{xs:List V}{us:List Value}(r:Vals xs us):xs.length=us.length:=Paired.length r
theorem Vals.get:∀ {xs:List V} {us:List Value} {i:Nat} {x:V},Vals xs us->xs[i]? = some x->∃ u,us[i]? = some u/\RelV x u
 | _,_,_,_,.nil,e=>by simp at e
 | _,_,0,_,.cons r _,e=>by simp at e;subst e;exact⟨_,rfl,r⟩
 | _,_,i+1,x,.cons _ t,e=>by
  obtain⟨u,h1,h2⟩:=Vals.get (i:=i) (x:=x) t (by simpa using e);exact⟨u,by simpa using h1,h2⟩
theorem Vals.set{x:V}{u:Value}(r:RelV x u):∀ {xs:List V} {us:List Value} (i:Nat),Vals xs us->Vals (xs.set i x) (us.set i u)
 | _,_,_,.nil=>.nil
 | _,_,0,.cons _ t=>.cons r t
 | _,_,i+1,.cons q t=>.cons q (Vals.set r i t)
theorem Vals.append:∀ {xs ys:List V} {us ws:List Value},Vals xs us->Vals ys ws->Vals (xs++ys) (us++ws)
 | _,_,_,_,.nil,s=>s
 | _,_,_,_,.cons r t,s=>.cons r (Vals.append t s)
theorem Vals.take:∀ {xs:List V} {us:List Value} (n:Nat),Vals xs us->Vals (xs.take n) (us.take n)
 | _,_,0,_=>.nil
 | _,_,_+1,.nil=>.nil
 | _,_,n+1,.cons r t=>.cons r (Vals.take n t)
theorem Vals.drop:∀ {xs:List V} {us:List Value} (n:Nat),Vals xs us->Vals (xs.drop n) (us.drop n)
 | _,_,0,r=>r
 | _,_,_+1,.nil=>.nil
 | _,_,n+1,.cons _ t=>Vals.drop n t
noncomputable def RelO:Option V->Option Value->Prop
 | some v,some u=>RelV v u
 | none,none=>True
 | _,_=>False
noncomputable def KV{κ:Type}:List (κ×V)->List (κ×Value)->Prop:=Paired fun (p:κ×V) (q:κ×Value)=>p.1=q.1/\RelV p.2 q.2
noncomputable def kV:Key->V
 | .inl i=>.int i
 | .inr x=>.str x
inductive HO where
  | lst (xs:List V)
  | tup (xs:List V)
  | dK (kvs:List (Key×V))|dT (kvs:List (List Key×V))
  | set (S:Int->Bool) (n:Nat)
  | ins (C dx:Addr) (fs:List (Str×V))
  | own (x:Addr)
  | xd (fs:List (Str×V))
  | met (f x:Addr)
  | rng (lo hi:Int)
  | frz (o:Obj) (u:HO)
  | tbl (ps:Array Value)
  | ext (φ:Heap->Prop)
noncomputable abbrev Hp:=Addr->Option HO
noncomputable def upd(H:Hp)(a:Addr)(o:HO):Hp:=fun b=>if b=a then some o else H b
theorem jao{H:Hp}{a:Addr}{o:HO}:upd H a o a=some o:=by unfold upd;rw[if_pos rfl]
theorem jah{H:Hp}{a b:Addr}{o:HO}(h:b≠a):upd H a o b=H b:=by unfold upd;rw[if_neg h]
theorem jCj{H:Hp}{a b:Addr}{o u:HO}(h:H a=some o)(h':H b=some u)(d:o≠u):a≠b:=by
 intro e;subst e;rw[h] at h';exact d (zby h')
theorem jaz{H:Hp}{a b:Addr}{o:HO}(h:H a=some o)(h':H b=none):a≠b:=by
 intro e;subst e;rw[h] at h';cases h'
section
variable (P:Program)(w:World)
noncomputable def ObjOk(H:Hp)(h:Heap)(a:Addr):HO->Prop
 | .lst xs=>xs.length<=sizeLine/\∃ (its:List Value) (n:Nat),Vals xs its/\h.get? a=some { cls:=.type "list",data:=.seq its.toArray n }
 | .tup xs=>xs.length<=sizeLine/\∃ its:List Value,Vals xs its/\IsTup h a its.toArray
 | .dK kvs=>kvs.length<=sizeLine/\(a == sysModules)=false/\∃ vs,KV kvs vs/\h.DictOf (jfk P w) a vs
 | .dT kvs=>kvs.length<=sizeLine/\(a == sysModules)=false/\∃ xs:List (List Key×Addr×Value),
   Paired (fun (p:List Key×V) (q:List Key×Addr×Value)=>p.1=q.1/\H q.2.1=some (.tup (p.1.map kV))/\RelV p.2 q.2.2) kvs xs /\
   ∃ o es ep,h.get? a=some o/\o.ExactDict/\o.data=.dict es ep/\es.toList=xs.map (entryOfKey (tupleKind (jfk P w)))/\(xs.map (·.1)).Nodup
 | .set S n=>h.SetOf (intKind P w) a S n
 | .ins C dx fs=>H dx=some (.own a)/\fs.length<=1000/\dx≠a/\h.get? a=some (W.instObj C dx) /\
   ∃ mA,h.Ns1 dx mA/\(∀ f,RelO (fs.lookup f) (mA f))/\PySem.Within mA (fs.map (·.1))
 | .own _=>∃ o,h.get? a=some o
 | .xd fs=>∃ mA,h.Ns1 a mA/\∀ f,RelO (fs.lookup f) (mA f)
 | .rng lo hi=>∃ t u v,h.get? a=some { cls:=.type "range",data:=.fields #[.int lo t,.int hi u,.int 1 v] }
 | .frz o u=>h.get? a=some o/\ObjOk H h a u
 | .tbl ps=>h.get? a=some { cls:=.none,data:=.fields ps }
 | .met f x=>h.get? a=some (W.methodObj (.ref f) (.ref x))
 | .ext φ=>φ h/\(∃ o,h.get? a=some o)/\∀ h1 h2:Heap,φ h1->(∀ o,h1.get? a=some o->h2.get? a=some o)->φ h2
noncomputable def HOk(H:Hp)(h:Heap):Prop:=∀ a o,H a=some o->ObjOk P w H h a o
end
section
variable {P:Program}{w:World}{H H':Hp}{h h':Heap}{a:Addr}{o:HO}
theorem ObjOk.lt(x:ObjOk P w H h a o):a<h.objs.size:=by
 cases o with
 | lst xs=>obtain⟨_,_,_,_,e⟩:=x;exact zbv e
 | tup xs=>obtain⟨_,_,_,p⟩:=x;exact p.lt
 | dK kvs=>obtain⟨_,_,_,_,o,_,_,e,_⟩:=x;exact zbv e
 | dT kvs=>obtain⟨_,_,_,_,o,_,_,e,_⟩:=x;exact zbv e
 | set S n=>obtain⟨o,_,_,_,e,_⟩:=x;exact zbv e
 | ins C dx fs=>obtain⟨_,_,_,e,_⟩:=x;exact zbv e
 | own y=>obtain⟨_,e⟩:=x;exact zbv e
 | xd fs=>obtain⟨_,⟨_,_,_,e,_⟩,_⟩:=x;exact zbv e
 | rng lo hi=>obtain⟨_,_,_,e⟩:=x;exact zbv e
 | frz ob u=>obtain⟨e,_⟩:=x;exact zbv e
 | tbl ps=>exact zbv (show h.get? a=some _ from x)
 | met f y=>exact zbv (show h.get? a=some _ from x)
 | ext φ=>obtain⟨_,⟨_,e⟩,_⟩:=x;exact zbv e
theorem Paired.mapP{α β:Type}{F G:α->β->Prop}:∀ {l₁:List α} {l₂:List β},Paired F l₁ l₂->(∀ a b,F a b->G a b)->Paired G l₁ l₂
 | _,_,.nil,_=>.nil
 | _,_,.cons r t,f=>.cons (f _ _ r) (Paired.mapP t f)
theorem ObjOk.stay(x:ObjOk P w H h a o)(k:∀ b u,(b=a\/H b=some (.own a))->h.get? b=some u->h'.get? b=some u)
  (ho:∀ b,H b=some (.own a)->H' b=some (.own a)) (ht:∀ b xs,H b=some (.tup xs)->H' b=some (.tup xs)):ObjOk P w H' h' a o:=by
 induction o with
 | lst xs=>obtain⟨z,its,n,r,e⟩:=x;exact⟨z,its,n,r,k _ _ (.inl rfl) e⟩
 | tup xs=>obtain⟨z,its,r,ob,e,c⟩:=x;exact⟨z,its,r,ob,k _ _ (.inl rfl) e,c⟩
 | dK kvs=>obtain⟨z,y,vs,r,ob,es,ep,e,c⟩:=x;exact⟨z,y,vs,r,ob,es,ep,k _ _ (.inl rfl) e,c⟩
 | dT kvs =>
  obtain⟨z,y,xs,r,ob,es,ep,e,c⟩:=x;exact⟨z,y,xs,Paired.mapP r fun p q z=>⟨z.1,ht _ _ z.2.1,z.2.2⟩,ob,es,ep,k _ _ (.inl rfl) e,c⟩
 | set S n=>obtain⟨ob,es,ep,t,e,c⟩:=x;exact⟨ob,es,ep,t,k _ _ (.inl rfl) e,c⟩
 | ins C dx fs =>
  obtain⟨d,z,ne,e,mA,⟨od,es,ep,e2,c⟩,r⟩:=x;exact⟨ho _ d,z,ne,k _ _ (.inl rfl) e,mA,⟨od,es,ep,k _ _ (.inr d) e2,c⟩,r⟩
 | own y=>obtain⟨ob,e⟩:=x;exact⟨ob,k _ _ (.inl rfl) e⟩
 | xd fs=>obtain⟨mA,⟨od,es,ep,e,c⟩,r⟩:=x;exact⟨mA,⟨od,es,ep,k _ _ (.inl rfl) e,c⟩,r⟩
 | rng lo hi=>obtain⟨t,u,v,e⟩:=x;exact⟨t,u,v,k _ _ (.inl rfl) e⟩
 | frz ob u ih=>obtain⟨e,q⟩:=x;exact⟨k _ _ (.inl rfl) e,ih q⟩
 | tbl ps =>
  have e:h.get? a=some { cls:=.none,data:=.fields ps }:=x;show h'.get? a=some { cls:=.none,data:=.fields ps };exact k a _ (.inl rfl) e
 | met f y =>
  have e:h.get? a=some (W.methodObj (.ref f) (.ref y)):=x;show h'.get? a=some (W.methodObj (.ref f) (.ref y));exact k a _ (.inl rfl) e
 | ext φ=>obtain⟨p,⟨o,e⟩,st⟩:=x;exact⟨st _ _ p fun o q=>k _ _ (.inl rfl) q,⟨o,k _ _ (.inl rfl) e⟩,st⟩
theorem HOk.lt(x:HOk P w H h)(e:H a=some o):a<h.objs.size:=(x a o e).lt
theorem HOk.fresh(x:HOk P w H h)(e:h.objs.size<=a):H a=none:=by
 cases q:H a with
 | none=>rfl
 | some u=>exact absurd (zcx (x.lt q) e) (Nat.lt_irrefl _)
theorem HOk.kept(x:HOk P w H h)(k:∀ b u,h.get? b=some u->h'.get? b=some u):HOk P w H h':=fun a o e =>
 (x a o e).stay (fun b u _ q=>k b u q) (fun _ q=>q) fun _ _ q=>q
theorem HOk.laid(x:HOk P w H h)(k:∀ b u,h.get? b=some u->h'.get? b=some u)(hp:h.objs.size<=a)(new:ObjOk P w (upd H a o) h' a o):HOk P w (upd H a o) h':=fun b u e=>by
 have hn:=x.fresh hp
 by_cases hb:b=a
 ·subst hb;rw[jao] at e;cases e;exact new
 ·rw[jah hb] at e;exact (x b u e).stay (fun c v _ q=>k c v q) (fun c q=>by rw[jah (jaz q hn)];exact q) fun c xs q=>by rw[jah (jaz q hn)];exact q
end
noncomputable def Rd(H:Hp)(a:Addr)(u:HO):Prop:=H a=some u\/∃ o,H a=some (.frz o u)
theorem Rd.ok{P:Program}{w:World}{H:Hp}{h:Heap}{a:Addr}{u:HO}(r:Rd H a u)(x:HOk P w H h):ObjOk P w H h a u:=by
 rcases r with r|⟨o,r⟩
 ·exact x a u r
 ·obtain⟨_,q⟩:=x a _ r;exact q
noncomputable def Mut:Option HO->Prop
 | some (.lst _)=>True
 | some (.dK _)=>True
 | some (.dT _)=>True
 | some (.set _ _)=>True
 | some (.ins _ _ _)=>True
 | some (.ext _)=>True
 | _=>False
section
variable {P:Program}{w:World}{H:Hp}{h h':Heap}{x e:Addr}{o':HO}
theorem HOk.write(ok:HOk P w H h)(mu:Mut (H x))(he:e=x\/H e=some (.own x))(k:∀ b u,b≠e->h.get? b=some u->h'.get? b=some u)(heo:∃ u,h'.get? e=some u)
  (new:ObjOk P w (upd H x o') h' x o'):HOk P w (upd H x o') h':=fun b u q=>by
 have nown:∀ c y,H c=some (.own y)->c≠x:=fun c y r z=>by subst z;rw[r] at mu;exact mu
 have ntup:∀ c xs,H c=some (.tup xs)->c≠x:=fun c xs r z=>by subst z;rw[r] at mu;exact mu
 by_cases hb:b=x
 ·subst hb;rw[jao] at q;cases q;exact new
 ·rw[jah hb] at q
  by_cases hbe:b=e
  ·have q':H b=some (.own x):=by
    rcases he with z|z
    ·exact absurd (hbe.trans z) hb
    ·rw[hbe];exact z
   rw[q] at q';cases q'
   obtain⟨v,hv⟩:=heo;exact⟨v,by rw[hbe];exact hv⟩
  ·refine (ok b u q).stay (fun c v hc r=>k c v ?_ r) (fun c r=>by rw[jah (nown c b r)];exact r) fun c xs r=>by rw[jah (ntup c xs r)];exact r
   rcases hc with rfl|hc
   ·exact hbe
   ·rintro rfl;rcases he with z|z
    ·exact nown c b hc z
    ·rw[hc] at z;cases z;exact hb rfl
end
structure Un(fs ex:List Addr)(H H':Hp)(h h':Heap):Prop where
 keep:∀ b o,h.get? b=some o->H b=none->b∉fs->b∉ex->h'.get? b=some o
 slot:∀ b o,h.get? b=some o->H b=none->b∈fs->b∉ex->∃ sl,h'.get? b=some { o with slots:=sl }
 free:∀ b o,h.get? b=some o->H b=none->b∉ex->H' b=none
 there:∀ b o,h.get? b=some o->b∉ex->∃ o',h'.get? b=some o'
 tups:∀ b xs,H b=some (.tup xs)->H' b=some (.tup xs)
 frzs:∀ b o u,H b=some (.frz o u)->H' b=some (.frz o u)
 tbls:∀ b ps,H b=some (.tbl ps)->∃ more,H' b=some (.tbl (ps++more))
section
variable {fs ex:List Addr}{H H1:Hp}{h h1 h':Heap}{a x e:Addr}{o:HO}
theorem Un.any(u:Un fs ex H H1 h h1){b:Addr}{ob:Obj}(q:h.get? b=some ob)(n:H b=none)(hx:b∉ex):∃ sl,h1.get? b=some { ob with slots:=sl }:=by
 by_cases hb:b∈fs
 ·exact u.slot b ob q n hb hx
 ·exact⟨ob.slots,u.keep b ob q n hb hx⟩
theorem Un.kept(k:∀ b u,h.get? b=some u->h'.get? b=some u):Un fs ex H H h h' :=
 ⟨fun b ob q _ _ _=>k b ob q,fun b ob q _ _ _=>⟨ob.slots,k b ob q⟩,fun _ _ _ n _=>n,fun b ob q _=>⟨ob,k b ob q⟩,fun _ _ q=>q,fun _ _ _ q=>q,fun _ ps q=>⟨#[],by rw[q];simp⟩⟩
theorem Un.refl:Un fs ex H H h h:=Un.kept fun _ _ q=>q
theorem Un.laid(k:∀ b u,h.get? b=some u->h'.get? b=some u)(hp:h.objs.size<=a)(hn:H a=none):Un fs ex H (upd H a o) h h' where
 keep:=fun b u q _ _ _=>k b u q
 slot:=fun b u q _ _ _=>⟨u.slots,k b u q⟩
 free:=fun b u q n _=>by rw[jah (zcv (zcx (zbv q) hp))];exact n
 there:=fun b u q _=>⟨u,k b u q⟩
 tups:=fun b xs q=>by rw[jah (jaz q hn)];exact q
 frzs:=fun b u xs q=>by rw[jah (jaz q hn)];exact q
 tbls:=fun b ps q=>⟨#[],by rw[jah (jaz q hn),q];simp⟩
theorem Un.write(mu:Mut (H x))(he:e=x\/H e=some (.own x))(k:∀ b u,b≠e->h.get? b=some u->h'.get? b=some u)(heo:∃ u,h'.get? e=some u):Un fs ex H (upd H x o) h h':=by
 have hx:∀ b,H b=none->b≠x:=fun b n z=>by subst z;rw[n] at mu;exact mu
 have hb:∀ b,H b=none->b≠e:=fun b n z=>by
  subst z;rcases he with r|r
  ·exact hx b n r
  ·rw[n] at r;cases r
 have hm:∀ b u,H b=some u->¬ Mut (some u)->b≠x:=fun b u q nm z=>by subst z;rw[q] at mu;exact nm mu
 refine⟨fun b u q n _ _=>k b u (hb b n) q,fun b u q n _ _=>⟨u.slots,k b u (hb b n) q⟩,fun b u q n _=>by rw[jah (hx b n)];exact n,fun b u q _=>?_,
  fun b xs q=>by rw[jah (hm b _ q fun z=>z)];exact q,fun b u xs q=>by rw[jah (hm b _ q fun z=>z)];exact q,fun b ps q=>⟨#[],by rw[jah (hm b _ q fun z=>z),q];simp⟩⟩
 by_cases hbe:b=e
 ·subst hbe;exact heo
 ·exact⟨u,k b u hbe q⟩
end
noncomputable def trk(h:Heap)(H:Hp):List Addr:=(List.range h.objs.size).filter fun a=>(H a).isSome
noncomputable def hidT(h:Heap)(H:Hp):Heap:=W.hideAll h (trk h H)
theorem jp2(h:Heap)(H:Hp):(hidT h H).objs.size=h.objs.size:=W.hideAll_size _ _
theorem jsq{h:Heap}{H:Hp}{b:Addr}{o:Obj}(e:h.get? b=some o)(n:H b=none):(hidT h H).get? b=some o :=
 W.hideAll_get _ e fun hm=>by
  have q:(H b).isSome=true:=(List.mem_filter.mp hm).2;rw[n] at q;simp at q
theorem jwx{h:Heap}{H:Hp}{b:Addr}{o:Obj}(e:(hidT h H).get? b=some o):h.get? b=some o/\H b=none:=by
 have e':h.get? b=some o:=W.of_hideAll (trk h H) e;refine⟨e',?_⟩
 cases q:H b with
 | none=>rfl
 | some x =>
  have hm:b∈trk h H:=List.mem_filter.mpr ⟨zcb.mpr (zbv e'),by simp[q]⟩;have z:(hidT h H).get? b=none:=W.hideAll_none (trk h H) hm;rw[z] at e;cases e
noncomputable def ju9(g h:Heap)(L:Addr):List (Addr×Obj):=(List.range h.objs.size).filterMap fun a=>if a=L\/(g.get? a).isSome=true then none else (h.get? a).map fun o=>(a,o)
noncomputable def rest(g h:Heap)(L d:Addr):List (Addr×Obj):=(ju9 g h L).filter fun p=>decide (p.1≠d)
structure Mod(K:W.Frag)(mg:Str->Option Value)(base:Heap):Prop where
 kin:K.In base
 glob:base.Ns mainGlobals mg
 blt:∃ mb,base.Ns builtinsNs mb/\∀ x:Str,x≠"__name__"->mb x=bootBuiltins x
 nolimit:base.NoLimit
structure Cx where
 prog:Program
 w:World
 K:W.Frag
 mg:Str->Option Value
 base:Heap
 A:Around
 N:List Str
 s₀:Shared
 Hz:Hp
 env:Env
 outer:List Env
 stack:List Env
 ex:List Addr
 fn:Str->Bool
 calm:Bool
 pn:List (Addr×Obj)
 xe:Value->Shared->Prop
noncomputable def frs(l:List Env):List Addr:=l.filterMap (·.frame)
noncomputable abbrev Cx.fs(X:Cx):List Addr:=frs X.outer
noncomputable def Vis(sc:Scope)(x:Str):Prop:=sc.names.lookup x=some .local\/sc.names.lookup x=some .cell\/sc.names.lookup x=some .free
noncomputable def Loc(sc:Scope)(x:Str):Prop:=sc.names.lookup x=some .local\/sc.names.lookup x=some .cell
noncomputable def Look(env:Env)(h:Heap)(m:Str->Option Value)(x:Str)(u:Value):Prop :=
 (env.kindOf x=some .local/\m x=some u)\/((env.kindOf x=some .cell\/env.kindOf x=some .free)/\∃ c,env.cells.lookup x=some c/\h.IsCell c (some u))
structure Cx.Ok(X:Cx):Prop where
 mod:Mod X.K X.mg X.base
 kind:X.env.scope.kind=.function
 glob:X.env.globals=mainGlobals
 blt:X.env.builtins=builtinsNs
 above:X.s₀.heap.objs.size<=X.env.locals
 inj:∀ x y c,X.env.cells.lookup x=some c->X.env.cells.lookup y=some c->x=y
 has:∀ x,(X.env.kindOf x=some .cell\/X.env.kindOf x=some .free)->∃ c,X.env.cells.lookup x=some c
 cab:∀ x c,X.fn x=true->X.env.cells.lookup x=some c->X.s₀.heap.objs.size<=c
 hd:X.calm=true->X.A.handled=none
 frames:X.A.frames=some X.stack
 stk:X.stack=X.outer\/(X.stack=X.env::X.outer/\X.env.frame=some X.env.locals)
 exf:∀ b∈X.ex,b≠X.env.locals/\∀ x c,X.env.cells.lookup x=some c->c≠b
 bs:∀ b o,X.base.get? b=some o->X.s₀.heap.get? b=some o/\X.Hz b=none
 bsz:X.base.objs.size<=X.s₀.heap.objs.size
 noex:∀ b o,X.base.get? b=some o->b∉X.ex
 exfs:∀ b∈X.ex,b∉X.fs
 funs:X.s₀.heap.FunFrames X.base X.outer
 frf:∀ b∈X.fs,X.Hz b=none
structure Inv(X:Cx)(pins:List (Addr×Obj))(σ:List (Option V))(H:Hp)(s:Shared):Prop where
 ok:X.Ok
 os:s.os=X.s₀.os
 bare:AllBare s.gens
 base:Un X.fs X.ex X.Hz H X.s₀.heap s.heap
 loc:∃ m,s.heap.Ns X.env.locals m/\∀ (i:Nat) (x:Str) (v:V),X.N[i]? = some x->σ[i]? = some (some v)->Vis X.env.scope x->∃ u,RelV v u/\Look X.env s.heap m x u
 cell:∀ x c,X.env.cells.lookup x=some c->∃ v,s.heap.IsCell c v
 free:H X.env.locals=none
 freeC:∀ x c,X.env.cells.lookup x=some c->H c=none
 pin:∀ p∈X.pn++pins,s.heap.get? p.1=some p.2/\H p.1=none/\p.1≠X.env.locals/\p.1∉X.fs/\∀ v,p.2.data≠.cell v
 hok:HOk X.prog X.w H s.heap
 len:σ.length=X.N.length
section
variable {X:Cx}{pins:List (Addr×Obj)}{σ:List (Option V)}{H H':Hp}{s:Shared}{h':Heap}
theorem Cx.Ok.nofr(ok:X.Ok){b:Addr}{o:Obj}(e:X.base.get? b=some o):b∉X.fs:=fun hb=>by
 have:=(ok.funs.mem hb).1;rw[e] at this;cases this
theorem Inv.bs(I:Inv X pins σ H s):∀ b o,X.base.get? b=some o->s.heap.get? b=some o/\H b=none:=fun b o e =>
 ⟨I.base.keep b o (I.ok.bs b o e).1 (I.ok.bs b o e).2 (I.ok.nofr e) (I.ok.noex b o e),I.base.free b o (I.ok.bs b o e).1 (I.ok.bs b o e).2 (I.ok.noex b o e)⟩
theorem Inv.bk(I:Inv X pins σ H s):∀ b o,X.base.get? b=some o->s.heap.get? b=some o:=fun b o e=>(I.bs b o e).1
theorem Inv.mod(I:Inv X pins σ H s):Mod X.K X.mg X.base:=I.ok.mod
theorem Inv.kIn(I:Inv X pins σ H s):X.K.In s.heap:=I.ok.mod.kin.keeps I.bk
theorem Inv.lt(I:Inv X pins σ H s):X.env.locals<s.heap.objs.size:=let ⟨_,hn,_⟩:=I.loc;hn.lt
theorem Inv.sz(I:Inv X pins σ H s):X.s₀.heap.objs.size<=s.heap.objs.size:=zcc I.ok.above (Nat.le_of_lt I.lt)
theorem Inv.nofs(I:Inv X pins σ H s){a:Addr}(h:s.heap.objs.size<=a):a∉X.fs:=fun hb=>by
 obtain⟨_,o,ho,_⟩:=I.ok.funs.mem hb;exact absurd (zcx (zbv ho) (zcc I.sz h)) (Nat.lt_irrefl _)
theorem Inv.cne(I:Inv X pins σ H s):∀ x c,X.env.cells.lookup x=some c->c≠X.env.locals:=fun x c e z=>by
 obtain⟨v,o,ho,hd⟩:=I.cell x c e;obtain⟨m,⟨o',es,ep,ho',hd',_⟩,_⟩:=I.loc;rw[z,ho'] at ho;cases ho;rw[hd'] at hd;cases hd
theorem Inv.funs(I:Inv X pins σ H s):s.heap.FunFrames X.base X.outer:=by
 have all:∀ (l:List Env),(∀ b∈frs l,b∈X.fs)->X.s₀.heap.FunFrames X.base l->s.heap.FunFrames X.base l:=by
  intro l
  induction l with
  | nil=>intro _ _;trivial
  | cons env r ih =>
   intro hs hl;obtain⟨hk,⟨L,o,hf,hn,ho,hd⟩,hr⟩:=hl;have hL:L∈X.fs:=hs L (by unfold frs;rw[List.filterMap_cons,hf];exact zaa);obtain⟨sl,e⟩:=I.base.slot L o ho (I.ok.frf L hL) hL fun z=>I.ok.exfs L z hL
   exact⟨hk,⟨L,_,hf,hn,e,hd⟩,ih (fun b hb=>hs b (by unfold frs;rw[List.filterMap_cons,hf];exact zaw _ hb)) hr⟩
 exact all X.outer (fun _ hb=>hb) I.ok.funs
theorem Inv.stack(I:Inv X pins σ H s):s.heap.FunFrames X.base X.stack:=by
 rcases I.ok.stk with e|⟨e,hf⟩
 ·rw[e];exact I.funs
 ·rw[e];obtain⟨m,hn,_⟩:=I.loc;refine .cons (by rw[I.ok.kind];decide) hf hn ?_ I.funs;exact Heap.get?_none_of_le (zcc I.ok.bsz I.ok.above)
theorem Inv.stkSub(I:Inv X pins σ H s):∀ b∈frs X.stack,b∈X.env.locals::X.fs:=fun b hb=>by
 rcases I.ok.stk with e|⟨e,hf⟩
 ·rw[e] at hb;exact zaw _ hb
 ·rw[e] at hb;unfold frs at hb;rw[List.filterMap_cons,hf] at hb;exact hb
theorem Inv.stkFree(I:Inv X pins σ H s):∀ b∈frs X.stack,H b=none:=fun b hb=>by
 rcases List.mem_cons.mp (I.stkSub b hb) with e|hb
 ·rw[e];exact I.free
 ·obtain⟨_,o,ho,_⟩:=I.ok.funs.mem hb;exact I.base.free b o ho (I.ok.frf b hb) fun z=>I.ok.exfs b z hb
theorem Inv.step{g':Array GenState}{t':Nat}{d':Drawn}{ch:List Addr}(I:Inv X pins σ H s)
  (hch:∀ b∈ch,(b∈X.ex\/X.s₀.heap.objs.size<=b)/\b≠X.env.locals/\(∀ x c,X.env.cells.lookup x=some c->c≠b)/\∀ p∈X.pn++pins,p.1≠b)
  (keep:∀ b o,b≠X.env.locals->b∉X.fs->b∉ch->s.heap.get? b=some o->H b=none->h'.get? b=some o)
  (slot:∀ b o,b≠X.env.locals->b∈X.fs->b∉ch->s.heap.get? b=some o->H b=none->∃ sl,h'.get? b=some { o with slots:=sl }) (free:∀ b o,b∉ch->s.heap.get? b=some o->H b=none->H' b=none)
  (there:∀ b o,b∉ch->s.heap.get? b=some o->∃ o',h'.get? b=some o')
  (tups:∀ b xs,H b=some (.tup xs)->H' b=some (.tup xs)) (frzs:∀ b o u,H b=some (.frz o u)->H' b=some (.frz o u)) (tbls:∀ b ps,H b=some (.tbl ps)->∃ more,H' b=some (.tbl (ps++more)))
  (ns:∀ m,s.heap.Ns X.env.locals m->h'.Ns X.env.locals m) (hok:HOk X.prog X.w H' h') (hg:AllBare g') :
  Inv X pins σ H' { s with heap:=h',gens:=g',drawn:=d',toks:=t' }:=by
 have neL:∀ b o,X.s₀.heap.get? b=some o->b≠X.env.locals:=fun b o e=>zcv (zcx (zbv e) I.ok.above)
 have neC:∀ b o,X.s₀.heap.get? b=some o->b∉X.ex->b∉ch:=fun b o e hx hb=>by
  rcases (hch b hb).1 with z|z
  ·exact hx z
  ·exact absurd (zcx (zbv e) z) (Nat.lt_irrefl _)
 have cellK:∀ x c,X.env.cells.lookup x=some c->∀ v,s.heap.IsCell c v->h'.IsCell c v:=fun x c e v ⟨o,ho,hd⟩=>by
  have nch:c∉ch:=fun z=>(hch c z).2.2.1 x c e rfl
  by_cases hc:c∈X.fs
  ·obtain⟨sl,q⟩:=slot c o (I.cne x c e) hc nch ho (I.freeC x c e);exact⟨_,q,hd⟩
  ·exact⟨o,keep c o (I.cne x c e) hc nch ho (I.freeC x c e),hd⟩
 refine⟨I.ok,I.os,hg,⟨fun b o e n hb hx=>?_,fun b o e n hb hx=>?_,fun b o e n hx=>?_,fun b o e hx=>?_,fun b xs e=>tups b xs (I.base.tups b xs e),fun b o xs e=>frzs b o xs (I.base.frzs b o xs e),fun b ps e=>?_⟩,?_,fun x c e=>?_,?_,fun x c e=>?_,fun p hp=>?_,hok,I.len⟩
 ·exact keep b o (neL b o e) hb (neC b o e hx) (I.base.keep b o e n hb hx) (I.base.free b o e n hx)
 ·obtain⟨sl,e1⟩:=I.base.slot b o e n hb hx;obtain⟨sl',e2⟩:=slot b _ (neL b o e) hb (neC b o e hx) e1 (I.base.free b o e n hx);exact⟨sl',e2⟩
 ·obtain⟨o',e1⟩:=I.base.there b o e hx;exact free b o' (neC b o e hx) e1 (I.base.free b o e n hx)
 ·obtain⟨o',e1⟩:=I.base.there b o e hx;exact there b o' (neC b o e hx) e1
 ·obtain⟨m1,e1⟩:=I.base.tbls b ps e;obtain⟨m2,e2⟩:=tbls b _ e1;exact⟨m1++m2,by rw[e2,Array.append_assoc]⟩
 ·obtain⟨m,hn,hl⟩:=I.loc;refine⟨m,ns m hn,fun i x v e1 e2 e3=>?_⟩;obtain⟨u,r,l⟩:=hl i x v e1 e2 e3;refine⟨u,r,?_⟩;rcases l with l|⟨k,c,e,z⟩
  ·exact .inl l
  ·exact .inr ⟨k,c,e,cellK x c e _ z⟩
 ·obtain⟨v,z⟩:=I.cell x c e;exact⟨v,cellK x c e v z⟩
 ·obtain⟨m,⟨o,_,_,ho,_⟩,_⟩:=I.loc;exact free _ o (fun z=>(hch _ z).2.1 rfl) ho I.free
 ·obtain⟨v,o,ho,hd⟩:=I.cell x c e;exact free c o (fun z=>(hch c z).2.2.1 x c e rfl) ho (I.freeC x c e)
 ·obtain⟨e,n,ne,nf,d⟩:=I.pin p hp;have nch:p.1∉ch:=fun z=>(hch p.1 z).2.2.2 p hp rfl
  exact⟨keep p.1 p.2 ne nf nch e n,free p.1 p.2 nch e n,ne,nf,d⟩
theorem Inv.un{t':Nat}(I:Inv X pins σ H s)(u:Un X.fs [] H H' s.heap h')(hok:HOk X.prog X.w H' h'):Inv X pins σ H' { s with heap:=h',toks:=t' }:=by
 obtain⟨m,⟨o,es,ep,ho,r⟩,_⟩:=id I.loc;obtain⟨sl,hL⟩:=u.any ho I.free (by simp);exact I.step (g':=s.gens) (d':=s.drawn) (ch:=[]) (fun _ z=>nomatch z) (fun b o _ hb _ e n=>u.keep b o e n hb (by simp)) (fun b o _ hb _ e n=>u.slot b o e n hb (by simp)) (fun b o _ e n=>u.free b o e n (by simp)) (fun b o _ e=>u.there b o e (by simp)) u.tups u.frzs u.tbls (fun m' hm=>by
  obtain⟨o',es',ep',ho',r'⟩:=hm;rw[ho] at ho';cases ho'
  exact⟨_,es',ep',hL,r'⟩) hok I.bare
theorem Inv.call{g':Array GenState}{t':Nat}{d':Drawn}{ch:List Addr}(I:Inv X pins σ H s)(u:Un (frs X.stack) ch H H' s.heap h')(hok:HOk X.prog X.w H' h')(hg:AllBare g')
  (hch:∀ b∈ch,(b∈X.ex\/X.s₀.heap.objs.size<=b)/\b≠X.env.locals/\(∀ x c,X.env.cells.lookup x=some c->c≠b)/\∀ p∈X.pn++pins,p.1≠b) :
  Inv X pins σ H' { s with heap:=h',gens:=g',drawn:=d',toks:=t' }:=by
 obtain⟨m,⟨o,es,ep,ho,r⟩,_⟩:=id I.loc;obtain⟨sl,hL⟩:=u.any ho I.free fun z=>(hch _ z).2.1 rfl
 exact I.step (ch:=ch) hch (fun b o hL hb hc e n=>u.keep b o e n (fun z=>(List.mem_cons.mp (I.stkSub b z)).elim hL hb) hc) (fun b o _ _ hc e n=>u.any e n hc) (fun b o hc e n=>u.free b o e n hc) (fun b o hc e=>u.there b o e hc) u.tups u.frzs u.tbls (fun m' hm=>by
  obtain⟨o',es',ep',ho',r'⟩:=hm;rw[ho] at ho';cases ho'
  exact⟨_,es',ep',hL,r'⟩) hok hg
theorem Inv.turned{t':Nat}{it:Addr}(I:Inv X pins σ H s)(k:∀ b o,b≠it->s.heap.get? b=some o->h'.get? b=some o)(hn:H it=none)(hL:it≠X.env.locals)
  (h1:it∈X.ex\/X.s₀.heap.objs.size<=it) (h2:∀ x c,X.env.cells.lookup x=some c->c≠it) (h3:∀ p∈X.pn++pins,p.1≠it):Inv X pins σ H { s with heap:=h',toks:=t' }:=by
 have nit:∀ b u,H b=some u->b≠it:=fun b u e z=>by rw[z,hn] at e;cases e
 refine I.step (g':=s.gens) (d':=s.drawn) (ch:=[it]) (fun b hb=>?_) (fun b o _ _ hc e _=>k b o (fun z=>hc (by simp[z])) e) (fun b o _ _ hc e _=>⟨o.slots,k b o (fun z=>hc (by simp[z])) e⟩) (fun _ _ _ _ n=>n)
  (fun b o hc e=>⟨o,k b o (fun z=>hc (by simp[z])) e⟩) (fun _ _ e=>e) (fun _ _ _ e=>e) (fun b ps e=>⟨#[],by rw[e];simp⟩) (fun m hm=>?_) (fun b u e=>?_) I.bare
 ·have e:b=it:=by simpa using hb
  subst e;exact⟨h1,hL,h2,h3⟩
 ·obtain⟨o,es,ep,ho,r⟩:=hm;exact⟨o,es,ep,k _ o (Ne.symm hL) ho,r⟩
 ·refine (I.hok b u e).stay (fun c v hc q=>k c v ?_ q) (fun _ q=>q) fun _ _ q=>q
  rcases hc with z|z
  ·rw[z];exact nit b u e
  ·exact nit c _ z
theorem Inv.tok(I:Inv X pins σ H s)(t:Nat):Inv X pins σ H { s with toks:=t }:=I.un (h':=s.heap) (t':=t) Un.refl I.hok
theorem Inv.kept{t':Nat}(I:Inv X pins σ H s)(k:∀ b u,s.heap.get? b=some u->h'.get? b=some u):Inv X pins σ H { s with heap:=h',toks:=t' }:=I.un (Un.kept k) (I.hok.kept k)
theorem Inv.laid{a:Addr}{o:HO}{t':Nat}(I:Inv X pins σ H s)(k:∀ b u,s.heap.get? b=some u->h'.get? b=some u)(hp:s.heap.objs.size<=a)(new:ObjOk X.prog X.w (upd H a o) h' a o) :
  Inv X pins σ (upd H a o) { s with heap:=h',toks:=t' }:=I.un (Un.laid k hp (I.hok.fresh hp)) (I.hok.laid k hp new)
theorem Inv.write{x e:Addr}{o:HO}{t':Nat}(I:Inv X pins σ H s)(mu:Mut (H x))(he:e=x\/H e=some (.own x))(k:∀ b u,b≠e->s.heap.get? b=some u->h'.get? b=some u)(heo:∃ u,h'.get? e=some u)
  (new:ObjOk X.prog X.w (upd H x o) h' x o):Inv X pins σ (upd H x o) { s with heap:=h',toks:=t' }:=I.un (Un.write mu he k heo) (I.hok.write mu he k heo new)
theorem Inv.pins_of{pins':List (Addr×Obj)}(I:Inv X pins σ H s)(h:∀ p∈pins',s.heap.get? p.1=some p.2/\H p.1=none/\p.1≠X.env.locals/\p.1∉X.fs/\∀ v,p.2.data≠.cell v):Inv X pins' σ H s :=
 ⟨I.ok,I.os,I.bare,I.base,I.loc,I.cell,I.free,I.freeC,fun p hp=>(List.mem_append.mp hp).elim (fun z=>I.pin p (List.mem_append_left _ z)) (h p),I.hok,I.len⟩
theorem jkg{N:List Str}(hN:N.Nodup){i j:Nat}{x:Str}(a:N[i]? = some x)(b:N[j]? = some x):i=j:=by
 obtain⟨h1,e1⟩:=zbb.mp a;obtain⟨h2,e2⟩:=zbb.mp b;exact (List.getElem_inj hN).mp (e1.trans e2.symm)
theorem jru{M:Model}{A:Around}{E:Value->Shared->Prop}{i:Nat}{x:Str}{v:V}{u:Value}{Q:Unit->Shared->Prop}(I:Inv X pins σ H s)(hN:X.N.Nodup)(hi:X.N[i]? = some x)(hx:Loc X.env.scope x)(r:RelV v u)
  (h:∀ s',Inv X pins (σ.set i (some v)) H s'->(∃ a,Heap.SameBut a s.heap s'.heap/\(a=X.env.locals\/X.env.cells.lookup x=some a))->Q () s') (hf:autoParam (X.fn x=true\/X.env.scope.names.lookup x=some .local) zau0._auto_1):wpAny M A (storeName X.env x u) Q E s:=by
 obtain⟨m,hn,hl⟩:=id I.loc;have hcls:(X.env.scope.kind == .class || (X.env.scope.kind == .module&&X.env.locals != X.env.globals))=false:=by rw[I.ok.kind];rfl
 have hiσ:i<σ.length:=by rw[I.len];exact (zbb.mp hi).1
 have cne:=I.cne;have tracked:∀ {a:Addr} {h':Heap},(∃ o,s.heap.get? a=some o/\H a=none)->Heap.SameBut a s.heap h'->HOk X.prog X.w H h':=fun {a h'} ha hs b ob e=>by
  obtain⟨_,_,hfree⟩:=ha;refine (I.hok b ob e).stay (fun c w' hc q=>(hs.2 c ?_).trans q) (fun _ q=>q) fun _ _ q=>q
  rintro rfl;rcases hc with rfl|hc
  ·rw[hfree] at e;cases e
  ·rw[hfree] at hc;cases hc
 rcases hx with hk|hk
 ·refine wpAny_storeName_local hk hn (fun h' hn' hs=>?_) hcls;obtain⟨oL,_,_,hoL,_⟩:=id hn;refine h _ ⟨I.ok,I.os,I.bare,⟨fun b o e n hb hx=>?_,fun b o e n hb hx=>?_,I.base.free,fun b o e hx=>?_,I.base.tups,I.base.frzs,I.base.tbls⟩,⟨_,hn',fun j y v' e1 e2 e3=>?_⟩,fun y c e=>?_,I.free,I.freeC,fun p hp=>?_,tracked ⟨oL,hoL,I.free⟩ hs,by simpa using I.len⟩ ⟨_,hs,.inl rfl⟩
  ·exact (hs.2 b (zcv (zcx (zbv e) I.ok.above))).trans (I.base.keep b o e n hb hx)
  ·obtain⟨sl,e1⟩:=I.base.slot b o e n hb hx;exact⟨sl,(hs.2 b (zcv (zcx (zbv e) I.ok.above))).trans e1⟩
  ·obtain⟨o',e1⟩:=I.base.there b o e hx;exact⟨o',(hs.2 b (zcv (zcx (zbv e) I.ok.above))).trans e1⟩
  ·by_cases hj:j=i
   ·subst hj;rw[hi] at e1;cases e1
    rw[zcz hiσ] at e2;cases e2;exact⟨u,r,.inl ⟨hk,by simp⟩⟩
   ·rw[zbw (Ne.symm hj)] at e2;obtain⟨u',r',q⟩:=hl j y v' e1 e2 e3;refine⟨u',r',?_⟩;rcases q with ⟨k,e⟩|⟨k,c,e,z⟩
    ·refine .inl ⟨k,?_⟩;have:y≠x:=fun e=>hj (jkg hN e1 (e ▸ hi))
     simp[this,e]
    ·exact .inr ⟨k,c,e,z.sameBut hs (cne y c e)⟩
  ·obtain⟨w',z⟩:=I.cell y c e;exact⟨w',z.sameBut hs (cne y c e)⟩
  ·obtain⟨e,n,ne,nf,d⟩:=I.pin p hp;exact⟨(hs.2 p.1 ne).trans e,n,ne,nf,d⟩
 ·have hfn:X.fn x=true:=by
   rcases hf with z|z
   ·exact z
   ·rw[z] at hk;cases hk
  obtain⟨c,hc⟩:=I.ok.has x (.inl hk);obtain⟨w',z⟩:=I.cell x c hc;refine wpAny_storeName_cell I.ok.kind hk hc z (fun h' hc' hs=>?_);obtain⟨oc,hoc,hocd⟩:=id z;refine h { s with heap:=h' } ⟨I.ok,I.os,I.bare,⟨fun b o e n hb hx=>?_,fun b o e n hb hx=>?_,I.base.free,fun b o e hx=>?_,I.base.tups,I.base.frzs,I.base.tbls⟩,⟨m,hn.sameBut hs (Ne.symm (cne x c hc)),fun j y v' e1 e2 e3=>?_⟩,fun y c' e=>?_,I.free,I.freeC,fun p hp=>?_,tracked ⟨oc,hoc,I.freeC x c hc⟩ hs,by simpa using I.len⟩ ⟨c,hs,.inr hc⟩
  ·exact (hs.2 b (zcv (zcx (zbv e) (I.ok.cab x c hfn hc)))).trans (I.base.keep b o e n hb hx)
  ·obtain⟨sl,e1⟩:=I.base.slot b o e n hb hx;exact⟨sl,(hs.2 b (zcv (zcx (zbv e) (I.ok.cab x c hfn hc)))).trans e1⟩
  ·obtain⟨o',e1⟩:=I.base.there b o e hx;exact⟨o',(hs.2 b (zcv (zcx (zbv e) (I.ok.cab x c hfn hc)))).trans e1⟩
  ·by_cases hj:j=i
   ·subst hj;rw[hi] at e1;cases e1
    rw[zcz hiσ] at e2;cases e2;exact⟨u,r,.inr ⟨.inl hk,c,hc,hc'⟩⟩
   ·rw[zbw (Ne.symm hj)] at e2;obtain⟨u',r',q⟩:=hl j y v' e1 e2 e3;refine⟨u',r',?_⟩;rcases q with q|⟨k,c',e,z'⟩
    ·exact .inl q
    ·refine .inr ⟨k,c',e,z'.sameBut hs ?_⟩;rintro rfl;exact hj (jkg hN e1 (I.ok.inj _ _ _ e hc ▸ hi))
  ·by_cases hcc:c'=c
   ·subst hcc;exact⟨_,hc'⟩
   ·obtain⟨w2,z2⟩:=I.cell y c' e;exact⟨w2,z2.sameBut hs hcc⟩
  ·obtain⟨e,n,ne,nf,d⟩:=I.pin p hp;refine⟨(hs.2 p.1 ?_).trans e,n,ne,nf,d⟩;intro q;rw[q,hoc] at e;have q':oc=p.2:=zby e;exact d w' (by rw[<- q'];exact hocd)
theorem jh0{M:Model}{A:Around}{E:Value->Shared->Prop}{i:Nat}{x:Str}{v:V}{u:Value}{Q:Unit->Shared->Prop}(I:Inv X pins σ H s)(hN:X.N.Nodup)(hi:X.N[i]? = some x)(hx:Loc X.env.scope x)(r:RelV v u)
  (h:∀ s',Inv X pins (σ.set i (some v)) H s'->Q () s') (hf:autoParam (X.fn x=true\/X.env.scope.names.lookup x=some .local) zau0._auto_1):wpAny M A (storeName X.env x u) Q E s :=
 jru I hN hi hx r (fun s' I' _=>h s' I') hf
theorem Inv.call'{s':Shared}{ch:List Addr}(I:Inv X pins σ H s)(ho:s'.os=s.os)(u:Un (frs X.stack) ch H H' s.heap s'.heap)(hok:HOk X.prog X.w H' s'.heap)(hg:AllBare s'.gens)
  (hch:∀ b∈ch,(b∈X.ex\/X.s₀.heap.objs.size<=b)/\b≠X.env.locals/\(∀ x c,X.env.cells.lookup x=some c->c≠b)/\∀ p∈X.pn++pins,p.1≠b):Inv X pins σ H' s':=by
 obtain⟨h',g',d',t',o'⟩:=s';have e:o'=s.os:=ho;subst e;exact I.call (g':=g') (t':=t') (d':=d') u hok hg hch
end
noncomputable abbrev XK:=Value->Option Addr->Hp->Prop
noncomputable abbrev St:=List (Option V)
noncomputable abbrev VK:=V->Hp->Prop
noncomputable abbrev TE:=St->Hp->VK->Prop
noncomputable abbrev TT:=St->Hp->(Bool->Hp->Prop)->Prop
noncomputable abbrev TA:=St->Hp->(List V->Hp->Prop)->Prop
structure Ends where
 nx:St->Hp->Prop
 rt:VK
 bk:St->Hp->Prop:=fun _ _=>False
 ct:St->Hp->Prop:=fun _ _=>False
noncomputable abbrev TS:=Ends->St->Hp->Prop
inductive EP(X:Cx)(pins:List (Addr×Obj))(σ:St)(Q:VK)(u:Value)(s':Shared):Prop
 | mk (v:V) (H':Hp) (h0:Inv X pins σ H' s') (h1:RelV v u) (h2:Q v H')
inductive TP(X:Cx)(pins:List (Addr×Obj))(σ:St)(Q:Bool->Hp->Prop)(b:Bool)(s':Shared):Prop
 | mk (H':Hp) (h0:Inv X pins σ H' s') (h1:Q b H')
inductive AP(X:Cx)(pins:List (Addr×Obj))(σ:St)(Q:List V->Hp->Prop)(us:List Value)(s':Shared):Prop
 | mk (vs:List V) (H':Hp) (h0:Inv X pins σ H' s') (h1:Vals vs us) (h2:Q vs H')
inductive SN(X:Cx)(pins:List (Addr×Obj))(Q:St->Hp->Prop)(s':Shared):Prop
 | mk (σ':St) (H':Hp) (hI:Inv X pins σ' H' s') (hq:Q σ' H')
inductive SR(X:Cx)(pins:List (Addr×Obj))(R:VK)(u:Value)(s':Shared):Prop
 | mk (v:V) (σ':St) (H':Hp) (hI:Inv X pins σ' H' s') (hr:RelV v u) (hq:R v H')
noncomputable def SP(X:Cx)(pins:List (Addr×Obj))(D:Ends)(f:Flow)(s':Shared):Prop :=
 match f with
 | .next=>SN X pins D.nx s'
 | .brk=>SN X pins D.bk s'
 | .cont=>SN X pins D.ct s'
 | .ret u=>SR X pins D.rt u s'
noncomputable def PE(X:Cx)(e:Expr)(t:TE):Prop :=
 ∀ (pins:List (Addr×Obj)) (s:Shared) (σ:St) (H:Hp) (Q:VK),Inv X pins σ H s->t σ H Q->wpAny (model X.prog X.w) X.A (eval e X.env) (EP X pins σ Q) X.xe s
noncomputable def PT(X:Cx)(e:Expr)(t:TT):Prop :=
 ∀ (pins:List (Addr×Obj)) (s:Shared) (σ:St) (H:Hp) (Q:Bool->Hp->Prop),Inv X pins σ H s->t σ H Q->wpAny (model X.prog X.w) X.A (isTrue e X.env (eval e X.env)) (TP X pins σ Q) X.xe s
noncomputable def PW(X:Cx)(e:Expr)(t:TT):Prop :=
 ∀ (whole:Sem Value) (pins:List (Addr×Obj)) (s:Shared) (σ:St) (H:Hp) (Q:Bool->Hp->Prop),Inv X pins σ H s->t σ H Q->wpAny (model X.prog X.w) X.A (isTrue e X.env whole) (TP X pins σ Q) X.xe s
theorem PW.pt{X:Cx}{e:Expr}{t:TT}(h:PW X e t):PT X e t:=h _
noncomputable def PA(X:Cx)(es:List Expr)(t:TA):Prop :=
 ∀ (pos:Pos) (pins:List (Addr×Obj)) (s:Shared) (σ:St) (H:Hp) (Q:List V->Hp->Prop),Inv X pins σ H s->t σ H Q->wpAny (model X.prog X.w) X.A (spliced (backTo pos (starEach es X.env))) (AP X pins σ Q) X.xe s
noncomputable def PS(X:Cx)(st:Stmt)(t:TS):Prop :=
 ∀ (pins:List (Addr×Obj)) (s:Shared) (σ:St) (H:Hp) (D:Ends),Inv X pins σ H s->t D σ H->wpAny (model X.prog X.w) X.A (exec st X.env) (SP X pins D) X.xe s
noncomputable def PSs(X:Cx)(st:List Stmt)(t:TS):Prop :=
 ∀ (pins:List (Addr×Obj)) (s:Shared) (σ:St) (H:Hp) (D:Ends),Inv X pins σ H s->t D σ H->wpAny (model X.prog X.w) X.A (execs st X.env) (SP X pins D) X.xe s
theorem thn{α:Type}{t:Sem α}{Q Q':α->Shared->Prop}{M:Model}{A:Around}{E:Value->Shared->Prop}{s:Shared}(h:wpAny M A t Q E s)(hQ:∀ a s,Q a s->Q' a s):wpAny M A t Q' E s:=wpAny_mono h hQ fun _ _ x=>x
section
variable {X:Cx}
noncomputable def tVar(i:Nat):TE:=fun σ H Q=>∃ v,σ[i]? = some (some v)/\Q v H
noncomputable def tC(v:V):TE:=fun _ H Q=>Q v H
theorem jnt{i:Nat}{x:Str}{pos:Pos}(hN:X.N[i]? = some x)(hv:Vis X.env.scope x)(hd:autoParam ((x == ("__debug__":Str))=false) zau1._auto_1)(hcd:autoParam ((x == ("__classdict__":Str))=false) zau1._auto_1):PE X (.Name x pos) (tVar i):=by
 intro pins s σ H Q I h;obtain⟨v,e,h⟩:=h;obtain⟨m,hn,hl⟩:=I.loc;obtain⟨u,r,l⟩:=hl i x v hN e hv;have fin:EP X pins σ Q u s:=⟨v,H,I,r,h⟩
 rcases l with ⟨hk,hm⟩|⟨hk,c,hc,hcell⟩
 ·exact wpAny_Name (wpAny_loadName_local I.ok.kind hk hn hm fin) hd
 ·rcases hk with hk|hk
  ·exact wpAny_Name (wpAny_loadName_cell I.ok.kind hk hc hcell fin) hd
  ·exact wpAny_Name (wpAny_loadName_free I.ok.kind hk hc hcell fin hcd) hd
theorem jAa{i j pos}:PE X (.Constant (.int i) j pos) (tC (.int i)):=fun _ _ _ H _ I h=>wpAny_Constant_int ⟨.int i,H,I.tok _,⟨_,rfl⟩,h⟩
theorem jCl{b j pos}:PE X (.Constant (.bool b) j pos) (tC (.bl b)):=fun _ _ _ H _ I h=>Constant_bool ⟨.bl b,H,I,rfl,h⟩
theorem jAb{j pos}:PE X (.Constant .none j pos) (tC .non):=fun _ _ _ H _ I h=>Constant_none ⟨.non,H,I,rfl,h⟩
theorem jAd{x j pos}:PE X (.Constant (.str x) j pos) (tC (.str x)):=fun _ _ _ H _ I h=>Calls.Constant_str ⟨.str x,H,I.tok _,⟨_,rfl⟩,h⟩
noncomputable def Gl(X:Cx)(x:Str):Prop:=X.env.kindOf x=some .globalImplicit
theorem jg6{E:Value->Shared->Prop}{pins:List (Addr×Obj)}{s:Shared}{σ:St}{H:Hp}{x:Str}{u:Value}{pos:Pos}{Q:Value->Shared->Prop}(I:Inv X pins σ H s)(hg:Gl X x)(hm:X.mg x=some u)(h:Q u s)
  (hd:autoParam ((x == ("__debug__":Str))=false) zau1._auto_1):wpAny (model X.prog X.w) X.A (eval (.Name x pos) X.env) Q E s :=
 Calls.Name_function_global I.ok.kind hg (Calls.loadGlobal_global (by rw[I.ok.glob];exact I.mod.glob.keeps I.bk) hm h) hd
theorem jji{E:Value->Shared->Prop}{pins:List (Addr×Obj)}{s:Shared}{σ:St}{H:Hp}{x:Str}{u:Value}{pos:Pos}{Q:Value->Shared->Prop}(I:Inv X pins σ H s)(hg:Gl X x)(hm:X.mg x=none)(hv:bootBuiltins x=some u)(h:Q u s)
  (hn:autoParam (x≠"__name__") zau1._auto_1) (hd:autoParam ((x == ("__debug__":Str))=false) zau1._auto_1):wpAny (model X.prog X.w) X.A (eval (.Name x pos) X.env) Q E s:=by
 obtain⟨mb,h1,h2⟩:=I.mod.blt;exact Calls.Name_function_global I.ok.kind hg (Calls.loadGlobal_builtin (by rw[I.ok.glob];exact I.mod.glob.keeps I.bk) hm (by rw[I.ok.blt];exact h1.keeps I.bk) ((h2 x hn).trans hv) h) hd
theorem jmn{x:Str}{v:V}{u:Value}{pos:Pos}(hg:Gl X x)(hm:X.mg x=some u)(r:RelV v u)(hd:autoParam ((x == ("__debug__":Str))=false) zau1._auto_1):PE X (.Name x pos) (tC v) :=
 fun _ _ _ H _ I h=>jg6 I hg hm ⟨v,H,I,r,h⟩ hd
theorem jw3{x:Str}{v:V}{u:Value}{pos:Pos}(hg:Gl X x)(hm:X.mg x=none)(hv:bootBuiltins x=some u)(r:RelV v u)(hn:autoParam (x≠"__name__") zau1._auto_1)(hd:autoParam ((x == ("__debug__":Str))=false) zau1._auto_1):PE X (.Name x pos) (tC v) :=
 fun _ _ _ H _ I h=>jji I hg hm hv ⟨v,H,I,r,h⟩ hn hd
variable {a b:Expr}{ta tb:TE}{pos:Pos}
noncomputable def tB(t:TE):TT:=fun σ H Q=>t σ H fun x H1=>∃ c,x=.bl c/\Q c H1
variable {tA tB':TT}{rest:List Expr}
noncomputable def tAnd(t u:TT):TT:=fun σ H Q=>t σ H fun c H1=>if c=true then u σ H1 Q else Q false H1
noncomputable def tOr(t u:TT):TT:=fun σ H Q=>t σ H fun c H1=>if c=true then Q true H1 else u σ H1 Q
noncomputable def tNot(t:TT):TT:=fun σ H Q=>t σ H fun c H1=>Q (!c) H1
theorem jrf(ha:PT X a tA):PW X (.BoolOp .And [a] pos) tA:=by
 intro wh pins s σ H Q I h;refine isTrue_and (thn (ha pins s σ H Q I h) fun c s1 e=>?_)
 cases c with
 | true=>exact isTrue_and_nil e
 | false=>exact e
theorem jAl(ha:PT X a tA):PW X (.BoolOp .Or [a] pos) tA:=by
 intro wh pins s σ H Q I h;refine isTrue_or (thn (ha pins s σ H Q I h) fun c s1 e=>?_)
 cases c with
 | false=>exact isTrue_or_nil e
 | true=>exact e
theorem ju3(ha:PT X a tA)(hb:PW X (.BoolOp .And (b::rest) pos) tB'):PW X (.BoolOp .And (a::b::rest) pos) (tAnd tA tB'):=by
 intro wh pins s σ H Q I h;refine isTrue_and (thn (ha pins s σ H _ I h) fun c s1 hzz=>?_);obtain⟨H1,I1,q1⟩:=hzz
 cases c with
 | true=>exact hb wh pins s1 σ H1 Q I1 q1
 | false=>exact⟨H1,I1,q1⟩
theorem jCp(ha:PT X a tA)(hb:PW X (.BoolOp .Or (b::rest) pos) tB'):PW X (.BoolOp .Or (a::b::rest) pos) (tOr tA tB'):=by
 intro wh pins s σ H Q I h;refine isTrue_or (thn (ha pins s σ H _ I h) fun c s1 hzz=>?_);obtain⟨H1,I1,q1⟩:=hzz
 cases c with
 | true=>exact⟨H1,I1,q1⟩
 | false=>exact hb wh pins s1 σ H1 Q I1 q1
theorem ju2(ha:PT X a tA):PT X (.UnaryOp .Not a pos) (tNot tA):=by
 intro pins s σ H Q I h;exact isTrue_not (thn (ha pins s σ H (fun c H1=>Q (!c) H1) I h) fun c s1 z=>z.casesOn fun H1 I1 q1=>⟨H1,I1,q1⟩)
noncomputable def jCz(ta tb:TE):TE:=fun σ H Q=>ta σ H fun x H1=>∃ c,x=.bl c/\if c=true then tb σ H1 Q else Q (.bl false) H1
noncomputable def jC4(ta:TE):TE:=fun σ H Q=>ta σ H fun x H1=>∃ c,x=.bl c/\Q (.bl (!c)) H1
theorem juz{op}{t:TE}(h:PE X a t):PE X (.BoolOp op [a] pos) t:=fun pins s σ H Q I hw=>BoolOp_one (h pins s σ H Q I hw)
theorem juy(ha:PE X a ta)(hb:PE X (.BoolOp .And (b::rest) pos) tb):PE X (.BoolOp .And (a::b::rest) pos) (jCz ta tb):=by
 intro pins s σ H Q I h;refine BoolOp_and (thn (ha pins s σ H _ I h) fun v s1 hzz=>?_);obtain⟨x,H1,I1,r1,q1⟩:=hzz;obtain⟨c,rfl,q1⟩:=q1;cases r1;refine wpAny_truthy_bool ?_
 cases c with
 | true=>exact hb pins s1 σ H1 Q I1 q1
 | false=>exact⟨.bl false,H1,I1,rfl,q1⟩
theorem jAc(ha:PE X a ta):PE X (.UnaryOp .Not a pos) (jC4 ta):=by
 intro pins s σ H Q I h;refine UnaryOp_ (thn (ha pins s σ H _ I h) fun v s1 hzz=>?_);obtain⟨x,H1,I1,r1,q1⟩:=hzz;obtain⟨c,rfl,q1⟩:=q1;cases r1;exact not_of (wpAny_truthy_bool ⟨.bl (!c),H1,I1,rfl,q1⟩)
end
noncomputable def SqL(K:W.Frag)(H:Hp)(a:Addr)(xs:List V):Prop :=
 Rd H a (.lst xs) \/
  ∃ (o:Obj) (its:Array Value) (n:Nat),K.lookup a=some o/\o.cls=.type "list"/\o.dict=none/\o.data=.seq its n/\its.size<=sizeLine/\Vals xs its.toList
noncomputable def SqT(K:W.Frag)(H:Hp)(a:Addr)(xs:List V):Prop :=
 Rd H a (.tup xs) \/
  ∃ (o:Obj) (its:Array Value) (n:Nat),K.lookup a=some o/\o.cls=.type "tuple"/\o.data=.seq its n/\its.size<=sizeLine/\Vals xs its.toList
noncomputable def absV:Value->Option V
 | .none=>some .non
 | .bool b=>some (.bl b)
 | .int i _=>some (.int i)
 | .str x _=>some (.str x)
 | .bytes b _=>some (.byt b)
 | .float b _=>some (.flt b)
 | .ref a=>some (.ref a)
 | .type n=>some (.ty n)
 | _=>none
theorem RelV.abs{x:V}{u:Value}(r:RelV x u):absV u=some x:=by
 cases x with
 | non=>cases r;rfl
 | bl _=>cases r;rfl
 | int _=>obtain⟨t,rfl⟩:=r;rfl
 | str _=>obtain⟨t,rfl⟩:=r;rfl
 | byt _=>obtain⟨t,rfl⟩:=r;rfl
 | flt _=>obtain⟨t,rfl⟩:=r;rfl
 | ref _=>cases r;rfl
 | ty _=>cases r;rfl
theorem RelV.inj{x y:V}{u:Value}(r:RelV x u)(q:RelV y u):x=y:=zby (r.abs.symm.trans q.abs)
theorem Vals.inj:∀ {xs ys:List V} {us:List Value},Vals xs us->Vals ys us->xs=ys
 | _,_,_,.nil,.nil=>rfl
 | _,_,_,.cons r t,.cons r' t'=>by rw[r.inj r',Vals.inj t t']
section
variable {X:Cx}{pins:List (Addr×Obj)}{σ:St}{H:Hp}{s:Shared}{a:Addr}{xs ys:List V}
theorem SqL.of{K:W.Frag}(h:H a=some (.lst xs)):SqL K H a xs:=.inl (.inl h)
theorem SqT.of{K:W.Frag}(h:H a=some (.tup xs)):SqT K H a xs:=.inl (.inl h)
theorem Inv.list(I:Inv X pins σ H s)(h:SqL X.K H a xs):∃ its:List Value,Vals xs its/\PlainL s.heap a its.toArray/\xs.length<=sizeLine:=by
 rcases h with h|⟨o,its,n,hk,hc,hd,hs,hz,r⟩
 ·obtain⟨z,its,n,r,e⟩:=h.ok I.hok;exact⟨its,r,⟨_,n,e,rfl,rfl,rfl⟩,z⟩
 ·refine⟨its.toList,r,⟨o,n,I.kIn a o hk,hc,hd,by simpa using hs⟩,?_⟩;have e:=r.length;simp only[Array.length_toList] at e;omega
theorem Inv.tuple(I:Inv X pins σ H s)(h:SqT X.K H a xs):∃ its:List Value,Vals xs its/\IsTup s.heap a its.toArray/\xs.length<=sizeLine:=by
 rcases h with h|⟨o,its,n,hk,hc,hs,hz,r⟩
 ·obtain⟨z,its,r,p⟩:=h.ok I.hok;exact⟨its,r,p,z⟩
 ·refine⟨its.toList,r,⟨o,I.kIn a o hk,hc,n,by simpa using hs⟩,?_⟩;have e:=r.length;simp only[Array.length_toList] at e;omega
theorem Inv.list_inj(I:Inv X pins σ H s)(h:SqL X.K H a xs)(h':SqL X.K H a ys):xs=ys:=by
 obtain⟨its,r,⟨o,n,e,_,_,d⟩,_⟩:=I.list h;obtain⟨its',r',⟨o',n',e',_,_,d'⟩,_⟩:=I.list h';rw[e] at e';cases e'
 rw[d] at d';injection d' with d1 _
 have:its=its':=by simpa using congrArg Array.toList d1
 subst this;exact r.inj r'
theorem Inv.tuple_inj(I:Inv X pins σ H s)(h:SqT X.K H a xs)(h':SqT X.K H a ys):xs=ys:=by
 obtain⟨its,r,⟨o,e,_,n,d⟩,_⟩:=I.tuple h;obtain⟨its',r',⟨o',e',_,n',d'⟩,_⟩:=I.tuple h';rw[e] at e';cases e'
 rw[d] at d';injection d' with d1 _
 have:its=its':=by simpa using congrArg Array.toList d1
 subst this;exact r.inj r'
end
noncomputable abbrev Cx.wish(X:Cx)(E:Value->Shared->Prop):Cx:={ X with xe:=E }
noncomputable abbrev Cx.nox(X:Cx):Cx:=X.wish fun _ _=>False
theorem Cx.Ok.wish{X:Cx}(ok:X.Ok)(E:Value->Shared->Prop):(X.wish E).Ok :=
 ⟨ok.mod,ok.kind,ok.glob,ok.blt,ok.above,ok.inj,ok.has,ok.cab,ok.hd,ok.frames,ok.stk,ok.exf,ok.bs,ok.bsz,ok.noex,ok.exfs,ok.funs,ok.frf⟩
theorem Cx.Ok.unwish{X:Cx}{E:Value->Shared->Prop}(ok:(X.wish E).Ok):X.Ok :=
 ⟨ok.mod,ok.kind,ok.glob,ok.blt,ok.above,ok.inj,ok.has,ok.cab,ok.hd,ok.frames,ok.stk,ok.exf,ok.bs,ok.bsz,ok.noex,ok.exfs,ok.funs,ok.frf⟩
section
variable {X:Cx}{pins:List (Addr×Obj)}{σ:St}{H:Hp}{s:Shared}{E:Value->Shared->Prop}
theorem Inv.wish(I:Inv X pins σ H s)(E:Value->Shared->Prop):Inv (X.wish E) pins σ H s:=⟨I.ok.wish E,I.os,I.bare,I.base,I.loc,I.cell,I.free,I.freeC,I.pin,I.hok,I.len⟩
theorem Inv.unwish(I:Inv (X.wish E) pins σ H s):Inv X pins σ H s:=⟨I.ok.unwish,I.os,I.bare,I.base,I.loc,I.cell,I.free,I.freeC,I.pin,I.hok,I.len⟩
theorem SP.unwish{D:Ends}{f:Flow}{s':Shared}(h:SP (X.wish E) pins D f s'):SP X pins D f s':=by
 cases f with
 | next=>obtain⟨σ',H',I,q⟩:=h;exact⟨σ',H',I.unwish,q⟩
 | brk=>obtain⟨σ',H',I,q⟩:=h;exact⟨σ',H',I.unwish,q⟩
 | cont=>obtain⟨σ',H',I,q⟩:=h;exact⟨σ',H',I.unwish,q⟩
 | ret u=>obtain⟨v,σ',H',I,r,q⟩:=h;exact⟨v,σ',H',I.unwish,r,q⟩
theorem PSs.nox{st:List Stmt}{t:TS}(h:PSs X.nox st t):PSs X st t:=fun pins s σ H D I hw =>
 wpAny_mono (h pins s σ H D (I.wish _) hw) (fun _ _ q=>q.unwish) fun _ _ z=>False.elim z
end
section
variable {X:Cx}{st:Stmt}{rest:List Stmt}{t u:TS}{e:Expr}{te:TE}{pos:Pos}
noncomputable def jC3:TS:=fun D σ H=>D.nx σ H
noncomputable def tSeq(t u:TS):TS:=fun D σ H=>t { D with nx:=u D } σ H
theorem jre:PSs X [] jC3:=fun _ _ σ H _ I h=>wpAny_execs_nil ⟨σ,H,I,h⟩
theorem jkk(h1:PS X st t)(h2:PSs X rest u):PSs X (st::rest) (tSeq t u):=by
 intro pins s σ H D I h;refine wpAny_execs_cons (thn (h1 pins s σ H { D with nx:=u D } I h) fun f s1 q=>?_)
 cases f with
 | next =>
  obtain⟨σ',H',I',q⟩:=q;exact h2 pins s1 σ' H' D I' q
 | ret v=>exact q
 | brk=>exact q
 | cont=>exact q
theorem jis(h1:PS X st t):PSs X [st] t:=by
 intro pins s σ H D I h;refine wpAny_execs_cons (thn (h1 pins s σ H D I h) fun f s1 q=>?_)
 cases f with
 | next=>exact wpAny_execs_nil q
 | ret v=>exact q
 | brk=>exact q
 | cont=>exact q
theorem Inv.quiet{pins:List (Addr×Obj)}{σ:St}{H:Hp}{s:Shared}(I:Inv X pins σ H s):interactive X.env=false:=by simp[interactive,I.ok.kind]
noncomputable def jAx(te:TE):TS:=fun D σ H=>te σ H fun _ H1=>D.nx σ H1
theorem jmp(he:PE X e te)(hs:autoParam (swapsWith e none pos.line X.env=pure false) zau2._auto_1):PS X (.Expr e pos) (jAx te):=by
 intro pins s σ H D I h;exact wpAny_Expr_any (thn (he pins s σ H _ I h) fun v s1 ⟨x,H1,I1,r1,q1⟩=>⟨σ,H1,I1,q1⟩) I.quiet hs
noncomputable def tRet(te:TE):TS:=fun D σ H=>te σ H D.rt
theorem jrd(he:PE X e te):PS X (.Return (some e) pos) (tRet te):=by
 intro pins s σ H D I h;exact wpAny_Return_some (thn (he pins s σ H _ I h) fun v s1 ⟨x,H1,I1,r1,q1⟩=>⟨x,σ,H1,I1,r1,q1⟩)
noncomputable def tIfS(c:TT)(t u:TS):TS:=fun D σ H=>c σ H fun b H1=>if b=true then t D σ H1 else u D σ H1
theorem jxc{c:Expr}{a b:List Stmt}{tc:TT}(hc:PT X c tc)(ha:PSs X a t)(hb:PSs X b u):PS X (.If c a b pos) (tIfS tc t u):=by
 intro pins s σ H D I h;refine wpAny_If (thn (hc pins s σ H _ I h) fun d s1 hzz=>?_);obtain⟨H1,I1,q1⟩:=hzz
 cases d with
 | true=>exact ha pins s1 σ H1 D I1 q1
 | false=>exact hb pins s1 σ H1 D I1 q1
end
noncomputable abbrev TG:=V->St->Hp->(St->Hp->Prop)->Prop
noncomputable abbrev TGs:=List V->St->Hp->(St->Hp->Prop)->Prop
noncomputable def PG(X:Cx)(target:Expr)(t:TG):Prop :=
 ∀ (pins:List (Addr×Obj)) (s:Shared) (σ:St) (H:Hp) (v:V) (u:Value) (Q:St->Hp->Prop),Inv X pins σ H s->RelV v u->t v σ H Q ->
  wpAny (model X.prog X.w) X.A (assign target X.env u) (fun _ s'=>SN X pins Q s') X.xe s
noncomputable def PGs(X:Cx)(ts:List Expr)(t:TGs):Prop :=
 ∀ (pins:List (Addr×Obj)) (s:Shared) (σ:St) (H:Hp) (vs:List V) (us:List Value) (Q:St->Hp->Prop),Inv X pins σ H s->Vals vs us->t vs σ H Q ->
  wpAny (model X.prog X.w) X.A (assignInOrder ((assignEach ts X.env).map (·.2)) us) (fun _ s'=>SN X pins Q s') X.xe s
noncomputable abbrev TSet:=V->V->V->Hp->(Hp->Prop)->Prop
noncomputable def PSet(X:Cx)(t:TSet):Prop :=
 ∀ (pins:List (Addr×Obj)) (s:Shared) (σ:St) (H:Hp) (o i v:V) (ov iv u:Value) (Q:Hp->Prop),Inv X pins σ H s->RelV o ov->RelV i iv->RelV v u->t o i v H Q ->
  wpAny (model X.prog X.w) X.A (setItem ov iv u) (fun _ s'=>∃ H',Inv X pins σ H' s'/\Q H') X.xe s
section
variable {X:Cx}{pos:Pos}
noncomputable def gName(i:Nat):TG:=fun v σ H Q=>Q (σ.set i (some v)) H
theorem jmo{i:Nat}{x:Str}(hN:X.N.Nodup)(hi:X.N[i]? = some x)(hx:Loc X.env.scope x)(hf:autoParam (X.fn x=true\/X.env.scope.names.lookup x=some .local) zau0._auto_1):PG X (.Name x pos) (gName i):=by
 intro pins s σ H v u Q I r h;exact wpAny_assign_Name (jh0 I hN hi hx r (fun s' I'=>⟨_,H,I',h⟩) hf)
noncomputable def gNil:TGs:=fun vs σ H Q=>vs=[]/\Q σ H
noncomputable def jB0(t:TG)(u:TGs):TGs:=fun vs σ H Q=>∃ v r,vs=v::r/\t v σ H fun σ' H'=>u r σ' H' Q
theorem jw7:PGs X [] gNil:=by
 intro pins s σ H vs us Q I r h;obtain⟨e,h⟩:=h;subst e;cases r;exact assignInOrder_nil ⟨σ,H,I,h⟩
theorem jnu{e:Expr}{es:List Expr}{t:TG}{u:TGs}(h1:PG X e t)(h2:PGs X es u)
  (hs:autoParam ((assignEach (e::es) X.env).map (·.2)=assign e X.env::(assignEach es X.env).map (·.2)) zau2._auto_1):PGs X (e::es) (jB0 t u):=by
 intro pins s σ H vs us Q I r h;obtain⟨v,vr,e1,h⟩:=h;subst e1
 cases r with
 | cons r rr =>
  rw[hs];refine assignInOrder_cons (thn (h1 pins s σ H _ _ _ I r h) fun _ s1 hzz=>?_);obtain⟨σ1,H1,I1,q1⟩:=hzz;exact h2 pins s1 σ1 H1 _ _ Q I1 rr q1
noncomputable def gTup(K:W.Frag)(n:Nat)(t:TGs):TG:=fun v σ H Q=>∃ a xs,v=.ref a/\SqT K H a xs/\xs.length=n/\t xs σ H Q
theorem jAe{es:List Expr}{k:Nat}{t:TGs}{n:Nat}(hc:X.calm=true)(h:PGs X es t)
  (hn:autoParam ((assignEach es X.env).length=n) zau2._auto_1) (hst:autoParam ((assignEach es X.env).findIdx? (·.1)=none) zau2._auto_1):PG X (.Tuple es k pos) (gTup X.K n t):=by
 intro pins s σ H v u Q I r hw;obtain⟨a,xs,e1,hq,hl,hw⟩:=hw;subst e1;cases r;obtain⟨its,rv,ht,hz⟩:=I.tuple hq;refine assign_Tuple_tuple (I.ok.hd hc) ht (by simp[hn,<- hl,rv.length]) hst fun h' hx=>?_
 have I1:Inv X pins σ H { s with heap:=h' }:=I.kept (t':=s.toks) fun b o e=>hx b o (zcv (zbv e)) e
 exact h pins _ σ H xs _ Q I1 (by simpa using rv) hw
noncomputable def gSub(to ti:TE)(t:TSet):TG:=fun v σ H Q=>to σ H fun o H1=>ti σ H1 fun i H2=>t o i v H2 fun H3=>Q σ H3
theorem ju0{o i:Expr}{to ti:TE}{t:TSet}(ho:PE X o to)(hi:PE X i ti)(hs:PSet X t)
  (ha:∀ v,assign (.Subscript o i pos) X.env v=(do
   let ov <- holding [v] (eval o X.env)
   let iv <- holding [v,ov] (eval i X.env)
   standAt pos
   holding [v,ov,iv] (setItem ov iv v)
   release [v,ov,iv] []):=by intro _;rfl):PG X (.Subscript o i pos) (gSub to ti t):=by
 intro pins s σ H v u Q I r h;rw[ha];refine zay (wpAny_holding (thn (ho pins s σ H _ I h) fun ov s1 hzz=>?_));obtain⟨x,H1,I1,r1,q1⟩:=hzz;refine zay (wpAny_holding (thn (hi pins s1 σ H1 _ I1 q1) fun iv s2 hzz=>?_));obtain⟨y,H2,I2,r2,q2⟩:=hzz;refine zay (wpAny_standAt (zay (wpAny_holding (thn (hs pins s2 σ H2 x y v ov iv u _ I2 r1 r2 r q2) fun _ s3 hzz=>?_))));obtain⟨H3,I3,q3⟩:=hzz;exact wpAny_release ⟨σ,H3,I3,q3⟩
noncomputable def tAsg(te:TE)(g:TG):TS:=fun D σ H=>te σ H fun x H1=>g x σ H1 D.nx
theorem ju1{tg e:Expr}{te:TE}{g:TG}(he:PE X e te)(hg:PG X tg g)(hs:autoParam (swapsWithSole [tg] e pos.line X.env=pure false) zau2._auto_1)(hw:autoParam (swappedStores [tg] e X.env=pure none) zau2._auto_1)
  (h1:autoParam ((assignEach [tg] X.env).map (·.2)=[assign tg X.env]) zau2._auto_1):PS X (.Assign [tg] e pos) (tAsg te g):=by
 intro pins s σ H D I h;refine wpAny_Assign_stores (thn (he pins s σ H _ I h) fun v s1 hzz=>?_) hs hw;obtain⟨x,H1,I1,r1,q1⟩:=hzz;rw[h1];exact thn (hg pins s1 σ H1 x v _ I1 r1 q1) fun _ s2 q=>q
theorem jlp{i:Nat}{x:Str}{e:Expr}{te:TE}{pos':Pos}(hN:X.N.Nodup)(hi:X.N[i]? = some x)(hx:Loc X.env.scope x)(he:PE X e te)(hs:autoParam (swapsWith e (some (.Name x pos')) pos.line X.env=pure false) zau2._auto_1)(hf:autoParam (X.fn x=true\/X.env.scope.names.lookup x=some .local) zau0._auto_1) :
  PS X (.Assign [.Name x pos'] e pos) (tAsg te (gName i)):=by
 intro pins s σ H D I h;refine wpAny_Assign_Name (thn (he pins s σ H _ I h) fun v s1 hzz=>?_) hs;obtain⟨y,H1,I1,r1,q1⟩:=hzz;exact jh0 I1 hN hi hx r1 (fun s2 I2=>⟨_,H1,I2,q1⟩) hf
end
section
end
structure It where
 go:Nat->Hp->Prop
 yld:Nat->Hp->V->Hp->Prop
 stop:Nat->Hp->Prop
noncomputable def FpOk(X:Cx)(pins:List (Addr×Obj))(H:Hp)(b:Addr):Prop :=
 H b=none/\b≠X.env.locals/\b∉X.fs/\(b∈X.ex\/X.s₀.heap.objs.size<=b)/\(∀ x c,X.env.cells.lookup x=some c->c≠b)/\∀ p∈X.pn++pins,p.1≠b
theorem Inv.fpOk{X:Cx}{pins:List (Addr×Obj)}{σ:St}{H H':Hp}{s:Shared}{b:Addr}(I:Inv X pins σ H s)(hb:s.heap.objs.size<=b)(hn:H' b=none):FpOk X pins H' b:=by
 refine⟨hn,Nat.ne_of_gt (zcx I.lt hb),I.nofs hb,.inr (zcc I.sz hb),fun x c e z=>?_,fun p hp z=>?_⟩
 ·obtain⟨v,q⟩:=I.cell x c e;exact absurd (zcx q.lt (by rw[z];exact hb)) (Nat.lt_irrefl _)
 ·exact absurd (zcx (zbv (I.pin p hp).1) (by rw[z];exact hb)) (Nat.lt_irrefl _)
inductive TIt(X:Cx)(pins:List (Addr×Obj))(σ:St)(J:It)(fp:List Addr)(tn:Nat->Heap->Prop)(i:Nat)(H:Hp)(u:Value)(s2:Shared):Prop
 | mk (x:V) (H':Hp) (h1:Inv X pins σ H' s2) (h2:RelV x u) (h3:J.yld i H x H') (h4:tn (i+1) s2.heap) (h5:∀ b∈fp,H' b=none)
structure Turn(P:Program)(w:World)(K:W.Frag)(tg:Expr)(J:It)(fp:List Addr)(it:Addr)(tn:Nat->Heap->Prop):Prop where
 mem:it∈fp
 obj:∀ i h,tn i h->∀ b∈fp,∃ o,h.get? b=some o/\∀ v,o.data≠.cell v
 keep:∀ i h h',tn i h->(∀ b∈fp,∀ o,h.get? b=some o->h'.get? b=some o)->tn i h'
 item:∀ (X:Cx),X.prog=P->X.w=w->X.K=K->X.calm=true->∀ (i:Nat) (pins:List (Addr×Obj)) (s:Shared) (σ:St) (H:Hp) (E:Value->Shared->Prop),Inv X pins σ H s->(∀ b∈fp,FpOk X pins H b)->tn i s.heap->J.go i H ->
  wpAny (model P w) X.A (pyNext (.ref it)) (fun r s1=>∃ u,r=some u /\
   wpAny (model P w) X.A (letOwnedTupleGo tg (.ref it) u) (fun _ s2=>TIt X pins σ J fp tn i H u s2) E s1) E s
 done:∀ (X:Cx),X.prog=P->X.w=w->X.K=K->X.calm=true->∀ (i:Nat) (pins:List (Addr×Obj)) (s:Shared) (σ:St) (H:Hp) (E:Value->Shared->Prop),Inv X pins σ H s->(∀ b∈fp,FpOk X pins H b)->tn i s.heap->J.stop i H ->
  wpAny (model P w) X.A (pyNext (.ref it)) (fun r s1=>r=none/\Inv X pins σ H s1) E s
 self:∀ (A:Around) (i:Nat) (s:Shared) (Q:Value->Shared->Prop) (E:Value->Shared->Prop),tn i s.heap->Q (.ref it) s->wpAny (model P w) A (pyIter (.ref it)) Q E s
noncomputable abbrev TI:=St->Hp->(It->Hp->Prop)->Prop
inductive PIE(X:Cx)(pins:List (Addr×Obj))(σ:St)(tg:Expr)(R:It->Hp->Prop)(itv:Value)(s2:Shared):Prop
 | mk (it:Addr) (fp:List Addr) (tn:Nat->Heap->Prop) (J:It) (H':Hp) (h1:itv=.ref it) (h2:Inv X pins σ H' s2) (h3:Turn X.prog X.w X.K tg J fp it tn) (h4:tn 0 s2.heap) (h5:∀ b∈fp,FpOk X pins H' b) (h6:R J H')
noncomputable def PI(X:Cx)(tg iter:Expr)(wi:TI):Prop :=
 ∀ (pins:List (Addr×Obj)) (s:Shared) (σ:St) (H:Hp) (R:It->Hp->Prop),Inv X pins σ H s->wi σ H R ->
  wpAny (model X.prog X.w) X.A (eval iter X.env) (fun v s1=>wpAny (model X.prog X.w) X.A (pyIter v) (PIE X pins σ tg R) X.xe s1) X.xe s
theorem jv4{M:Model}{A:Around}{E:Value->Shared->Prop}{s:Shared}{tg:Expr}{it:Addr}{u:Value}{o:Obj}{n:String}{vs:Array Value}{Q:Unit->Shared->Prop}(ho:s.heap.get? it=some o)(hc:o.cls=.type n)(hd:o.data=.fields vs)
    (hn:["enumerate","zip","dict_itemiterator","dict_reverseitemiterator","odict_iterator","itertools.zip_longest","itertools.pairwise"].contains n=false) (hQ:Q () s):wpAny M A (letOwnedTupleGo tg (.ref it) u) Q E s:=by
  unfold letOwnedTupleGo;cases tg<;>first
    | exact zab hQ
    | (cases u<;>first
        | exact zab hQ
        | (refine zay (wpAny_load ho ?_)
           rw[hc,hd];show wpAny M A (if (["enumerate","zip","dict_itemiterator","dict_reverseitemiterator","odict_iterator","itertools.zip_longest","itertools.pairwise"].contains n&&vs[0]? == some (rawInt _))=true then _ else _) Q E s;rw[if_neg (by intro h;rw[hn,Bool.false_and] at h;cases h)];exact zab hQ))
noncomputable def Itl(K:W.Frag)(a:Addr):It :=
 ⟨fun i H=>∃ xs x,SqL K H a xs/\xs[i]? = some x,fun i H x H'=>H'=H/\∀ xs,SqL K H a xs->xs[i]? = some x,fun i H=>∃ xs,SqL K H a xs/\xs.length<=i⟩
noncomputable def Itt(K:W.Frag)(a:Addr):It :=
 ⟨fun i H=>∃ xs x,SqT K H a xs/\xs[i]? = some x,fun i H x H'=>H'=H/\∀ xs,SqT K H a xs->xs[i]? = some x,fun i H=>∃ xs,SqT K H a xs/\xs.length<=i⟩
theorem jrz{P:Program}{w:World}{K:W.Frag}{tg:Expr}(a it:Addr):Turn P w K tg (Itl K a) [it] it (fun i h=>h.IsListIter it a i) where
 mem:=by simp
 obj:=fun i h st b hb=>by
  have e:b=it:=by simpa using hb
  subst e;obtain⟨o,e,c,d⟩:=st;exact⟨o,e,fun v z=>by rw[d] at z;cases z⟩
 keep:=fun i h h' st k=>st.at fun o e=>k it (by simp) o e
 item:=by
  intro X hP hw hK hc i pins s σ H E I hf st hg;subst hP hw hK;obtain⟨xs,x,hq,hx⟩:=hg;obtain⟨its,rv,p,hz⟩:=I.list hq;obtain⟨u,hu,ru⟩:=rv.get hx;obtain⟨f0,f1,f2,f3,f4,f5⟩:=hf it (by simp);refine wpAny_pyNext_list_item st p.isList (x:=u) (by simpa using hu) fun h' st' sb=>?_
  have I1:Inv X pins σ H { s with heap:=h' }:=I.turned (t':=s.toks) (fun b o hb e=>(sb.2 b hb).trans e) f0 f1 f3 f4 f5;obtain⟨o,e,c,d⟩:=id st';exact⟨u,rfl,jv4 (s:={ s with heap:=h' }) e c d (by decide) ⟨x,H,I1,ru,⟨rfl,fun ys hy=>by rw[I.list_inj hy hq];exact hx⟩,st',fun b hb=>(hf b hb).1⟩⟩
 done:=by
  intro X hP hw hK hc i pins s σ H E I hf st hg;subst hP hw hK;obtain⟨xs,hq,hx⟩:=hg;obtain⟨its,rv,p,hz⟩:=I.list hq;obtain⟨f0,f1,f2,f3,f4,f5⟩:=hf it (by simp);have hl:=rv.length;exact wpAny_pyNext_list_end (I.ok.hd hc) st p.isList (by simp;omega) fun h' eb=>⟨rfl,I.turned (t':=s.toks) (fun b o hb e=>eb b o hb e) f0 f1 f3 f4 f5⟩
 self:=fun _ _ _ _ _ st h=>wpAny_pyIter_listiter st h
theorem jo2{P:Program}{w:World}{K:W.Frag}{tg:Expr}(a it:Addr):Turn P w K tg (Itt K a) [it] it (fun i h=>h.IsTupleIter it a i) where
 mem:=by simp
 obj:=fun i h st b hb=>by
  have e:b=it:=by simpa using hb
  subst e;obtain⟨o,e,c,d⟩:=st;exact⟨o,e,fun v z=>by rw[d] at z;cases z⟩
 keep:=fun i h h' st k=>st.at fun o e=>k it (by simp) o e
 item:=by
  intro X hP hw hK hc i pins s σ H E I hf st hg;subst hP hw hK;obtain⟨xs,x,hq,hx⟩:=hg;obtain⟨its,rv,p,hz⟩:=I.tuple hq;obtain⟨u,hu,ru⟩:=rv.get hx;obtain⟨f0,f1,f2,f3,f4,f5⟩:=hf it (by simp);refine wpAny_pyNext_tuple_item st (show s.heap.IsTuple a its.toArray from p) (x:=u) (by simpa using hu) fun h' st' sb=>?_
  have I1:Inv X pins σ H { s with heap:=h' }:=I.turned (t':=s.toks) (fun b o hb e=>(sb.2 b hb).trans e) f0 f1 f3 f4 f5;obtain⟨o,e,c,d⟩:=id st';exact⟨u,rfl,jv4 (s:={ s with heap:=h' }) e c d (by decide) ⟨x,H,I1,ru,⟨rfl,fun ys hy=>by rw[I.tuple_inj hy hq];exact hx⟩,st',fun b hb=>(hf b hb).1⟩⟩
 done:=by
  intro X hP hw hK hc i pins s σ H E I hf st hg;subst hP hw hK;obtain⟨xs,hq,hx⟩:=hg;obtain⟨its,rv,p,hz⟩:=I.tuple hq;obtain⟨f0,f1,f2,f3,f4,f5⟩:=hf it (by simp);have hl:=rv.length;exact wpAny_pyNext_tuple_end (I.ok.hd hc) st (show s.heap.IsTuple a its.toArray from p) (by simp;omega) fun h' eb=>⟨rfl,I.turned (t':=s.toks) (fun b o hb e=>eb b o hb e) f0 f1 f3 f4 f5⟩
 self:=fun _ _ _ _ _ st h=>wpAny_pyIter_tupleiter st h
section
variable {X:Cx}{tg:Expr}
noncomputable def tFor(wi:TI)(g:TG)(tb:TS):TS:=fun D σ H=>wi σ H fun J H1=>∃ W:Nat->Nat->St->Hp->Prop,(∃ m,W 0 m σ H1)/\∀ i m σ H,W i m σ H ->
 (J.stop i H/\D.nx σ H)\/(J.go i H/\∃ N:St->Hp->Prop,(∀ σ' H',N σ' H'->∃ m',m'<m/\W (i+1) m' σ' H')/\∀ x H',J.yld i H x H'->g x σ H' fun σ2 H2=>tb { D with nx:=N,ct:=N,bk:=D.nx } σ2 H2)
noncomputable def jln(fp:List Addr)(h:Heap):List (Addr×Obj):=fp.filterMap fun b=>(h.get? b).map fun o=>(b,o)
theorem jfy{fp:List Addr}{h:Heap}{b:Addr}{o:Obj}(hb:b∈fp)(e:h.get? b=some o):(b,o)∈jln fp h:=List.mem_filterMap.mpr ⟨b,hb,by rw[e];rfl⟩
theorem jqy{fp:List Addr}{h:Heap}{p:Addr×Obj}(hp:p∈jln fp h):p.1∈fp/\h.get? p.1=some p.2:=by
 obtain⟨b,hb,e⟩:=List.mem_filterMap.mp hp
 cases q:h.get? b with
 | none=>rw[q] at e;cases e
 | some o =>
  rw[q] at e;have e':(b,o)=p:=zby e;subst e';exact⟨hb,q⟩
theorem Inv.pinned{pins:List (Addr×Obj)}{σ:St}{H:Hp}{s:Shared}{fp:List Addr}(I:Inv X pins σ H s)(hf:∀ b∈fp,FpOk X pins H b)(ho:∀ b∈fp,∃ o,s.heap.get? b=some o/\∀ v,o.data≠.cell v):Inv X (pins++jln fp s.heap) σ H s :=
 I.pins_of fun p hp=>(List.mem_append.mp hp).elim (fun z=>I.pin p (zcy _ z)) fun z=>by
  obtain⟨hb,e⟩:=jqy z;obtain⟨f0,f1,f2,_⟩:=hf p.1 hb;obtain⟨o,e',d⟩:=ho p.1 hb;rw[e] at e';cases e'
  exact⟨e,f0,f1,f2,d⟩
theorem Inv.unpinned{pins pl:List (Addr×Obj)}{σ:St}{H:Hp}{s:Shared}(I:Inv X (pins++pl) σ H s):Inv X pins σ H s:=I.pins_of fun p hp=>I.pin p (zcy _ (List.mem_append_left _ hp))
theorem jrc{iter:Expr}{body:List Stmt}{wi:TI}{g:TG}{tb:TS}{pos:Pos}(hp:PassesOwn (model X.prog X.w) X.A X.env X.xe)(hc:X.calm=true)(hi:PI X tg iter wi)(hg:PG X tg g)(hb:PSs X body tb)
  (hs:autoParam (∀ x,foldedSetIterable iter X.env x=pure x) zau3._auto_1):PS X (.For tg iter body [] pos) (tFor wi g tb):=by
 intro pins s σ H D I h;refine wpAny_For (thn (hi pins s σ H _ I h) fun v s1 h1=>thn h1 fun itv s2 h2=>?_) hs;obtain⟨it,fp,tn,J,H2,e,I2,T,st2,f2,W,⟨m0,w0⟩,turn⟩:=h2;subst e;have stat:∀ {H':Hp},(∀ b∈fp,H' b=none)->∀ b∈fp,FpOk X pins H' b:=fun hn b hb=>⟨hn b hb,(f2 b hb).2⟩
 refine codeAny_forLoop_any (fun n s'=>∃ i σ' H',Inv X pins σ' H' s'/\tn i s'.heap/\(∀ b∈fp,H' b=none)/\W i n σ' H') ?_ m0 ⟨0,σ,H2,I2,st2,fun b hb=>(f2 b hb).1,w0⟩;rintro n s3 ⟨i,σ3,H3,I3,st3,fr3,w3⟩;rcases turn i n σ3 H3 w3 with ⟨stop,qn⟩|⟨go,N,hN,step⟩
 ·refine wpAny_passesOwn hp (thn (T.done X rfl rfl rfl hc i pins s3 σ3 H3 X.xe I3 (stat fr3) st3 stop) fun r s4 hzz=>?_);obtain⟨hr,I4⟩:=hzz;subst hr;exact wpAny_execs_nil ⟨σ3,H3,I4,qn⟩
 ·refine wpAny_passesOwn hp (thn (T.item X rfl rfl rfl hc i pins s3 σ3 H3 X.xe I3 (stat fr3) st3 go) fun r s4 hzz=>?_);obtain⟨u,hr,h4⟩:=hzz;subst hr;refine wpAny_passesOwn hp (thn h4 fun _ s5 hzz=>?_);obtain⟨x,H5,I5,r5,y5,st5,fr5⟩:=hzz;have I5':=I5.pinned (stat fr5) (T.obj _ _ st5);refine wpAny_passesOwn hp (thn (hg _ s5 σ3 H5 x u _ I5' r5 (step x H5 y5)) fun _ s6 hzz=>?_);obtain⟨σ6,H6,I6,q6⟩:=hzz;refine wpAny_passesOwn hp (thn (hb _ s6 σ6 H6 _ I6 q6) fun f s7 q7=>?_);have again:∀ {σ7:St} {H7:Hp},Inv X (pins++jln fp s5.heap) σ7 H7 s7->N σ7 H7->∃ m,m<n/\∃ i σ' H',Inv X pins σ' H' s7/\tn i s7.heap/\(∀ b∈fp,H' b=none)/\W i m σ' H':=fun {σ7 H7} I7 n7=>by
   obtain⟨m',hm,w7⟩:=hN σ7 H7 n7;refine⟨m',hm,i+1,σ7,H7,I7.unpinned,T.keep _ _ _ st5 fun b hb o e=>(I7.pin (b,o) (zcy _ (zcy _ (jfy hb e)))).1,fun b hb=>?_,w7⟩;obtain⟨o,e,d⟩:=T.obj _ _ st5 b hb;exact (I7.pin (b,o) (zcy _ (zcy _ (jfy hb e)))).2.1
  cases f with
  | next=>obtain⟨σ7,H7,I7,n7⟩:=q7;exact again I7 n7
  | cont=>obtain⟨σ7,H7,I7,n7⟩:=q7;exact again I7 n7
  | brk=>obtain⟨σ7,H7,I7,q7⟩:=q7;exact⟨σ7,H7,I7.unpinned,q7⟩
  | ret v=>obtain⟨x7,σ7,H7,I7,r7,q7⟩:=q7;exact⟨x7,σ7,H7,I7.unpinned,r7,q7⟩
end
noncomputable abbrev R2:=V->V->Hp->VK->Prop
noncomputable def OpR(X:Cx)(f:Value->Value->Sem Value)(r:R2):Prop :=
 ∀ (pins:List (Addr×Obj)) (s:Shared) (σ:St) (H:Hp) (x y:V) (v u:Value) (Q:VK),Inv X pins σ H s->RelV x v->RelV y u->r x y H Q ->
  wpAny (model X.prog X.w) X.A (f v u) (EP X pins σ Q) X.xe s
noncomputable def UnR(X:Cx)(f:Value->Sem Value)(r:V->Hp->VK->Prop):Prop :=
 ∀ (pins:List (Addr×Obj)) (s:Shared) (σ:St) (H:Hp) (x:V) (v:Value) (Q:VK),Inv X pins σ H s->RelV x v->r x H Q ->
  wpAny (model X.prog X.w) X.A (f v) (EP X pins σ Q) X.xe s
noncomputable def CallR(X:Cx)(f:Value)(r:List V->Hp->VK->Prop):Prop :=
 ∀ (pins:List (Addr×Obj)) (s:Shared) (σ:St) (H:Hp) (xs:List V) (us:List Value) (Q:VK),Inv X pins σ H s->Vals xs us->r xs H Q ->
  wpAny (model X.prog X.w) X.A (call f us) (EP X pins σ Q) X.xe s
noncomputable def TruR(X:Cx)(r:V->Hp->(Bool->Hp->Prop)->Prop):Prop :=
 ∀ (pins:List (Addr×Obj)) (s:Shared) (σ:St) (H:Hp) (x:V) (v:Value) (Q:Bool->Hp->Prop),Inv X pins σ H s->RelV x v->r x H Q ->
  wpAny (model X.prog X.w) X.A (truthy v) (TP X pins σ Q) X.xe s
noncomputable def tOp(r:R2)(ta tb:TE):TE:=fun σ H Q=>ta σ H fun x H1=>tb σ H1 fun y H2=>r x y H2 Q
noncomputable def tUn(r:V->Hp->VK->Prop)(ta:TE):TE:=fun σ H Q=>ta σ H fun x H1=>r x H1 Q
noncomputable def rI(C:Int->Int->Prop)(g:Int->Int->V):R2:=fun x y H Q=>∃ i j,x=.int i/\y=.int j/\C i j/\Q (g i j) H
noncomputable def rI0(g:Int->Int->V):R2:=fun x y H Q=>∃ i j,x=.int i/\y=.int j/\Q (g i j) H
noncomputable def rU(g:Int->V):V->Hp->VK->Prop:=fun x H Q=>∃ i,x=.int i/\Q (g i) H
section
variable {X:Cx}{a b:Expr}{ta tb:TE}{pos:Pos}
theorem binT(ha:PE X a ta)(hb:PE X b tb){pins:List (Addr×Obj)}{s:Shared}{σ:St}{H:Hp}{R:V->V->Hp->Prop}(I:Inv X pins σ H s)
  (h:ta σ H fun x H1=>tb σ H1 fun y H2=>R x y H2) {Q:Value->Shared->Prop} {f:Value->Value->Sem Value}
  (hf:∀ v u s2 x y H2,Inv X pins σ H2 s2->RelV x v->RelV y u->R x y H2->wpAny (model X.prog X.w) X.A (f v u) Q X.xe s2) :
  wpAny (model X.prog X.w) X.A (eval a X.env) (fun v s₁=>wpAny (model X.prog X.w) X.A (eval b X.env) (fun u s₂=>wpAny (model X.prog X.w) X.A (f v u) Q X.xe s₂) X.xe s₁) X.xe s:=by
 refine thn (ha pins s σ H _ I h) fun v s1 hzz=>?_
 obtain⟨x,H1,I1,r1,q1⟩:=hzz;refine thn (hb pins s1 σ H1 _ I1 q1) fun u s2 hzz=>?_
 obtain⟨y,H2,I2,r2,q2⟩:=hzz;exact hf v u s2 x y H2 I2 r1 r2 q2
theorem jCm{op:Operator}{r:R2}(ho:OpR X (binaryOp op) r)(ha:PE X a ta)(hb:PE X b tb):PE X (.BinOp a op b pos) (tOp r ta tb):=by
 intro pins s σ H Q I h;exact wpAny_BinOp (binT ha hb I h fun v u s2 x y H2 I2 rx ry q=>ho pins s2 σ H2 x y v u Q I2 rx ry q)
theorem jCn{op:UnaryOp}{r:V->Hp->VK->Prop}(ho:UnR X (unaryOp op) r)(ha:PE X a ta):PE X (.UnaryOp op a pos) (tUn r ta):=by
 intro pins s σ H Q I h;exact UnaryOp_ (thn (ha pins s σ H _ I h) fun v s1 ⟨x,H1,I1,r1,q1⟩=>ho pins s1 σ H1 x v Q I1 r1 q1)
theorem opI{f:Value->Value->Sem Value}{C:Int->Int->Prop}{g:Int->Int->Int}
  (rule:∀ (i j:Int) (t u:Tok) (s:Shared) (Q:Value->Shared->Prop) (E:Value->Shared->Prop),C i j->Q (.int (g i j) s.toks) { s with toks:=s.toks+1 }->wpAny (model X.prog X.w) X.A (f (.int i t) (.int j u)) Q E s) :
  OpR X f (rI C fun i j=>.int (g i j)):=by
 intro pins s σ H x y v u Q I rx ry h;obtain⟨i,j,rfl,rfl,hc,q⟩:=h;obtain⟨t,rfl⟩:=rx;obtain⟨t',rfl⟩:=ry;exact rule i j t t' s _ _ hc ⟨.int (g i j),H,I.tok _,⟨_,rfl⟩,q⟩
theorem opI0{f:Value->Value->Sem Value}{g:Int->Int->Int}
  (rule:∀ (i j:Int) (t u:Tok) (s:Shared) (Q:Value->Shared->Prop) (E:Value->Shared->Prop),Q (.int (g i j) s.toks) { s with toks:=s.toks+1 }->wpAny (model X.prog X.w) X.A (f (.int i t) (.int j u)) Q E s) :
  OpR X f (rI0 fun i j=>.int (g i j)):=by
 intro pins s σ H x y v u Q I rx ry h;obtain⟨i,j,rfl,rfl,q⟩:=h;obtain⟨t,rfl⟩:=rx;obtain⟨t',rfl⟩:=ry;exact rule i j t t' s _ _ ⟨.int (g i j),H,I.tok _,⟨_,rfl⟩,q⟩
theorem opB0{f:Value->Value->Sem Value}{g:Int->Int->Bool}
  (rule:∀ (i j:Int) (t u:Tok) (s:Shared) (Q:Value->Shared->Prop) (E:Value->Shared->Prop),Q (.bool (g i j)) s->wpAny (model X.prog X.w) X.A (f (.int i t) (.int j u)) Q E s) :
  OpR X f (rI0 fun i j=>.bl (g i j)):=by
 intro pins s σ H x y v u Q I rx ry h;obtain⟨i,j,rfl,rfl,q⟩:=h;obtain⟨t,rfl⟩:=rx;obtain⟨t',rfl⟩:=ry;exact rule i j t t' s _ _ ⟨.bl (g i j),H,I,rfl,q⟩
noncomputable def CPow(i j:Int):Prop:=0<=j/\j<=1000000/\i.natAbs<2 ^ 64
theorem op_add:OpR X (binaryOp .Add) (rI0 fun i j=>.int (i+j)):=opI0 fun _ _ _ _ _ _ _ q=>add_int q
theorem jjl:OpR X (binaryOp .Sub) (rI0 fun i j=>.int (i-j)):=opI0 fun _ _ _ _ _ _ _ q=>sub_int q
theorem ja5:OpR X (binaryOp .Mod) (rI (fun _ j=>0<j) fun i j=>.int (i % j)):=opI fun i j _ _ _ _ _ hc q=>by
 have h1:(0:Int)<j:=hc;exact mod_int' (by omega) (by rw[Int.fmod_eq_emod_of_nonneg i (by omega)];exact q)
theorem jjk:OpR X (binaryOp .Pow) (rI CPow fun i j=>.int (i ^ j.toNat)):=opI fun _ _ _ _ _ _ _ hc q=>pow_int_small hc.1 hc.2.1 hc.2.2 q
theorem unI{f:Value->Sem Value}{g:Int->Int}
  (rule:∀ (i:Int) (t:Tok) (s:Shared) (Q:Value->Shared->Prop) (E:Value->Shared->Prop),Q (.int (g i) s.toks) { s with toks:=s.toks+1 }->wpAny (model X.prog X.w) X.A (f (.int i t)) Q E s) :
  UnR X f (rU fun i=>.int (g i)):=by
 intro pins s σ H x v Q I rx h;obtain⟨i,rfl,q⟩:=h;obtain⟨t,rfl⟩:=rx;exact rule i t s _ _ ⟨.int (g i),H,I.tok _,⟨_,rfl⟩,q⟩
theorem jA3:UnR X (unaryOp .USub) (rU fun i=>.int (-i)):=unI fun _ _ _ _ _ q=>neg_int q
end
section
variable {X:Cx}{a b c:Expr}{ta tb tc:TE}{pos:Pos}
theorem juf{pins:List (Addr×Obj)}{σ:St}{H:Hp}{s:Shared}{Q:VK}{k k':Bool}(I:Inv X pins σ H s)(q:Q (.bl k) H)(e:k=k'):EP X pins σ Q (.bool k') s:=by
 subst e;exact⟨.bl k,H,I,rfl,q⟩
theorem op_lt:OpR X (compareOp .Lt) (rI0 fun i j=>.bl (decide (i<j))):=opB0 fun _ _ _ _ _ _ _ q=>lt_int q
theorem op_le:OpR X (compareOp .LtE) (rI0 fun i j=>.bl (decide (i<=j))):=opB0 fun _ _ _ _ _ _ _ q=>le_int q
theorem op_gt:OpR X (compareOp .Gt) (rI0 fun i j=>.bl (decide (j<i))):=opB0 fun _ _ _ _ _ _ _ q=>gt_int q
theorem jq1:OpR X (compareOp .Lt) (fun x y H Q=>∃ i j,x=.str i/\y=.str j/\Q (.bl (decide (i.cps.toList<j.cps.toList))) H):=by
 intro pins s σ H x y v u Q I rx ry h;obtain⟨i,j,rfl,rfl,q⟩:=h;obtain⟨t,rfl⟩:=rx;obtain⟨t',rfl⟩:=ry;exact lt_str (juf I q rfl)
theorem jwz:OpR X (compareOp .IsNot) (fun x y H Q=>y=.non/\Q (.bl (!decide (x=.non))) H):=by
 intro pins s σ H x y v u Q I rx ry h;obtain⟨rfl,q⟩:=h;cases ry;refine isnot_none_gen (juf I q ?_);cases x<;>first
  | (cases rx;rfl)
  | (obtain⟨t,rfl⟩:=rx;rfl)
theorem OpR.or{f:Value->Value->Sem Value}{r r':R2}(h:OpR X f r)(h':OpR X f r'):OpR X f (fun x y H Q=>r x y H Q\/r' x y H Q):=by
 intro pins s σ H x y v u Q I rx ry q;rcases q with q|q
 ·exact h pins s σ H x y v u Q I rx ry q
 ·exact h' pins s σ H x y v u Q I rx ry q
theorem jbr(b:Expr){op:CmpOp}(h:autoParam (op≠.In) zau1._auto_1)(h2:autoParam (op≠.NotIn) zau1._auto_1):behindInMarks op b=false:=by
 have e1:(op == CmpOp.In)=false:=by cases op<;>first|rfl|exact absurd rfl h
 have e2:(op == CmpOp.NotIn)=false:=by cases op<;>first|rfl|exact absurd rfl h2
 cases b<;>simp[behindInMarks,e1,e2]
theorem jq6{op:CmpOp}{r:R2}(ho:OpR X (compareOp op) r)(ha:PE X a ta)(hb:PE X b tb)(hm:behindInMarks op b=false):PE X (.Compare a [op] [b] pos) (tOp r ta tb):=by
 intro pins s σ H Q I h;exact wpAny_Compare1 (binT ha hb I h fun v u s2 x y H2 I2 rx ry q=>ho pins s2 σ H2 x y v u Q I2 rx ry q) hm
noncomputable def jC7(t:TE):TT:=fun σ H Q=>t σ H fun x H'=>∃ k,x=.bl k/\Q k H'
theorem jmq{op:CmpOp}{r:R2}(ho:OpR X (compareOp op) r)(ha:PE X a ta)(hb:PE X b tb)(hm:behindInMarks op b=false):PT X (.Compare a [op] [b] pos) (jC7 (tOp r ta tb)):=by
 intro pins s σ H Q I h;refine wpAny_isTrue_Compare1 (thn (ha pins s σ H _ I h) fun v s1 ⟨x,H1,I1,r1,q1⟩=>thn (hb pins s1 σ H1 _ I1 q1) fun u s2 ⟨y,H2,I2,r2,q2⟩ =>
  thn (ho pins s2 σ H2 x y v u _ I2 r1 r2 q2) fun c s3 ⟨z,H3,I3,r3,k,e,q3⟩=>?_) hm
 subst e;cases r3;exact wpAny_truthy_bool ⟨H3,I3,q3⟩
noncomputable def jAw(r r':R2)(ta tb tc:TE):TE:=fun σ H Q=>ta σ H fun x H1=>tb σ H1 fun y H2=>r x y H2 fun z H3=>∃ k,z=.bl k /\
 (if k=true then tc σ H3 fun w' H4=>r' y w' H4 Q else Q (.bl false) H3)
theorem jtl{op op':CmpOp}{r r':R2}(ho:OpR X (compareOp op) r)(ho':OpR X (compareOp op') r')(ha:PE X a ta)(hb:PE X b tb)(hc:PE X c tc)
  (hm:autoParam (lastMarks [op,op'] [b,c]=false) zau4._auto_1):PE X (.Compare a [op,op'] [b,c] pos) (jAw r r' ta tb tc):=by
 intro pins s σ H Q I h;refine Compare_chain (thn (ha pins s σ H _ I h) fun v s1 ⟨x,H1,I1,r1,q1⟩=>chain_link (thn (hb pins s1 σ H1 _ I1 q1) fun u s2 ⟨y,H2,I2,r2,q2⟩ =>
  thn (ho pins s2 σ H2 x y v u _ I2 r1 r2 q2) fun d s3 ⟨z,H3,I3,r3,k,e,q3⟩=>?_)) hm
 subst e;cases r3;refine wpAny_truthy_bool ?_
 cases k with
 | false=>exact ite_ff ⟨.bl false,H3,I3,rfl,q3⟩
 | true=>exact ite_tt (chain_last (thn (hc pins s3 σ H3 _ I3 q3) fun w' s4 ⟨z',H4,I4,r4,q4⟩=>ho' pins s4 σ H4 y z' u w' Q I4 r2 r4 q4))
noncomputable def TruV(K:W.Frag)(x:V)(H:Hp)(k:Bool):Prop :=
 match x with
 | .non=>k=false
 | .bl b=>k=b
 | .int i=>k=(i != 0)
 | .str y=>y.length<=sizeLine/\k=((y.length:Int) != 0)
 | .byt y=>y.size<=sizeLine/\k=((y.size:Int) != 0)
 | .ref p=>(∃ xs,SqL K H p xs/\k=!xs.isEmpty)\/(∃ xs,SqT K H p xs/\k=!xs.isEmpty)\/∃ kvs,H p=some (.dK kvs)/\k=!kvs.isEmpty
 | _=>False
theorem joh{κ:Type}{kvs:List (κ×V)}{vs:List (κ×Value)}(r:KV kvs vs):(!vs.isEmpty)=!kvs.isEmpty:=by
 cases r<;>rfl
theorem jjh{xs:List V}{its:List Value}(r:Vals xs its):(!its.toArray.isEmpty)=!xs.isEmpty:=by
 cases r<;>simp
theorem jii:(sizeLine:Nat)<2 ^ 63:=by rw[sizeLine_eq];decide
theorem jA0:TruR X (fun x H Q=>∃ k,TruV X.K x H k/\Q k H):=by
 intro pins s σ H x v Q I rx h;obtain⟨k,e,q⟩:=h;have hl:=jii;have hs:sizeLine=16777216:=sizeLine_eq
 cases x with
 | non =>
  cases rx;have e':k=false:=e;subst e';exact truthy_none ⟨H,I,q⟩
 | bl b =>
  cases rx;have e':k=b:=e;subst e';exact wpAny_truthy_bool ⟨H,I,q⟩
 | int i =>
  obtain⟨t,rfl⟩:=rx;have e':k=(i != 0):=e;subst e';exact PySem.P.truthy_int ⟨H,I,q⟩
 | str y =>
  obtain⟨t,rfl⟩:=rx;obtain⟨hy,e'⟩:y.length<=sizeLine/\k=((y.length:Int) != 0):=e;subst e';exact PySem.P.truthy_str (by omega) ⟨H,I.tok _,q⟩
 | byt y =>
  obtain⟨t,rfl⟩:=rx;obtain⟨hy,e'⟩:y.size<=sizeLine/\k=((y.size:Int) != 0):=e;subst e';exact W.truthy_bytes (by omega) ⟨H,I.tok _,q⟩
 | ref p =>
  cases rx;have e':(∃ xs,SqL X.K H p xs/\k=!xs.isEmpty)\/(∃ xs,SqT X.K H p xs/\k=!xs.isEmpty)\/∃ kvs,H p=some (.dK kvs)/\k=!kvs.isEmpty:=e;rcases e' with ⟨xs,hx,e'⟩|⟨xs,hx,e'⟩|⟨kvs,hx,e'⟩
  ·subst e';obtain⟨its,r,pl,hz⟩:=I.list hx;have hlen:=r.length;exact wpAny_truthy_list pl.isList (by simp only[zbx];omega) ⟨H,I.tok _,by rw[jjh r];exact q⟩
  ·subst e';obtain⟨its,r,pl,hz⟩:=I.tuple hx;have hlen:=r.length;exact truthy_tuple pl (by simp only[zbx];omega) ⟨H,I.tok _,by rw[jjh r];exact q⟩
  ·subst e';obtain⟨hz,hS,vs,r,m⟩:kvs.length<=sizeLine/\(p == sysModules)=false/\∃ vs,KV kvs vs/\s.heap.DictOf (jfk X.prog X.w) p vs:=I.hok p _ hx;have hlen:kvs.length=vs.length:=Paired.length r;exact wpAny_truthy_dict hS m (by omega) ⟨H,I.tok _,by rw[joh r];exact q⟩
 | _=>exact (show False from e).elim
theorem jnw(ha:PE X a ta)(he:∀ whole,isTrue a X.env whole=(do let v <- whole;standAt a.pos;holding [v] (truthy v))) :
  PT X a (fun σ H Q=>ta σ H fun x H'=>∃ k,TruV X.K x H' k/\Q k H'):=by
 intro pins s σ H Q I h;exact isTrue_plain (thn (ha pins s σ H _ I h) fun v s1 ⟨x,H1,I1,r1,q1⟩=>jA0 pins s1 σ H1 x v Q I1 r1 q1) (he _)
theorem joq:OpR X (binaryOp .Add) (fun x y H Q=>∃ i j,x=.str i/\y=.str j/\i.length+j.length<=sizeLine/\Q (.str (i++j)) H):=by
 intro pins s σ H x y v u Q I rx ry h;obtain⟨i,j,rfl,rfl,hz,q⟩:=h;obtain⟨t,rfl⟩:=rx;obtain⟨t',rfl⟩:=ry;exact add_str (fun t' tk=>⟨.str (i++j),H,I.tok _,⟨_,rfl⟩,q⟩) hz
theorem jly{x:V}{us:List Value}(r:Vals [x] us):∃ u,us=[u]/\RelV x u:=by
 cases r with
 | cons r1 r2=>cases r2;exact⟨_,rfl,r1⟩
theorem call_int1:CallR X (.type "int") (fun xs H Q=>(∃ i,xs=[.int i]/\Q (.int i) H)\/∃ k,xs=[.bl k]/\Q (.int (if k then 1 else 0)) H):=by
 intro pins s σ H xs us Q I r h;rcases h with ⟨i,rfl,q⟩|⟨k,rfl,q⟩
 ·obtain⟨u,rfl,t,rfl⟩:=jly r;exact call_int_int ⟨.int i,H,I,⟨_,rfl⟩,q⟩
 ·obtain⟨u,rfl,r1⟩:=jly r;cases r1;exact call_int_bool ⟨.int (if k then 1 else 0),H,I.tok _,⟨_,rfl⟩,q⟩
end
structure ObjM(h:Heap)(x dx C:Addr)(mA:Str->Option Value):Prop where
 obj:h.get? x=some (W.instObj C dx)
 ns:h.Ns1 dx mA
 ne:dx≠x
section
end
noncomputable def putF(f:Str)(v:V):List (Str×V)->List (Str×V)
 | []=>[(f,v)]
 | (g,x)::r=>if g=f then (g,v)::r else (g,x)::putF f v r
theorem jij(f g:Str)(v:V):∀ fs:List (Str×V),(putF f v fs).lookup g=if g=f then some v else fs.lookup g
 | []=>by
  show List.lookup g [(f,v)]=_
  by_cases h:g=f
  ·have hb:(g == f)=true:=beq_iff_eq.mpr h;simp only[List.lookup,hb,if_pos h]
  ·have hb:(g == f)=false:=beq_eq_false_iff_ne.mpr h;simp only[List.lookup,hb,if_neg h]
 | (k,x)::r=>by
  have ih:=jij f g v r;rw[show putF f v ((k,x)::r)=(if k=f then (k,v)::r else (k,x)::putF f v r) from rfl]
  by_cases hk:k=f
  ·rw[if_pos hk]
   by_cases h:g=k
   ·have hb:(g == k)=true:=beq_iff_eq.mpr h;simp only[List.lookup,hb,if_pos (h.trans hk)]
   ·have hb:(g == k)=false:=beq_eq_false_iff_ne.mpr h;simp only[List.lookup,hb,if_neg (fun e:g=f=>h (e.trans hk.symm))]
  ·rw[if_neg hk]
   by_cases h:g=k
   ·have hb:(g == k)=true:=beq_iff_eq.mpr h;simp only[List.lookup,hb,if_neg (fun e:g=f=>hk (h.symm.trans e))]
   ·have hb:(g == k)=false:=beq_eq_false_iff_ne.mpr h;simp only[List.lookup,hb];exact ih
theorem jig(f:Str)(v:V):∀ fs:List (Str×V),f∈(putF f v fs).map (·.1)/\∀ g,g∈fs.map (·.1)->g∈(putF f v fs).map (·.1)
 | []=>⟨by simp[putF],fun g h=>by simp at h⟩
 | (k,x)::r=>by
  obtain⟨i1,i2⟩:=jig f v r;rw[show putF f v ((k,x)::r)=(if k=f then (k,v)::r else (k,x)::putF f v r) from rfl]
  by_cases hk:k=f
  ·rw[if_pos hk];subst hk;exact⟨by simp,fun g h=>by simpa using h⟩
  ·rw[if_neg hk];refine⟨?_,fun g h=>?_⟩
   ·rw[List.map_cons];exact zaw _ i1
   ·rw[List.map_cons] at h |-
    rcases List.mem_cons.mp h with e|e
    ·exact List.mem_cons.mpr (.inl e)
    ·exact zaw _ (i2 g e)
theorem jih(f:Str)(v:V):∀ fs:List (Str×V),(putF f v fs).length<=fs.length+1
 | []=>by simp[putF]
 | (k,x)::r=>by
  have ih:=jih f v r;rw[show putF f v ((k,x)::r)=(if k=f then (k,v)::r else (k,x)::putF f v r) from rfl]
  by_cases hk:k=f
  ·rw[if_pos hk,List.length_cons,List.length_cons];omega
  ·rw[if_neg hk,List.length_cons,List.length_cons];omega
section
end
structure Cls(K:W.Frag)(C:Addr):Prop where
 pg:W.plainGet K C Str.empty=true
 hd:W.hasDictIn K C=true
 po:W.plainOver K C=true
 sa:W.findIn K (.ref C) "__setattr__"=some (some (.builtin "object.__setattr__"))
noncomputable def jt8(K:W.Frag)(C:Addr)(f:Str):Prop:=W.findIn K (.ref C) f=some none
structure Con(K:W.Frag)(C:Addr)(f:Str)(v:V)(u:Value):Prop where
 at_:W.findIn K (.ref C) f=some (some u)
 rel:RelV v u
 get:W.specialIn K u "__get__"=some none
 cp:W.copiedNames.contains f=false
structure Meth(K:W.Frag)(C:Addr)(m:Str)(f:Addr):Prop where
 at_:W.findIn K (.ref C) m=some (some (.ref f))
 fn:W.isFn K (.ref f)=true
 kp:W.keepIn K (.ref f)=true
section
end
inductive FldP(K:W.Frag)(f:Str)(Q:VK)(x:V)(H1:Hp):Prop
 | mk (a C dx:Addr) (fs:List (Str×V)) (v:V) (h1:x=.ref a) (h2:H1 a=some (.ins C dx fs)) (h3:Cls K C) (h4:jt8 K C f) (h5:fs.lookup f=some v) (h6:Q v H1)
section
end
section
variable {H:Hp}
inductive TyOf(K:W.Frag)(H:Hp):V->Value->Prop where
 | non:TyOf K H .non (.type "NoneType")
 | bl (x:Bool):TyOf K H (.bl x) (.type "bool")
 | int (i:Int):TyOf K H (.int i) (.type "int")
 | str (x:Str):TyOf K H (.str x) (.type "str")
 | flt (x:UInt64):TyOf K H (.flt x) (.type "float")
 | lst {a:Addr} {xs:List V} (e:H a=some (.lst xs)):TyOf K H (.ref a) (.type "list")
 | frz {a:Addr} {o:Obj} {xs:List V} (e:H a=some (.frz o (.lst xs))):TyOf K H (.ref a) (.type "list")
 | tup {a:Addr} {xs:List V} (e:H a=some (.tup xs)):TyOf K H (.ref a) (.type "tuple")
 | dK {a:Addr} {kvs:List (Key×V)} (e:H a=some (.dK kvs)):TyOf K H (.ref a) (.type "dict")
 | dT {a:Addr} {kvs:List (List Key×V)} (e:H a=some (.dT kvs)):TyOf K H (.ref a) (.type "dict")
 | ins {a C dx:Addr} {fs:List (Str×V)} (e:H a=some (.ins C dx fs)) (cl:Cls K C) (ha:W.findIn K (.ref C) "__class__"=some (some (.builtin "object.__class__")))
   (hn:W.specialIn K (.builtin "object.__class__") "__get__"=some (some (.builtin "getset_descriptor.__get__"))) (htk:W.takesIn K (.builtin "object.__class__")=some true)
   (hm:W.mroIn K C (.type "object")=some true):TyOf K H (.ref a) (.ref C)
end
structure Room(k:Nat)(A:Around):Prop where
 hd:A.handled=none
 dp:A.depth+3*k+5<recursionLimit
 un:A.units+16*k+200<cLine
theorem Room.mono{j k:Nat}{A:Around}(r:Room k A)(h:j<=k):Room j A:=⟨r.hd,by have:=r.dp;omega,by have:=r.un;omega⟩
theorem Room.deeper{k:Nat}{A:Around}(r:Room (k+1) A)(env:Env):Room k (A.deeper env) :=
 ⟨r.hd,by have:=r.dp;show A.depth+1+3*k+5<_;omega,by have:=r.un;show A.units+3+16*k+200<_;omega⟩
theorem jok{A:Around}{C:Addr}{us:List Value}{kw:List (Str×Value)}:(A.under (.builtin "type.__call__" ⟨.ref C::us,kw⟩)).depth=A.depth+1:=by
 first|rfl|simp[Around.under,Code.weight,Code.isCreation,Code.isGuard,Code.isCaller,Code.frames,Code.isFrame,guardIds]
theorem jol{A:Around}{C:Addr}{us:List Value}{kw:List (Str×Value)}:(A.under (.builtin "type.__call__" ⟨.ref C::us,kw⟩)).units=A.units+1:=by
 first|rfl|simp[Around.under,Code.cUnits,Code.frames,Code.isFrame]
theorem Room.make{k:Nat}{A:Around}(r:Room (k+1) A)(C:Addr)(us:List Value)(kw:List (Str×Value)):Room k (A.under (.builtin "type.__call__" ⟨.ref C::us,kw⟩)) :=
 ⟨r.hd,by have:=r.dp;rw[jok];omega,by have:=r.un;rw[jol];omega⟩
theorem Room.depth{k:Nat}{A:Around}(r:Room k A):A.depth<recursionLimit:=by have:=r.dp;omega
theorem Room.units{k:Nat}{A:Around}(r:Room k A):A.units+64<cLine:=by have:=r.un;omega
noncomputable def tNil:TA:=fun _ H Q=>Q [] H
noncomputable def jC1(ta:TE)(tr:TA):TA:=fun σ H Q=>ta σ H fun x H1=>tr σ H1 fun xs H2=>Q (x::xs) H2
section
variable {X:Cx}{e:Expr}{es:List Expr}{te:TE}{t:TA}{pos:Pos}
theorem jhj:PA X [] tNil:=fun _ _ _ _ H Q I h=>Calls.spliced_nil ⟨[],H,I,.nil,h⟩
theorem jd6(ha:PE X e te)(hr:PA X es t)(hs:autoParam (starEach (e::es) X.env=(false,eval e X.env)::starEach es X.env) zau2._auto_1):PA X (e::es) (jC1 te t):=by
 intro pos pins s σ H Q I h;rw[hs];show wpAny _ _ (spliced ((false,eval e X.env)::backTo pos (starEach es X.env))) _ _ s;refine Calls.spliced_cons (thn (ha pins s σ H _ I h) fun u s1 hzz=>?_);obtain⟨x,H1,I1,r1,q1⟩:=hzz;exact thn (hr pos pins s1 σ H1 _ I1 q1) fun us s2 ⟨xs,H2,I2,r2,q2⟩=>⟨x::xs,H2,I2,.cons r1 r2,q2⟩
noncomputable def tTup(t:TA):TE:=fun σ H Q=>t σ H fun xs H1=>xs.length<=sizeLine/\∀ p,H1 p=none->Q (.ref p) (upd H1 p (.tup xs))
noncomputable def tLst(t:TA):TE:=fun σ H Q=>t σ H fun xs H1=>xs.length<=sizeLine/\∀ p,H1 p=none->Q (.ref p) (upd H1 p (.lst xs))
theorem jq7{x1}(h:PA X es t):PE X (.Tuple es x1 pos) (tTup t):=by
 intro pins s σ H Q I hq;refine wpAny_Tuple_spliced (thn (h pos pins s σ H _ I hq) fun us s1 ⟨xs,H1,I1,r,z,q⟩=>⟨by rw[<- r.length];exact z,?_⟩);have hf:H1 s1.heap.objs.size=none:=I1.hok.fresh (zac _);refine⟨.ref s1.heap.objs.size,upd H1 s1.heap.objs.size (.tup xs),I1.laid (t':=s1.toks) (fun b u e=>zaz _ e) (zac _) ?_,rfl,q _ hf⟩;exact⟨z,us,r,⟨_,zbz _ rfl,rfl,_,rfl⟩⟩
theorem jnr(h:PA X es t):PE X (.List es pos) (tLst t):=by
 intro pins s σ H Q I hq;refine wpAny_List_spliced (thn (h pos pins s σ H _ I hq) fun us s1 ⟨xs,H1,I1,r,z,q⟩=>⟨by rw[<- r.length];exact z,?_⟩);have hf:H1 s1.heap.objs.size=none:=I1.hok.fresh (zac _);refine⟨.ref s1.heap.objs.size,upd H1 s1.heap.objs.size (.lst xs),I1.laid (t':=s1.toks) (fun b u e=>zaz _ e) (zac _) ?_,rfl,q _ hf⟩;exact⟨z,us,0,r,zbz _ rfl⟩
end
noncomputable abbrev Sp:=List V->Hp->VK->XK->Prop
noncomputable abbrev CXT:=List Env->Hp->Shared->XK->Value->Shared->Prop
structure Env0(P:Program)(w:World)(K:W.Frag)(mg:Str->Option Value)(base:Heap)(A:Around)(outer:List Env)(s:Shared)(H:Hp):Prop where
 frames:A.frames=some outer
 mod:Mod K mg base
 bs:∀ b o,base.get? b=some o->s.heap.get? b=some o/\H b=none
 bsz:base.objs.size<=s.heap.objs.size
 funs:s.heap.FunFrames base outer
 frf:∀ b∈frs outer,H b=none
 hok:HOk P w H s.heap
 bare:AllBare s.gens
noncomputable def CE(outer:List Env)(P:Program)(w:World)(H:Hp)(s:Shared)(Q:VK)(u:Value)(s':Shared):Prop :=
 ∃ v H',s'.os=s.os/\AllBare s'.gens/\Un (frs outer) [] H H' s.heap s'.heap/\HOk P w H' s'.heap/\RelV v u/\Q v H'
noncomputable def CR(CX:CXT)(outer:List Env)(P:Program)(w:World)(H:Hp)(s:Shared)(Q:VK)(E:XK)(r:Result)(s':Shared):Prop :=
 match r with
 | .ok (.ret u)=>CE outer P w H s Q u s'
 | .ok _=>False
 | .error e=>CX outer H s E e s'
structure FnOk(P:Program)(w:World)(K:W.Frag)(mg:Str->Option Value)(base:Heap)(CX:CXT)(k:Nat)(f:Addr)(fd:FuncData)(ps:List Str)(sp:Sp):Prop where
 len:∀ vs H Q E,sp vs H Q E->vs.length=ps.length
 run:∀ (A:Around) (outer:List Env) (s:Shared) (H:Hp) (args:Args) (us:List Value) (vs:List V) (Q:VK) (E:XK),Room k A->Env0 P w K mg base A outer s H->BindsTo s fd args (ps.zip us)->Vals vs us->sp vs H Q E ->
  codeAny (model P w) A (.call (.ref f) args) (CR CX outer P w H s Q E) s
theorem FnOk.imp{P:Program}{w:World}{K:W.Frag}{mg:Str->Option Value}{base:Heap}{CX:CXT}{k:Nat}{f:Addr}{fd:FuncData}{ps:List Str}{sp sp':Sp}(F:FnOk P w K mg base CX k f fd ps sp)
  (h:∀ vs H Q E,sp' vs H Q E->sp vs H Q E):FnOk P w K mg base CX k f fd ps sp' :=
 ⟨fun vs H Q E q=>F.len vs H Q E (h _ _ _ _ q),fun A outer s H args us vs Q E hr he hb hv hs=>F.run A outer s H args us vs Q E hr he hb hv (h _ _ _ _ hs)⟩
theorem Env0.make{P:Program}{w:World}{K:W.Frag}{mg:Str->Option Value}{base:Heap}{A:Around}{outer:List Env}{s:Shared}{H:Hp}(e:Env0 P w K mg base A outer s H)(C:Addr)(us:List Value)(kw:List (Str×Value)) :
  Env0 P w K mg base (A.under (.builtin "type.__call__" ⟨.ref C::us,kw⟩)) outer s H:=⟨by first|exact e.frames|(simpa[Around.under,Code.envs,Code.isFrame,pushEnvs] using e.frames),e.mod,e.bs,e.bsz,e.funs,e.frf,e.hok,e.bare⟩
section
variable {X:Cx}{pins:List (Addr×Obj)}{σ:St}{H:Hp}{s s':Shared}
theorem Inv.env0(I:Inv X pins σ H s):Env0 X.prog X.w X.K X.mg X.base X.A X.stack s H :=
 ⟨I.ok.frames,I.ok.mod,I.bs,zcc I.ok.bsz I.sz,I.stack,I.stkFree,I.hok,I.bare⟩
theorem Inv.after{Q:VK}{u:Value}(I:Inv X pins σ H s)(h:CE X.stack X.prog X.w H s Q u s'):EP X pins σ Q u s':=by
 obtain⟨v,H',os,bare,un,hok,r,q⟩:=h;obtain⟨hh,g,d,t,os'⟩:=s';obtain rfl:os'=s.os:=os;exact⟨v,H',I.call (h':=hh) (g':=g) (d':=d) (t':=t) (ch:=[]) un hok bare (fun b z=>absurd z (by simp)),r,q⟩
end
noncomputable def jrv(sp:Sp)(dvs:List V)(E:XK)(t:TA):TE:=fun σ H Q=>t σ H fun vs H1=>sp (vs++dvs) H1 Q E
noncomputable def jC2(C:Addr)(m:Str)(sp:Sp)(dvs:List V)(E:XK)(ta:TE)(t:TA):TE:=fun σ H Q=>ta σ H fun x H1=>∃ a dx fs,x=.ref a/\H1 a=some (.ins C dx fs)/\fs.lookup m=none /\
 t σ H1 fun vs H2=>sp (x::(vs++dvs)) H2 Q E
noncomputable def Binds(K:W.Frag)(fd:FuncData)(ps:List Str)(ds:List Value):Prop :=
 ∀ (s:Shared) (us:List Value),K.In s.heap->(us++ds).length=ps.length->BindsTo s fd ⟨us,[]⟩ (ps.zip (us++ds))
theorem Binds.all{K:W.Frag}{fd:FuncData}{ps:List Str}(h:∀ us:List Value,us.length=ps.length->bindArgs fd ⟨us,[]⟩=pure (ps.zip us)):Binds K fd ps []:=fun s us _ hl=>by
 rw[List.append_nil] at hl |-
 exact .of_eq (h us hl)
noncomputable def jm4(CX:CXT)(X:Cx)(E:XK):Prop:=∀ (pins:List (Addr×Obj)) (σ:St) (H:Hp) (s:Shared) (e:Value) (s':Shared),Inv X pins σ H s->CX X.stack H s E e s'->X.xe e s'
section
variable {X:Cx}{CX:CXT}{k:Nat}{f C:Addr}{fd:FuncData}{ps:List Str}{sp:Sp}{dvs:List V}{ds:List Value}{E:XK}{x:Str}{p pos:Pos}{e:Expr}{es:List Expr}{t:TA}
theorem jAs{pins:List (Addr×Obj)}{σ:St}{H:Hp}{s:Shared}{Q:VK}{us:List Value}{vs:List V}(F:FnOk X.prog X.w X.K X.mg X.base CX k f fd ps sp)(hr:Room k X.A)(hb:Binds X.K fd ps ds)(hd:Vals dvs ds)(hx:jm4 CX X E)
  (I:Inv X pins σ H s) (r:Vals vs us) (h:sp (vs++dvs) H Q E):wpAny (model X.prog X.w) X.A (call (.ref f) us) (EP X pins σ Q) X.xe s:=by
 have r2:Vals (vs++dvs) (us++ds):=r.append hd;have hl:(us++ds).length=ps.length:=by rw[<- r2.length];exact F.len _ _ _ _ h
 refine wpAny_call (codeAny_mono (F.run X.A X.stack s H ⟨us,[]⟩ (us++ds) (vs++dvs) Q E hr I.env0 (hb s us I.kIn hl) r2 h) fun r s' hq=>?_)
 cases r with
 | error e=>exact hx pins σ H s e s' I hq
 | ok fl =>
  cases fl with
  | ret u=>exact I.after hq
  | next=>exact False.elim hq
  | brk=>exact False.elim hq
  | cont=>exact False.elim hq
theorem jhb(F:FnOk X.prog X.w X.K X.mg X.base CX k f fd ps sp)(hr:Room k X.A)(hg:Gl X x)(hm:X.mg x=some (.ref f))(hk:W.keepIn X.K (.ref f)=true)(hb:Binds X.K fd ps ds)(hd:Vals dvs ds)(hx:jm4 CX X E)
  (ha:PA X (e::es) t) (hdb:autoParam ((x == ("__debug__":Str))=false) zau1._auto_1) (he:autoParam (starEach (e::es) X.env=(false,eval e X.env)::starEach es X.env) zau2._auto_1) (hpl:autoParam ((backTo pos (starEach es X.env)).any (·.1)=false) zau2._auto_1) :
  PE X (.Call (.Name x p) (e::es) [] pos) (jrv sp dvs E t):=by
 intro pins s σ H Q I h;refine wpAny_Call_Name_kw (jg6 I hg hm ?_ hdb);refine W.callWith_K (h₀:=X.base) I.ok.mod.kin hk (thn (ha pos pins s σ H _ I h) fun us s1 ⟨vs,H1,I1,r,q⟩=>⟨I1.kIn,?_⟩) he hpl;exact jAs F hr hb hd hx I1 r q
structure Mk(K:W.Frag)(C f:Addr):Prop where
 makes:W.makesIn K C=true
 init:W.findIn K (.ref C) "__init__"=some (some (.ref f))
 fn:W.isFn K (.ref f)=true
 kp:W.keepIn K (.ref C)=true
end
section
variable {fd:FuncData}{ps ks:List Str}
structure KBinds(K:W.Frag)(fd:FuncData)(ps ks:List Str)(g:List Value->List Value->List Value)(gV:List V->List V->List V):Prop where
 to:∀ (s:Shared) (us ws:List Value),K.In s.heap->(g us ws).length=ps.length->BindsTo s fd ⟨us,ks.zip ws⟩ (ps.zip (g us ws))
 rel:∀ {vs:List V} {us:List Value} {zs:List V} {ws:List Value},Vals vs us->Vals zs ws->Vals (gV vs zs) (g us ws)
end
structure FnScope(N P:List Str)(sc:Scope):Prop where
 kind:sc.kind=.function
 co:sc.isCoroutine=false
 gen:sc.isGenerator=false
 nd:N.Nodup
 pre:N.take P.length=P
 par:∀ x∈P,sc.names.lookup x=some .local\/sc.names.lookup x=some .cell
 nofree:∀ y∈sc.names,y.2≠.free
theorem jkr{kindOf:Str->Option NameKind}{x:Str}:∀ {binds:List (Str×Value)} {m:Str->Option Value},(∀ v,(x,v)∉binds)->bindL kindOf binds m x=m x
 | [],_,_=>rfl
 | (n,v)::r,m,h=>by
  unfold bindL;rw[jkr fun w hw=>h w (zaw _ hw)]
  split
  ·have:x≠n:=by rintro rfl;exact h v zaa
   simp[this]
  ·rfl
theorem jkp{kindOf:Str->Option NameKind}{x:Str}:∀ {binds:List (Str×Value)} {m:Str->Option Value},(∀ v,(x,v)∉binds)->bindC kindOf binds m x=m x
 | [],_,_=>rfl
 | (n,v)::r,m,h=>by
  unfold bindC;rw[jkp fun w hw=>h w (zaw _ hw)]
  split
  ·rfl
  ·have:x≠n:=by rintro rfl;exact h v zaa
   simp[this]
theorem jkq{kindOf:Str->Option NameKind}{x:Str}{v:Value}:∀ {P:List Str} {vs:List Value} {i:Nat} {m:Str->Option Value},P.Nodup->P[i]? = some x->vs[i]? = some v->kindOf x=some .local ->
  bindL kindOf (P.zip vs) m x=some v
 | [],_,_,_,_,h,_,_=>by simp at h
 | _::_,[],_,_,_,_,h,_=>by simp at h
 | p::P,w::vs,0,m,nd,h1,h2,hk=>by
  simp at h1 h2;subst h1;subst h2
  show bindL kindOf ((p,w)::P.zip vs) m p=_;unfold bindL;rw[jkr fun v hv=>(List.nodup_cons.mp nd).1 (List.of_mem_zip hv).1,if_pos hk];simp
 | p::P,w::vs,i+1,m,nd,h1,h2,hk=>by
  show bindL kindOf ((p,w)::P.zip vs) m x=_;unfold bindL;exact jkq (i:=i) (List.nodup_cons.mp nd).2 (by simpa using h1) (by simpa using h2) hk
theorem jko{kindOf:Str->Option NameKind}{x:Str}{v:Value}:∀ {P:List Str} {vs:List Value} {i:Nat} {m:Str->Option Value},P.Nodup->P[i]? = some x->vs[i]? = some v->kindOf x≠some .local ->
  bindC kindOf (P.zip vs) m x=some v
 | [],_,_,_,_,h,_,_=>by simp at h
 | _::_,[],_,_,_,_,h,_=>by simp at h
 | p::P,w::vs,0,m,nd,h1,h2,hk=>by
  simp at h1 h2;subst h1;subst h2
  show bindC kindOf ((p,w)::P.zip vs) m p=_;unfold bindC;rw[jkp fun v hv=>(List.nodup_cons.mp nd).1 (List.of_mem_zip hv).1,if_neg hk];simp
 | p::P,w::vs,i+1,m,nd,h1,h2,hk=>by
  show bindC kindOf ((p,w)::P.zip vs) m x=_;unfold bindC;exact jko (i:=i) (List.nodup_cons.mp nd).2 (by simpa using h1) (by simpa using h2) hk
noncomputable def start(N:List Str)(vs:List V):St:=vs.map some++List.replicate (N.length-vs.length) none
noncomputable def cxOf(CX:CXT)(P:Program)(w:World)(K:W.Frag)(mg:Str->Option Value)(base:Heap)(N:List Str)(qual:Str)(scope:Scope)(f:Addr)(cd:Value)(A:Around)(outer:List Env)(s:Shared)(H:Hp)(E:XK):Cx where
 prog:=P
 w:=w
 K:=K
 mg:=mg
 base:=base
 A:=A.deeper (envOfC qual scope s.heap.objs.size f cd)
 N:=N
 s₀:=s
 Hz:=H
 env:=envOfC qual scope s.heap.objs.size f cd
 outer:=outer
 stack:=envOfC qual scope s.heap.objs.size f cd::outer
 ex:=[]
 calm:=true
 fn:=fun _=>true
 pn:=[]
 xe:=fun e s'=>wpAny (model P w) (A.deeper (envOfC qual scope s.heap.objs.size f cd)) (leaving (envOfC qual scope s.heap.objs.size f cd) e) (fun _ s''=>CX outer H s E e s'') (fun e' s''=>CX outer H s E e' s'') s'
theorem jna{sc:Scope}{n:Nat}{x:Str}(h:sc.names.lookup x=some .cell):∃ c,(cellsFrom n sc.names []).lookup x=some c:=by
 have q:=W.cellsFrom_some sc.names n [] (.inl h);exact Option.isSome_iff_exists.mp q
theorem jp7{CX:CXT}{P:Program}{w:World}{K:W.Frag}{mg:Str->Option Value}{base:Heap}{N ps:List Str}{qual:Str}{scope:Scope}{f:Addr}{cd:Value}{A:Around}{outer:List Env}{s s1:Shared}{H:Hp}{E:XK}{us:List Value}{vs:List V}
  (S:FnScope N ps scope) (hd:A.handled=none) (e0:Env0 P w K mg base A outer s H) (hl:vs.length=ps.length) (r:Vals vs us)
  (x:InCallC s s.heap.objs.size (bindL (envOfC qual scope s.heap.objs.size f cd).kindOf (ps.zip us) fun _=>none) (cellsFrom (s.heap.objs.size+1) scope.names []) (bindC (envOfC qual scope s.heap.objs.size f cd).kindOf (ps.zip us) fun _=>none) s1) :
  Inv (cxOf CX P w K mg base N qual scope f cd A outer s H E) [] (start N vs) H s1:=by
 have hpl:ps.length<=N.length:=by have:=congrArg List.length S.pre;rw[List.length_take] at this;omega
 obtain⟨h1,tk,rfl,hk⟩:=x.done;have noA:∀ b:Addr,b∉(cxOf CX P w K mg base N qual scope f cd A outer s H E).ex:=fun b z=>absurd (show b∈([]:List Addr) from z) (by simp)
 refine⟨⟨e0.mod,S.kind,rfl,rfl,zac _,fun y z c h1 h2=>?_,fun y hy=>?_,fun y c _ h=>?_,fun _=>hd,Around.frames_deeper e0.frames,.inr ⟨rfl,rfl⟩,fun b z=>absurd z (noA b),e0.bs,e0.bsz,fun b _ _=>noA b,fun b z=>absurd z (noA b),e0.funs,e0.frf⟩,
  rfl,e0.bare,Un.kept hk,⟨_,x.toInCall.ns,fun i y v h1 h2 h3=>?_⟩,fun y c h=>⟨_,x.cell y c h⟩,e0.hok.fresh (zac _),fun y c h=>?_,fun p hp=>absurd (show p∈([]:List (Addr×Obj)) from hp) (by simp),e0.hok.kept hk,?_⟩
 ·exact name_of_addr x.apart (PySem.mem_of_lookup h1) (PySem.mem_of_lookup h2)
 ·have hy:scope.names.lookup y=some .cell\/scope.names.lookup y=some .free:=hy;rcases hy with hy|hy
  ·exact jna hy
  ·exact absurd rfl (S.nofree _ (PySem.mem_of_lookup hy))
 ·exact Nat.le_of_lt (x.above y c (PySem.mem_of_lookup h))
 ·have hi:i<vs.length:=by
   unfold start at h2
   by_cases hi:i<vs.length
   ·exact hi
   ·rw[List.getElem?_append_right (by simpa using hi)] at h2;rw[List.getElem?_replicate] at h2
    split at h2<;>cases h2
  have ha:vs[i]? = some v:=by
   unfold start at h2;rw[List.getElem?_append_left (by simpa using hi),zba] at h2
   cases e:vs[i]? with
   | none=>rw[e] at h2;cases h2
   | some a=>rw[e] at h2;cases h2;rfl
  obtain⟨u,hu,rv⟩:=r.get ha;have hp:ps[i]? = some y:=by
   rw[<- S.pre,List.getElem?_take_of_lt (by omega)];exact h1
  have ndP:ps.Nodup:=by rw[<- S.pre];exact S.nd.sublist (List.take_sublist _ _)
  refine⟨u,rv,?_⟩;rcases S.par y (List.mem_of_getElem? hp) with k|k
  ·exact .inl ⟨k,jkq ndP hp hu k⟩
  ·obtain⟨c,e⟩:=jna (n:=s.heap.objs.size+1) k;refine .inr ⟨.inl k,c,e,?_⟩;have q:=x.cell y c e;rw[jko ndP hp hu (by show scope.names.lookup y≠_;rw[k];decide)] at q;exact q
 ·exact e0.hok.fresh (Nat.le_of_lt (x.above y c (PySem.mem_of_lookup h)))
 ·unfold start;show _=N.length;rw[zca,zav,List.length_replicate];omega
theorem jv1{CX:CXT}{P:Program}{w:World}{K:W.Frag}{mg:Str->Option Value}{base:Heap}{k:Nat}{f:Addr}{name qual:Str}{params:Arguments}{body:List Stmt}{scope:Scope}{dV kV doc pm cdv ct oc:Value}{an od:Option Addr}
  {osl:Array (Option Value)} {N ps:List Str} {sp:Sp} (lk:K.lookup f=some ⟨oc,od,.func (W.fnOf name qual params body scope dV kV doc pm an cdv ct),osl⟩) (hcd:W.codeIn K cdv qual=true) (S:FnScope N ps scope)
  (len:∀ vs H Q E,sp vs H Q E->vs.length=ps.length)
  (hbody:∀ (A:Around) (outer:List Env) (s:Shared) (H:Hp) (vs:List V) (Q:VK) (E:XK),Room k (A.deeper (envOfC qual scope s.heap.objs.size f cdv))->sp vs H Q E ->
   ∃ t,PSs (cxOf CX P w K mg base N qual scope f cdv A outer s H E) body t/\t { nx:=fun _ H'=>Q .non H',rt:=Q } (start N vs) H) :
  FnOk P w K mg base CX (k+1) f (W.fnOf name qual params body scope dV kV doc pm an cdv ct) ps sp:=by
 refine⟨len,fun A outer s H args us vs Q E hr e0 hb r hsp=>?_⟩;have hl:=len _ _ _ _ hsp;have KX:K.In s.heap:=e0.mod.kin.keeps fun b o e=>(e0.bs b o e).1
 have lim:s.heap.NoLimit:=e0.mod.nolimit.keeps fun b o e=>(e0.bs b o e).1
 have hkind:∀ y∈ps.zip us,scope.names.lookup y.1=some .local\/(scope.names.lookup y.1=some .cell/\((cellsFrom (s.heap.objs.size+1) scope.names []).lookup y.1).isSome=true):=fun ⟨n,v⟩ hy=>by
  rcases S.par n (List.of_mem_zip hy).1 with q|q
  ·exact .inl q
  ·exact .inr ⟨q,W.cellsFrom_some _ _ _ (.inl q)⟩
 refine codeAny_call_function hr.depth (KX _ _ lk) rfl S.co S.gen rfl (W.codeRec_of KX hcd) (hb _ _ _ _ ?_);refine wpAny_newFunctionEnv_cells S.kind hkind fun env he s1 x=>?_
 subst he;refine⟨lim.keeps x.toInCall.keep,codeAny_func ?_⟩;obtain⟨t,ht,hq⟩:=hbody A outer s H vs Q E (hr.deeper _) hsp;have I:Inv (cxOf CX P w K mg base N qual scope f cdv A outer s H E) [] (start N vs) H s1:=jp7 S hr.hd e0 hl r x;refine wpAny_mono (ht [] s1 (start N vs) H _ I hq) (fun fl s' hs=>?_) fun e s' hs=>hs
 have fin:∀ {σ':St} {H':Hp} {v:V} {u:Value},Inv (cxOf CX P w K mg base N qual scope f cdv A outer s H E) [] σ' H' s'->RelV v u->Q v H'->CE outer P w H s Q u s' :=
  fun {σ' H' v u} J rv q=>⟨v,H',J.os,J.bare,J.base,J.hok,rv,q⟩
 cases fl with
 | ret u =>
  obtain⟨v,σ',H',J,rv,q⟩:=hs;exact fin J rv q
 | next =>
  obtain⟨σ',H',J,q⟩:=hs;exact fin (v:=V.non) (u:=Value.none) J rfl q
 | brk =>
  obtain⟨_,_,_,q⟩:=hs;exact False.elim q
 | cont =>
  obtain⟨_,_,_,q⟩:=hs;exact False.elim q
section
variable {X:Cx}{x:Str}{p pos:Pos}{e:Expr}{es:List Expr}{t:TA}{id T:String}{r:List V->Hp->VK->Prop}
noncomputable def tCB(r:List V->Hp->VK->Prop)(t:TA):TE:=fun σ H Q=>t σ H fun vs H1=>r vs H1 Q
theorem jhz(hc:CallR X (.builtin id) r)(hg:Gl X x)(hm:X.mg x=none)(hv:bootBuiltins x=some (.builtin id))(ha:PA X (e::es) t)(hn:autoParam (x≠"__name__") zau1._auto_1)(hdb:autoParam ((x == ("__debug__":Str))=false) zau1._auto_1)
  (he:autoParam (starEach (e::es) X.env=(false,eval e X.env)::starEach es X.env) zau2._auto_1) (hpl:autoParam ((backTo pos (starEach es X.env)).any (·.1)=false) zau2._auto_1):PE X (.Call (.Name x p) (e::es) [] pos) (tCB r t):=by
 intro pins s σ H Q I h;refine wpAny_Call_Name_kw (jji I hg hm hv ?_ hn hdb);exact PyProof.Rows.callWith_builtin1 (thn (ha pos pins s σ H _ I h) fun us s1 ⟨vs,H1,I1,r1,q1⟩=>hc pins s1 σ H1 vs us Q I1 r1 q1) he hpl
theorem jfp(hc:CallR X (.type T) r)(hg:Gl X x)(hm:X.mg x=none)(hv:bootBuiltins x=some (.type T))(ha:PA X (e::es) t)(hn:autoParam (x≠"__name__") zau1._auto_1)(hdb:autoParam ((x == ("__debug__":Str))=false) zau1._auto_1)
  (he:autoParam (starEach (e::es) X.env=(false,eval e X.env)::starEach es X.env) zau2._auto_1) (hpl:autoParam ((backTo pos (starEach es X.env)).any (·.1)=false) zau2._auto_1):PE X (.Call (.Name x p) (e::es) [] pos) (tCB r t):=by
 intro pins s σ H Q I h;refine wpAny_Call_Name_kw (jji I hg hm hv ?_ hn hdb);exact PyProof.Rows.callWith_type1 (thn (ha pos pins s σ H _ I h) fun us s1 ⟨vs,H1,I1,r1,q1⟩=>hc pins s1 σ H1 vs us Q I1 r1 q1) he hpl
end
end L2
namespace HT
open PySem PyProof.Rows
section
open PySem.SeqAt
open PySem.AutoSeq1 (wpAny_loadPart')
open PySem.MeetsSeq PySem.MeetsSeq2 PySem.MeetsSeq3
end
section
variable {prog:Program}{w:World}{A:Around}{E:Value->Shared->Prop}{s:Shared}
theorem cat_tup{t b:Addr}{vs ws:List Value}{Q:Value->Shared->Prop}(ht:IsTup s.heap t vs.toArray)(hb:IsTup s.heap b ws.toArray)(hv:vs≠[])
  (h1:ws=[]->Q (.ref t) s) (h2:ws≠[]->Q (.ref s.heap.objs.size) { s with heap:=s.heap.push { cls:=.type "tuple",data:=.seq (vs++ws).toArray } })
  (hsz:vs.length+ws.length<=sizeLine):wpAny (model prog w) A (binaryOp .Add (.ref t) (.ref b)) Q E s:=by
 obtain⟨⟨cls,dd,data,sl⟩,ho,hc,n,hd⟩:=id ht;obtain⟨⟨cls2,dd2,data2,sl2⟩,ho2,hc2,n2,hd2⟩:=id hb;simp only at hc hd hc2 hd2;subst hc hd hc2 hd2;have e:vs.toArray++ws.toArray=(vs++ws).toArray:=by simp
 by_cases hw:ws=[]
 ·exact concat_meets ⟨_,ho,rfl⟩ ⟨_,ho2,rfl⟩ noFill_tuple_add seq_tuple_add PySem.F.slot_tuple_add PySem.F.entry_tuple_add (PySem.F.args_tuple_add_2 _ _)
   (tuple_addW1 t b vs.toArray ws.toArray n n2 dd dd2 sl sl2 (by simpa using hv) (by simp[hw])) ⟨ho,ho2,h1 hw⟩
 ·refine concat_meets ⟨_,ho,rfl⟩ ⟨_,ho2,rfl⟩ noFill_tuple_add seq_tuple_add PySem.F.slot_tuple_add PySem.F.entry_tuple_add (PySem.F.args_tuple_add_2 _ _)
   (tuple_addW2 t b vs.toArray ws.toArray n n2 dd dd2 sl sl2 (by simpa using hv) (by simpa using hw) (by rw[zbx,zbx];exact hsz)) ⟨ho,ho2,?_⟩
  rw[e];exact h2 hw
noncomputable def sIx(n d:Nat):Option Int->Nat
 | none=>d
 | some v=>if v<0 then (v+(n:Int)).toNat else min v.toNat n
theorem sIx_nat(n d k:Nat):sIx n d (some (k:Int))=min k n:=by
 show (if (k:Int)<0 then ((k:Int)+(n:Int)).toNat else min (k:Int).toNat n)=min k n;rw[if_neg (by omega),Int.toNat_natCast]
theorem jAt(n d:Nat)(hd:d<=n)(o:Option Int):sIx n d o<=n:=by
 cases o with
 | none=>exact hd
 | some v =>
  show (if v<0 then (v+(n:Int)).toNat else min v.toNat n)<=n
  by_cases hv:v<0
  ·rw[if_pos hv];omega
  ·rw[if_neg hv];exact Nat.min_le_right _ _
theorem jpn(v:Int)(n d:Nat):(if v<0 then max (v+(n:Int)) 0 else min v (n:Int))=((sIx n d (some v):Nat):Int):=by
 show (if v<0 then max (v+(n:Int)) 0 else min v (n:Int))=(((if v<0 then (v+(n:Int)).toNat else min v.toNat n):Nat):Int)
 by_cases hv:v<0
 ·simp only[if_pos hv];omega
 ·simp only[if_neg hv];omega
theorem jn8(lo hi:Option Int)(n:Nat):Builtin.Slice.sliceAdjust lo hi 1 (n:Int)=(((sIx n 0 lo:Nat):Int),((sIx n n hi:Nat):Int)):=by
 have h1:¬ ((1:Int)<0):=by omega
 unfold Builtin.Slice.sliceAdjust;simp only[h1,if_false];refine Prod.ext ?_ ?_
 ·cases lo with
  | none=>rfl
  | some v=>exact jpn v n 0
 ·cases hi with
  | none=>rfl
  | some v=>exact jpn v n n
theorem jor(i j:Nat):Builtin.Slice.slicePlaces (i:Int) (j:Int) 1=j-i:=by
 unfold Builtin.Slice.slicePlaces;have h1:(1:Int) > 0:=by omega
 simp only[h1,if_true,Int.ediv_one]
 split<;>omega
theorem jjo{v:Value}{o:Option Int}{Q:Option Int->Shared->Prop}(p:IsPart v o)(h:Q o s):wpAny (model prog w) A (Builtin.Slice.slicePartIndex v) Q E s:=by
 cases p with
 | none=>exact slicePart_none h
 | int i t=>exact slicePart_int h
theorem jhu{sl:Addr}{vl vu:Value}{lo hi:Option Int}{n:Nat}{Q:Int×Int×Nat->Shared->Prop}(hs:s.heap.IsSliceOf sl vl vu .none)(pl:IsPart vl lo)(pu:IsPart vu hi)
  (h:Q (((sIx n 0 lo:Nat):Int),1,sIx n n hi-sIx n 0 lo) s):wpAny (model prog w) A (Builtin.Slice.sliceApplied (.ref sl) (pure (n:Int))) Q E s:=by
 obtain⟨os,hos,hcs,hds⟩:=id hs;unfold Builtin.Slice.sliceApplied Builtin.Slice.sliceFields;refine zay (zay (wpAny_field hos hds (x:=vl) rfl (zay (wpAny_field hos hds (x:=vu) rfl (zay (wpAny_field hos hds (x:=.none) rfl (zab ?_)))))));refine zay (slicePart_none ?_);show wpAny _ _ (if ((1:Int) == 0)=true then _ else _) _ _ s;rw[if_neg (by decide)];refine zay (jjo pl (zay (jjo pu (zay (zab ?_)))));show wpAny _ _ (match Builtin.Slice.sliceAdjust lo hi 1 (n:Int) with|(lo,hi)=>pure (lo,(1:Int),Builtin.Slice.slicePlaces lo hi 1)) _ _ s;rw[jn8 lo hi n];show wpAny _ _ (pure (((sIx n 0 lo:Nat):Int),(1:Int),Builtin.Slice.slicePlaces ((sIx n 0 lo:Nat):Int) ((sIx n n hi:Nat):Int) 1)) _ _ s;rw[jor];exact zab h
theorem jtp(xs:Array Value)(i k:Nat):((List.range k).filterMap fun (m:Nat)=>xs[((i:Int)+(m:Int)*1).toNat]?).toArray=((xs.toList.drop i).take k).toArray:=by
 have e:(fun (m:Nat)=>xs[((i:Int)+(m:Int)*1).toNat]?)=fun m=>xs[i+m]?:=by
  funext m
  have:((i:Int)+(m:Int)*1).toNat=i+m:=by omega
  rw[this]
 rw[e];have:=pick_run xs i k;rw[List.filterMap_map] at this;have e2:((fun x=>xs[x]?) ∘ fun x=>i+x)=fun m=>xs[i+m]?:=rfl
 rw[e2] at this;rw[this]
theorem getItem_tuple_cut{t sl:Addr}{items:Array Value}{vl vu:Value}{lo hi:Option Int}{Q:Value->Shared->Prop}(ht:IsTup s.heap t items)(hs:s.heap.IsSliceOf sl vl vu .none)(pl:IsPart vl lo)(pu:IsPart vu hi)
  (hw:¬ (sIx items.size 0 lo=0/\sIx items.size items.size hi=items.size))
  (h:Q (.ref s.heap.objs.size) { s with heap:=s.heap.push { cls:=.type "tuple",data:=.seq ((items.toList.drop (sIx items.size 0 lo)).take (sIx items.size items.size hi-sIx items.size 0 lo)).toArray } })
  (hsz:items.size<=sizeLine):wpAny (model prog w) A (getItem (.ref t) (.ref sl)) Q E s:=by
 have htake:sizeOk (.seq ((items.toList.drop (sIx items.size 0 lo)).take (sIx items.size items.size hi-sIx items.size 0 lo)).toArray):=by
  show ((items.toList.drop (sIx items.size 0 lo)).take (sIx items.size items.size hi-sIx items.size 0 lo)).toArray.size<=sizeLine;rw[zbx,List.length_take,List.length_drop,Array.length_toList];omega
 have hj:sIx items.size items.size hi<=items.size:=jAt _ _ (zac _) hi;obtain⟨os,hos,hcs,hds⟩:=id hs;have hTs:s.TypeIs (.ref sl) "slice":=⟨os,hos,hcs⟩
 unfold getItem
 try with_reducible refine wpAny_holding ?_
 first|refine zay (zab ?_)|skip
 refine zay (wpAny_sequenceKey ht.typeIs (by decide) ?_);refine zay (wpAny_callSpecial?_slot (name:=Str.ofString "__getitem__") ht.typeIs PyProof.Rows.slot_tuple_getitem
  (wpAny_call_entry PyProof.Rows.slot_tuple_getitem ht.typeIs entry_tuple_getitem ?_ (args_tuple_getitem _ _)))
 show wpAny _ _ (Builtin.Tuple.tupleItemsOf (.ref t) >>= _) _ _ s;refine zay (tupleItemsOf_ ht ?_);refine zay (wpAny_typeOf hTs ?_);rw[if_pos (by decide)];refine zay (jhu hs pl pu ?_);have hno:¬ ((((sIx items.size 0 lo:Nat):Int) == 0&&(1:Int) == 1&&(sIx items.size items.size hi-sIx items.size 0 lo) == items.size)=true):=by
  intro q;rw[Bool.and_eq_true,Bool.and_eq_true] at q;have q1:((sIx items.size 0 lo:Nat):Int)=0:=eq_of_beq q.1.1;have q2:sIx items.size items.size hi-sIx items.size 0 lo=items.size:=eq_of_beq q.2;exact hw ⟨by omega,by omega⟩
 show wpAny _ _ (if (((sIx items.size 0 lo:Nat):Int) == 0&&(1:Int) == 1&&(sIx items.size items.size hi-sIx items.size 0 lo) == items.size)=true then _ else _) _ _ s;rw[if_neg hno,jtp]
 first
  | exact zay (m:=Builtin.Tuple.tupleExact _) (wpAny_newObj_type (zab ⟨_,rfl,zab h⟩) htake)
  | exact zay (m:=Builtin.Tuple.tupleExact _) (wpAny_newObj_type (zay (zab (zab ⟨_,rfl,zab h⟩))) htake)
  | exact zay (zay (m:=Builtin.Tuple.tupleExact _) (wpAny_newObj_type (zab (zab ⟨_,rfl,zab h⟩)) htake))
  | exact zay (zay (m:=Builtin.Tuple.tupleExact _) (wpAny_newObj_type (zab ⟨_,rfl,zab h⟩) htake))
end
end HT
namespace L2
open PySem PySem.Spec PyProof.Rows
noncomputable abbrev TO:=St->Hp->(Option Int->Hp->Prop)->Prop
noncomputable def PO(X:Cx)(e:Option Expr)(t:TO):Prop :=
 ∀ (pins:List (Addr×Obj)) (s:Shared) (σ:St) (H:Hp) (Q:Option Int->Hp->Prop),Inv X pins σ H s->t σ H Q ->
  wpAny (model X.prog X.w) X.A (evalPart e X.env) (fun u s'=>∃ o H',Inv X pins σ H' s'/\IsPart u o/\Q o H') X.xe s
noncomputable def jxp:TO:=fun _ H Q=>Q none H
noncomputable def jC5(t:TE):TO:=fun σ H Q=>t σ H fun x H1=>∃ i,x=.int i/\Q (some i) H1
section
variable {X:Cx}{e:Expr}{te:TE}{lo hi:Option Expr}{tl th:TO}{pos p2:Pos}
theorem jxa:PO X none jxp:=by
 intro pins s σ H Q I h;rw[evalPart_none];exact zab ⟨none,H,I,.none,h⟩
theorem jxb(h:PE X e te):PO X (some e) (jC5 te):=by
 intro pins s σ H Q I hw;rw[evalPart_some];refine thn (h pins s σ H _ I hw) fun u s1 hzz=>?_
 obtain⟨x,H1,I1,r1,q1⟩:=hzz;obtain⟨i,rfl,q⟩:=q1;obtain⟨t,rfl⟩:=r1;exact⟨some i,H1,I1,.int i t,q⟩
noncomputable def SlR(X:Cx)(r:V->Option Int->Option Int->Hp->VK->Prop):Prop :=
 ∀ (pins:List (Addr×Obj)) (s:Shared) (σ:St) (H:Hp) (x:V) (v vl vu:Value) (lo hi:Option Int) (sl:Addr) (Q:VK),Inv X pins σ H s->RelV x v->s.heap.IsSliceOf sl vl vu .none->IsPart vl lo->IsPart vu hi->r x lo hi H Q ->
  ∃ T id,typeLookup (.type T) "__getitem__"=pure (some (.builtin id))/\s.TypeIs v T/\wpAny (model X.prog X.w) X.A (getItem v (.ref sl)) (EP X pins σ Q) X.xe s
theorem SlR.or{r r':V->Option Int->Option Int->Hp->VK->Prop}(h:SlR X r)(h':SlR X r'):SlR X (fun x lo hi H Q=>r x lo hi H Q\/r' x lo hi H Q):=by
 intro pins s σ H x v vl vu lo hi sl Q I rx hs pl pu q;rcases q with q|q
 ·exact h pins s σ H x v vl vu lo hi sl Q I rx hs pl pu q
 ·exact h' pins s σ H x v vl vu lo hi sl Q I rx hs pl pu q
noncomputable def tSl(r:V->Option Int->Option Int->Hp->VK->Prop)(te:TE)(tl th:TO):TE:=fun σ H Q=>te σ H fun x H1=>tl σ H1 fun l H2=>th σ H2 fun u H3=>r x l u H3 Q
theorem jns{r:V->Option Int->Option Int->Hp->VK->Prop}(hr:SlR X r)(he:PE X e te)(hl:PO X lo tl)(hu:PO X hi th):PE X (.Subscript e (.Slice lo hi none p2) pos) (tSl r te tl th):=by
 intro pins s σ H Q I h;refine Subscript_ (thn (he pins s σ H _ I h) fun v s1 hzz=>?_);obtain⟨x,H1,I1,r1,q1⟩:=hzz;refine wpAny_Slice (thn (hl pins s1 σ H1 _ I1 q1) fun vl s2 ⟨l,H2,I2,pl,q2⟩=>thn (hu pins s2 σ H2 _ I2 q2) fun vu s3 hzz=>?_);obtain⟨u,H3,I3,pu,q3⟩:=hzz;rw[evalPart_none];refine zab ?_;have I4:Inv X pins σ H3 { s3 with heap:=s3.heap.push { cls:=.type "slice",data:=.fields #[vl,vu,.none] } }:=I3.kept (t':=s3.toks) fun b ob q=>zaz _ q
 obtain⟨T,id,hT,ht,hg⟩:=hr pins { s3 with heap:=s3.heap.push { cls:=.type "slice",data:=.fields #[vl,vu,.none] } } σ H3 x v vl vu l u s3.heap.objs.size Q I4 r1 (Heap.IsSliceOf.new ..) pl pu q3;show wpAny (model X.prog X.w) X.A (subscriptTail e (.Slice lo hi none p2) v (.ref s3.heap.objs.size)) (EP X pins σ Q) X.xe { s3 with heap:=s3.heap.push { cls:=.type "slice",data:=.fields #[vl,vu,.none] } };exact tail_any (ops:=[.ref s3.heap.objs.size,v]) ht hT hg (by with_unfolding_all rfl)
noncomputable def cutV(xs:List V)(lo hi:Option Int):List V:=(xs.drop (HT.sIx xs.length 0 lo)).take (HT.sIx xs.length xs.length hi-HT.sIx xs.length 0 lo)
theorem jh7(xs:List V)(lo hi:Option Int):(cutV xs lo hi).length<=xs.length:=by
 unfold cutV;rw[List.length_take,List.length_drop];omega
noncomputable def rSlT(K:W.Frag):V->Option Int->Option Int->Hp->VK->Prop:=fun x lo hi H Q=>∃ a xs,x=.ref a/\SqT K H a xs /\
 ¬ (HT.sIx xs.length 0 lo=0/\HT.sIx xs.length xs.length hi=xs.length)/\∀ p,H p=none->Q (.ref p) (upd H p (.tup (cutV xs lo hi)))
theorem sl_tup:SlR X (rSlT X.K):=by
 intro pins s σ H x v vl vu lo hi sl Q I rx hs pl pu h;obtain⟨a,xs,rfl,hx,hw,q⟩:=h;cases rx;obtain⟨its,r,ht,hz⟩:=I.tuple hx;have hlen:its.toArray.size=xs.length:=by rw[zbx];exact r.length.symm
 refine⟨"tuple",_,PyProof.Rows.slot_tuple_getitem.lookup,ht.typeIs,?_⟩;refine HT.getItem_tuple_cut ht hs pl pu (by rw[hlen];exact hw) ?_ (by rw[hlen];exact hz);rw[hlen];refine⟨.ref s.heap.objs.size,_,I.laid (t':=s.toks) (o:=.tup (cutV xs lo hi)) (fun b ob q=>zaz _ q) (zac _) ?_,rfl,q _ (I.hok.fresh (zac _))⟩;exact⟨zcc (jh7 xs lo hi) hz,_,(r.drop (HT.sIx xs.length 0 lo)).take (HT.sIx xs.length xs.length hi-HT.sIx xs.length 0 lo),IsTup.new _ _⟩
noncomputable def jrg(K:W.Frag):R2:=fun x y H Q=>∃ a b xs ys,x=.ref a/\y=.ref b/\SqT K H a xs/\SqT K H b ys/\xs≠[]/\xs.length+ys.length<=sizeLine /\
 (ys=[]->Q (.ref a) H)/\(ys≠[]->∀ p,H p=none->Q (.ref p) (upd H p (.tup (xs++ys))))
theorem Vals.nil_iff{xs:List V}{us:List Value}(r:Vals xs us):us=[]↔xs=[]:=by
 cases r with
 | nil=>simp
 | cons _ _=>simp
theorem jqz:OpR X (binaryOp .Add) (jrg X.K):=by
 intro pins s σ H x y v u Q I rx ry h;obtain⟨a,b,xs,ys,rfl,rfl,ha,hb,hx,hz,q1,q2⟩:=h;cases rx;cases ry;obtain⟨its,r1,p1,_⟩:=I.tuple ha;obtain⟨its2,r2,p2,_⟩:=I.tuple hb;refine HT.cat_tup p1 p2 (fun z=>hx (r1.nil_iff.mp z)) (fun z=>⟨.ref a,H,I,rfl,q1 (r2.nil_iff.mp z)⟩) (fun z=>?_) (by rw[<- r1.length,<- r2.length];exact hz);refine⟨.ref s.heap.objs.size,_,I.laid (t':=s.toks) (o:=.tup (xs++ys)) (fun b ob q=>zaz _ q) (zac _) ?_,rfl,q2 (fun w=>z (r2.nil_iff.mpr w)) _ (I.hok.fresh (zac _))⟩;exact⟨by rw[zca];exact hz,_,r1.append r2,IsTup.new _ _⟩
end
noncomputable def ixN(n:Nat)(i:Int):Option Nat:=if 0<=i then (if i<n then some i.toNat else none) else if -(n:Int)<=i then some (i+n).toNat else none
noncomputable def atI{α:Type}(xs:List α)(i:Int):Option α:=(ixN xs.length i).bind fun j=>xs[j]?
theorem jqd{n:Nat}{i:Int}{j:Nat}(h:ixN n i=some j):seqIndex? i n=some j/\j<n/\-(n:Int)<=i/\i<n:=by
 unfold ixN at h
 by_cases h0:0<=i
 ·rw[if_pos h0] at h
  by_cases h1:i<n
  ·rw[if_pos h1] at h;have e:i.toNat=j:=zby h;exact⟨by rw[seqIndex_of h0 h1,e],by omega,by omega,h1⟩
  ·rw[if_neg h1] at h;cases h
 ·rw[if_neg h0] at h
  by_cases h1:-(n:Int)<=i
  ·rw[if_pos h1] at h;have e:(i+n).toNat=j:=zby h;exact⟨by rw[seqIndex_neg (by omega) h1,e],by omega,h1,by omega⟩
  ·rw[if_neg h1] at h;cases h
theorem atI_get{α:Type}{xs:List α}{i:Int}{v:α}(h:atI xs i=some v):∃ j,seqIndex? i xs.length=some j/\xs[j]? = some v/\j<xs.length/\-(xs.length:Int)<=i/\i<xs.length:=by
 unfold atI at h
 cases e:ixN xs.length i with
 | none=>rw[e] at h;cases h
 | some j =>
  rw[e] at h;obtain⟨h1,h2,h3,h4⟩:=jqd e;exact⟨j,h1,h,h2,h3,h4⟩
noncomputable def jjq(b:Expr):Prop:=∀ o i,subscripted b false o i=operate [o,i] (getItem o i)
noncomputable def IxR(X:Cx)(r:R2):Prop :=
 ∀ (value slice:Expr) (pins:List (Addr×Obj)) (s:Shared) (σ:St) (H:Hp) (x y:V) (v u:Value) (Q:VK),Inv X pins σ H s->RelV x v->RelV y u->r x y H Q ->
  subscripted slice false v u=operate [v,u] (getItem v u)->wpAny (model X.prog X.w) X.A (subscriptTail value slice v u) (EP X pins σ Q) X.xe s
noncomputable def MtR(X:Cx)(id:String)(r:V->List V->Hp->VK->Prop):Prop :=
 ∀ (pins:List (Addr×Obj)) (s:Shared) (σ:St) (H:Hp) (x:V) (xs:List V) (v:Value) (us:List Value) (Q:VK),Inv X pins σ H s->RelV x v->Vals xs us->r x xs H Q ->
  wpAny (model X.prog X.w) X.A (call (.builtin id) (v::us)) (EP X pins σ Q) X.xe s
section
variable {X:Cx}{a b:Expr}{ta tb:TE}{pos:Pos}
theorem IxR.or{r r':R2}(h:IxR X r)(h':IxR X r'):IxR X (fun x y H Q=>r x y H Q\/r' x y H Q):=by
 intro value slice pins s σ H x y v u Q I rx ry q hs;rcases q with q|q
 ·exact h value slice pins s σ H x y v u Q I rx ry q hs
 ·exact h' value slice pins s σ H x y v u Q I rx ry q hs
theorem jw5{r:R2}(hr:IxR X r)(ha:PE X a ta)(hb:PE X b tb)(hs:jjq b):PE X (.Subscript a b pos) (tOp r ta tb):=by
 intro pins s σ H Q I h;exact Subscript_ (binT ha hb I h fun v u s2 x y H2 I2 rx ry q=>hr a b pins s2 σ H2 x y v u Q I2 rx ry q (hs _ _))
noncomputable def rIxL(K:W.Frag):R2:=fun x y H Q=>∃ p xs i v,x=.ref p/\y=.int i/\SqL K H p xs/\atI xs i=some v/\Q v H
noncomputable def rIxT(K:W.Frag):R2:=fun x y H Q=>∃ p xs i v,x=.ref p/\y=.int i/\SqT K H p xs/\atI xs i=some v/\Q v H
noncomputable def rIxS:R2:=fun x y H Q=>∃ z i c,x=.str z/\y=.int i/\z.length<=sizeLine/\atI z.cps.toList i=some c/\Q (.str ⟨#[c]⟩) H
theorem ix_list:IxR X (rIxL X.K):=by
 intro value slice pins s σ H x y v u Q I rx ry h hs;obtain⟨p,xs,i,z,rfl,rfl,hq,he,q⟩:=h;cases rx;obtain⟨t,rfl⟩:=ry;obtain⟨its,r,pl,hz⟩:=I.list hq;obtain⟨j,h1,h2,h3,h4,h5⟩:=atI_get he;obtain⟨w,ew,rw'⟩:=r.get h2;have hl:=r.length;have hn:=jii;have fin:EP X pins σ Q w s:=⟨z,H,I,rw',q⟩
 by_cases h0:0<=i
 ·have hj:i.toNat=j:=by
   rw[seqIndex_of h0 h5] at h1;exact zby h1
  exact item_listR pl.isList h0 (by omega) (by rw[hj];simpa using ew) fin hs
 ·have hj:(i+(its.toArray.size:Int)).toNat=j:=by
   rw[seqIndex_neg (by omega) h4] at h1;rw[zbx,<- hl];exact zby h1
  exact subscriptTail_builtinR (x:=w) pl.isList.typeIs slot_list_getitem.lookup
   (wpAny_getItem_list_neg (Q:=fun r s'=>r=w/\EP X pins σ Q r s') pl.isList (by omega) (by rw[zbx]<;>omega) (by omega) (by rw[hj];simpa using ew) ⟨rfl,fin⟩) hs
theorem ix_tup:IxR X (rIxT X.K):=by
 intro value slice pins s σ H x y v u Q I rx ry h hs;obtain⟨p,xs,i,z,rfl,rfl,hq,he,q⟩:=h;cases rx;obtain⟨t,rfl⟩:=ry;obtain⟨its,r,pl,hz⟩:=I.tuple hq;obtain⟨j,h1,h2,h3,h4,h5⟩:=atI_get he;obtain⟨w,ew,rw'⟩:=r.get h2;have hl:=r.length;have hn:=jii;have fin:EP X pins σ Q w s:=⟨z,H,I,rw',q⟩
 exact subscriptTail_builtinR (x:=w) pl.typeIs slot_tuple_getitem.lookup
  (getItem_tuple (j:=j) (Q:=fun r s'=>r=w/\EP X pins σ Q r s') pl (by omega) (by omega) (by rw[zbx,<- hl];exact h1) (by simpa using ew) ⟨rfl,fin⟩) hs
theorem ix_str:IxR X rIxS:=by
 intro value slice pins s σ H x y v u Q I rx ry h hs;obtain⟨z,i,c,rfl,rfl,hz,he,q⟩:=h;obtain⟨t,rfl⟩:=rx;obtain⟨t',rfl⟩:=ry;obtain⟨j,h1,h2,h3,h4,h5⟩:=atI_get he;have hl:z.cps.toList.length=z.length:=by simp[Str.length]
 rw[hl] at h1 h4 h5;have hn:=jii;exact tail_any (typeIs_str s z t) slot_str_getitem.lookup (getItem_str (c:=c) (by
  have e1:decide (i < -(2 ^ 63:Int))=false:=decide_eq_false (by omega);have e2:decide (i >= 2 ^ 63)=false:=decide_eq_false (by omega);rw[e1,e2,Bool.or_false]) (by rw[h1];simpa using h2) ⟨.str ⟨#[c]⟩,H,I.tok _,⟨_,rfl⟩,q⟩) hs
noncomputable def rIx(K:W.Frag):R2:=fun x y H Q=>rIxL K x y H Q\/rIxT K x y H Q\/rIxS x y H Q
theorem jal:IxR X (rIx X.K):=ix_list.or (ix_tup.or ix_str)
theorem jom(its:List Value)(n j:Nat)(u:Value):Obj.mapSeq (·.setIfInBounds j u) { cls:=.type "list",data:=.seq its.toArray n }={ cls:=.type "list",data:=.seq (its.set j u).toArray n }:=by
 simp[Obj.mapSeq]
theorem Inv.lst{pins:List (Addr×Obj)}{σ:St}{H:Hp}{s:Shared}{p:Addr}{xs:List V}(I:Inv X pins σ H s)(h:H p=some (.lst xs)) :
  ∃ (its:List Value) (n:Nat),Vals xs its/\s.heap.get? p=some { cls:=.type "list",data:=.seq its.toArray n }/\xs.length<=sizeLine:=by
 obtain⟨z,its,n,r,e⟩:=I.hok p _ h;exact⟨its,n,r,e,z⟩
theorem Inv.lstUpd{pins:List (Addr×Obj)}{σ:St}{H:Hp}{s:Shared}{p:Addr}{xs ys:List V}{its its':List Value}{n n':Nat}{f:Obj->Obj}(I:Inv X pins σ H s)(h:H p=some (.lst xs))
  (ho:s.heap.get? p=some { cls:=.type "list",data:=.seq its.toArray n }) (hf:f { cls:=.type "list",data:=.seq its.toArray n }={ cls:=.type "list",data:=.seq its'.toArray n' }) (r:Vals ys its') (hz:ys.length<=sizeLine) (t:Nat) :
  Inv X pins σ (upd H p (.lst ys)) { s with heap:=s.heap.update p f,toks:=t }:=by
 have e:(s.heap.update p f).get? p=some { cls:=.type "list",data:=.seq its'.toArray n' }:=by
  rw[Heap.get?_update_self f ho (by rw[hf]<;>rfl),hf]
 refine I.write (x:=p) (e:=p) (by rw[h];trivial) (.inl rfl) (fun b u hb q=>(Heap.get?_update_other _ _ (Ne.symm hb)).trans q) ⟨_,e⟩ ?_;exact⟨hz,its',n',r,e⟩
noncomputable def jCq:V->V->V->Hp->(Hp->Prop)->Prop:=fun o i v H Q=>∃ p xs k j,o=.ref p/\i=.int k/\H p=some (.lst xs)/\ixN xs.length k=some j/\Q (upd H p (.lst (xs.set j v)))
theorem jn1:PSet X jCq:=by
 intro pins s σ H o i v ov iv u Q I ro ri rv h;obtain⟨p,xs,k,j,rfl,rfl,hp,hj,q⟩:=h;cases ro;obtain⟨t,rfl⟩:=ri;obtain⟨its,n,r,ho,hz⟩:=I.lst hp;obtain⟨h1,h2,h3,h4⟩:=jqd hj;have hl:=r.length;have hn:=jii;have I':Inv X pins σ (upd H p (.lst (xs.set j v))) { s with heap:=s.heap.update p (Obj.mapSeq (·.setIfInBounds j u)) } :=
  I.lstUpd hp ho (jom its n j u) (r.set rv j) (by rw[List.length_set];exact hz) s.toks
 by_cases h0:0<=k
 ·have hk:k.toNat=j:=by
   rw[seqIndex_of h0 h4] at h1;exact zby h1
  exact W.ki_setAt ho h0 (by omega) (by rw[zbx,<- hl];exact h4) (by rw[hk];exact⟨_,I',q⟩)
 ·have hk:(k+(its.toArray.size:Int)).toNat=j:=by
   rw[seqIndex_neg (by omega) h3] at h1;rw[zbx,<- hl];exact zby h1
  exact W.ki_setBack ho (by omega) (by rw[zbx,<- hl];exact h3) (by omega) (by rw[hk];exact⟨_,I',q⟩)
theorem jlw(lo hi:Option Int)(n:Nat):(sliceBounds lo hi none n).1=((HT.sIx n 0 lo:Nat):Int)/\(sliceBounds lo hi none n).2.1=((HT.sIx n n hi:Nat):Int)/\(sliceBounds lo hi none n).2.2=1:=by
 refine⟨?_,?_,rfl⟩
 ·cases lo with
  | none=>simp[sliceBounds,HT.sIx]
  | some i =>
   simp only[sliceBounds,HT.sIx,Option.getD_none,show (1:Int) > 0 by decide,if_true]
   by_cases h:i<0
   ·simp only[h,if_true]<;>omega
   ·simp only[h,if_false]<;>omega
 ·cases hi with
  | none=>simp[sliceBounds,HT.sIx]
  | some i =>
   simp only[sliceBounds,HT.sIx,Option.getD_none,show (1:Int) > 0 by decide,if_true]
   by_cases h:i<0
   ·simp only[h,if_true]<;>omega
   ·simp only[h,if_false]<;>omega
theorem jkn(its:List Value)(lo hi:Option Int):slicePick its.toArray lo hi none=((its.drop (HT.sIx its.length 0 lo)).take (HT.sIx its.length its.length hi-HT.sIx its.length 0 lo)).toArray:=by
 obtain⟨h1,h2,h3⟩:=jlw lo hi its.toArray.size;unfold slicePick;rw[h1,h2,h3];simp only[sliceRange_one,pick_run,zbx]<;>rfl
noncomputable def rSlL(K:W.Frag):V->Option Int->Option Int->Hp->VK->Prop:=fun x lo hi H Q=>∃ a xs,x=.ref a/\SqL K H a xs/\∀ p,H p=none->Q (.ref p) (upd H p (.lst (cutV xs lo hi)))
theorem sl_list:SlR X (rSlL X.K):=by
 intro pins s σ H x v vl vu lo hi sl Q I rx hs pl pu h;obtain⟨a,xs,rfl,hx,q⟩:=h;cases rx;obtain⟨its,r,ht,hz⟩:=I.list hx;have hlen:=r.length;refine⟨"list",_,slot_list_getitem.lookup,ht.isList.typeIs,?_⟩;refine wpAny_getItem_list_slice ht.isList hs pl pu .none (by simp) ?_ (by rw[zbx]<;>omega);rw[jkn,<- hlen];refine⟨.ref s.heap.objs.size,_,I.laid (t':=s.toks) (o:=.lst (cutV xs lo hi)) (fun b ob q=>zaz _ q) (zac _) ?_,rfl,q _ (I.hok.fresh (zac _))⟩;exact⟨zcc (jh7 xs lo hi) hz,_,0,(r.drop (HT.sIx xs.length 0 lo)).take (HT.sIx xs.length xs.length hi-HT.sIx xs.length 0 lo),zbz _ rfl⟩
theorem call_len_seq:CallR X (.builtin "len") (fun xs H Q=>∃ p ys,xs=[.ref p]/\(SqL X.K H p ys\/SqT X.K H p ys)/\Q (.int ys.length) H):=by
 intro pins s σ H xs us Q I r h;obtain⟨p,ys,rfl,hq,q⟩:=h;obtain⟨u,rfl,rx⟩:=jly r;cases rx;have hn:=jii;rcases hq with hq|hq
 ·obtain⟨its,r',pl,hz⟩:=I.list hq;have hlen:=r'.length;exact Calls.call_len_list pl.isList (by simp only[zbx]<;>omega) ⟨.int ys.length,H,I.tok _,⟨s.toks+1,by rw[zbx,hlen]⟩,q⟩
 ·obtain⟨its,r',pl,hz⟩:=I.tuple hq;have hlen:=r'.length;exact len_tuple pl (by simp only[zbx]<;>omega) ⟨.int ys.length,H,I.tok _,⟨s.toks+1,by rw[zbx,hlen]⟩,q⟩
theorem jkw:CallR X (.builtin "len") (fun xs H Q=>∃ z,xs=[.str z]/\z.length<=sizeLine/\Q (.int z.length) H):=by
 intro pins s σ H xs us Q I r h;obtain⟨z,rfl,hz,q⟩:=h;obtain⟨u,rfl,t,rfl⟩:=jly r;have hn:=jii;exact len_str (by omega) ⟨.int z.length,H,I.tok _,⟨_,rfl⟩,q⟩
theorem CallR.or{f:Value}{r r':List V->Hp->VK->Prop}(h:CallR X f r)(h':CallR X f r'):CallR X f (fun xs H Q=>r xs H Q\/r' xs H Q):=by
 intro pins s σ H xs us Q I rs q;rcases q with q|q
 ·exact h pins s σ H xs us Q I rs q
 ·exact h' pins s σ H xs us Q I rs q
theorem jcx:CallR X (.type "list") (fun xs H Q=>∃ p ys,xs=[.ref p]/\(SqL X.K H p ys\/SqT X.K H p ys)/\∀ l,H l=none->Q (.ref l) (upd H l (.lst ys))):=by
 intro pins s σ H xs us Q I r h;obtain⟨p,ys,rfl,hq,q⟩:=h;obtain⟨u,rfl,rx⟩:=jly r;cases rx;have fin:∀ (its:List Value),Vals ys its->ys.length<=sizeLine->∀ (h':Heap) (c':Nat),(∀ b o',s.heap.get? b=some o'->h'.get? b=some o') ->
   h'.get? s.heap.objs.size=some { cls:=.type "list",dict:=none,data:=.seq its.toArray c',slots:=#[] }->EP X pins σ Q (.ref s.heap.objs.size) { s with heap:=h' }:=fun its r' hz h' c' kp e =>
  ⟨.ref s.heap.objs.size,_,I.laid (t':=s.toks) kp (zac _) (show ObjOk X.prog X.w _ h' _ (.lst ys) from ⟨hz,its,c',r',e⟩),rfl,q _ (I.hok.fresh (zac _))⟩
 rcases hq with hq|hq
 ·obtain⟨its,r',pl,hz⟩:=I.list hq;have hlen:=r'.length;obtain⟨o,ho,hc,n,hd⟩:=pl.isList;exact call_list_seq p (.inl rfl) ho hc hd (fun h' c' kp e=>fin its r' hz h' c' kp e) (by simp only[zbx]<;>omega)
 ·obtain⟨its,r',pl,hz⟩:=I.tuple hq;have hlen:=r'.length;obtain⟨o,ho,hc,n,hd⟩:=pl;exact call_list_seq p (.inr rfl) ho hc hd (fun h' c' kp e=>fin its r' hz h' c' kp e) (by simp only[zbx]<;>omega)
theorem jes:CallR X (.type "tuple") (fun xs H Q=>∃ p ys,xs=[.ref p]/\((SqL X.K H p ys/\∀ l,H l=none->Q (.ref l) (upd H l (.tup ys)))\/(SqT X.K H p ys/\Q (.ref p) H))):=by
 intro pins s σ H xs us Q I r h;obtain⟨p,ys,rfl,h⟩:=h;obtain⟨u,rfl,rx⟩:=jly r;cases rx;rcases h with ⟨hq,q⟩|⟨hq,q⟩
 ·obtain⟨its,r',pl,hz⟩:=I.list hq;have hlen:=r'.length;refine call_tuple_list pl.isList (fun h' kp=>?_) (by simp only[zbx]<;>omega);have I1:Inv X pins σ H { s with heap:=h' }:=I.kept (t':=s.toks) kp;have I2:Inv X pins σ (upd H h'.objs.size (.tup ys)) { s with heap:=h'.push { cls:=.type "tuple",data:=.seq its.toArray } } :=
   I1.laid (t':=s.toks) (fun b o e=>zaz _ e) (zac _) (show ObjOk X.prog X.w _ _ _ (.tup ys) from ⟨hz,its,r',IsTup.new _ _⟩)
  exact⟨.ref h'.objs.size,_,I2,rfl,q _ (I1.hok.fresh (zac _))⟩
 ·obtain⟨its,r',pl,hz⟩:=I.tuple hq;exact call_tuple_same pl ⟨.ref p,H,I,rfl,q⟩
noncomputable def tyV(K:W.Frag)(T:String)(x:V)(H:Hp):Prop:=match x with
 | .str _=>T="str"
 | .int _=>T="int"
 | .ref p=>(T="list"/\∃ xs,SqL K H p xs)\/(T="tuple"/\∃ o,K.lookup p=some o/\o.cls=.type "tuple"/\o.dict=none) \/
   (T="dict"/\((∃ kvs,H p=some (.dK kvs))\/∃ kvs,H p=some (.dT kvs)))\/(T="set"/\∃ S n,H p=some (.set S n))
 | _=>False
theorem jA1{pins:List (Addr×Obj)}{σ:St}{H:Hp}{s:Shared}{T:String}{x:V}{v:Value}(I:Inv X pins σ H s)(r:RelV x v)(ty:tyV X.K T x H) :
  s.TypeIs v T/\∀ a,v=.ref a->∃ ob,s.heap.get? a=some ob/\ob.dict=none:=by
 cases x with
 | str z =>
  obtain⟨t,rfl⟩:=r;cases (show T="str" from ty);exact⟨typeIs_str s z t,fun _ e=>nomatch e⟩
 | int i =>
  obtain⟨t,rfl⟩:=r;cases (show T="int" from ty);exact⟨typeIs_int s i t,fun _ e=>nomatch e⟩
 | ref p =>
  cases r;rcases ty with ⟨rfl,xs,hq⟩|⟨rfl,o,hk,hc,hd⟩|⟨rfl,hk⟩|⟨rfl,S,n,hk⟩
  ·obtain⟨its,_,pl,_⟩:=I.list hq;refine⟨pl.isList.typeIs,fun a e=>?_⟩;cases e;obtain⟨o,n,e,c,hd,_⟩:=pl;exact⟨o,e,hd⟩
  ·refine⟨⟨o,I.kIn p o hk,hc⟩,fun a e=>?_⟩;cases e;exact⟨o,I.kIn _ o hk,hd⟩
  ·have z:∃ o,s.heap.get? p=some o/\o.ExactDict:=by
    rcases hk with ⟨kvs,hk⟩|⟨kvs,hk⟩
    ·obtain⟨_,_,_,_,o,_,_,e,ex,_⟩:=I.hok p _ hk;exact⟨o,e,ex⟩
    ·obtain⟨_,_,_,_,o,_,_,e,ex,_⟩:=I.hok p _ hk;exact⟨o,e,ex⟩
   obtain⟨o,e,ex⟩:=z;refine⟨⟨o,e,ex.1⟩,fun a e2=>?_⟩;cases e2;exact⟨o,e,ex.2.1⟩
  ·obtain⟨o,_,_,_,e,ex,_⟩:=I.hok p _ hk;refine⟨⟨o,e,ex.1⟩,fun a e2=>?_⟩;cases e2;exact⟨o,e,ex.2.1⟩
 | _=>exact False.elim ty
noncomputable def tBM(K:W.Frag)(T:String)(r:V->List V->Hp->VK->Prop)(to:TE)(t:TA):TE:=fun σ H Q=>to σ H fun x H1=>tyV K T x H1/\t σ H1 fun xs H2=>r x xs H2 Q
variable {o e:Expr}{es:List Expr}{to:TE}{t:TA}{name:Str}{apos cpos:Pos}{T id:String}{r:V->List V->Hp->VK->Prop}
theorem jz9(pa:PlainAttrs T)(slot:Slot T name id)(hty:typeOf (.builtin id)=pure (.type "method_descriptor"))(hm:MtR X id r)(ho:PE X o to)(ha:PA X (e::es) t)
  (hbase:autoParam (attributeBase o name X.env (eval o X.env)=eval o X.env) zau2._auto_1)
  (hfew:((backTo cpos (starEach (e::es) X.env)).all (fun x=>!x.1)&&(backToKw cpos (keywordEach [] X.env)).all (fun x=>x.1.isSome)
   && decide ((e::es).length+([]:List Keyword).length+(if ([]:List Keyword).isEmpty then 0 else 1)<30))=true:=by rfl)
  (hline:autoParam ((apos.endLine == cpos.line)=true) zau2._auto_1) (hs:autoParam (starEach (e::es) X.env=(false,eval e X.env)::starEach es X.env) zau2._auto_1) (hplain:autoParam ((backTo cpos (starEach es X.env)).any (·.1)=false) zau2._auto_1) :
  PE X (.Call (.Attribute o name apos) (e::es) [] cpos) (tBM X.K T r to t):=by
 intro pins s σ H Q I h;refine wpAny_Call_method_late hbase hfew hline rfl (thn (ho pins s σ H _ I h) fun v s1 hzz=>?_);obtain⟨x,H1,I1,r1,ty,q1⟩:=hzz;obtain⟨h1,h2⟩:=jA1 I1 r1 ty;refine⟨T,id,pa,slot,hty,h1,h2,?_⟩;have hA:=ha cpos pins s1 σ H1 _ I1 q1;rw[hs] at hA |-
 refine Calls.callWith_builtin (by show (false || (backTo cpos (starEach es X.env)).any (·.1))=false;rw[hplain]<;>rfl) (Calls.evalArgs_plain ?_);exact thn hA fun us s2 ⟨vs,H2,I2,r2,q2⟩=>hm pins s2 σ H2 x vs v us Q I2 r1 r2 q2
end
noncomputable def MtM(X:Cx)(id:String)(r:V->List V->Hp->VK->Prop):Prop :=
 ∀ (pins:List (Addr×Obj)) (s:Shared) (σ:St) (H:Hp) (x:V) (xs:List V) (v:Value) (us:List Value) (Q:VK),Inv X pins σ H s->RelV x v->Vals xs us->r x xs H Q ->
  wpAny (model X.prog X.w) X.A (call (.builtin id) (v::us)) (EP X pins σ Q) X.xe s
theorem Vals.one:∀ {x:V} {us:List Value},Vals [x] us->∃ u,us=[u]/\RelV x u
 | _,_,.cons r .nil=>⟨_,rfl,r⟩
theorem Vals.two:∀ {x y:V} {us:List Value},Vals [x,y] us->∃ u v,us=[u,v]/\RelV x u/\RelV y v
 | _,_,_,.cons r (.cons q .nil)=>⟨_,_,rfl,r,q⟩
theorem Vals.rep{xs:List V}{us:List Value}(h:Vals xs us):∀ k:Nat,Vals (List.replicate k xs).flatten (List.replicate k us).flatten
 | 0=>.nil
 | k+1=>by
  rw[List.replicate_succ,List.replicate_succ,List.flatten_cons,List.flatten_cons];exact Vals.append h (Vals.rep h k)
theorem jk4(its:List Value):∀ (k:Nat) (acc:List Value),
  List.foldl (fun x1 x2=>x1++x2) acc.toArray (List.replicate k its.toArray)=(acc++(List.replicate k its).flatten).toArray
 | 0,acc=>by simp
 | k+1,acc=>by
  have e:acc.toArray++its.toArray=(acc++its).toArray:=by simp
  have e2:(acc++its)++(List.replicate k its).flatten=acc++(List.replicate (k+1) its).flatten:=by
   rw[List.replicate_succ,List.flatten_cons,List.append_assoc]
  rw[<- e2,<- jk4 its k (acc++its),<- e,List.replicate_succ,List.foldl_cons]
section
variable {X:Cx}{pins:List (Addr×Obj)}{σ:St}{H:Hp}{s:Shared}{l:Addr}{xs ys:List V}
theorem Inv.lset{its its':List Value}{n:Nat}{f:Array Value->Array Value}{t':Nat}(I:Inv X pins σ H s)(hH:H l=some (.lst xs))
  (e:s.heap.get? l=some { cls:=.type "list",data:=.seq its.toArray n }) (hf:f its.toArray=its'.toArray) (hv:Vals ys its') (hz:ys.length<=sizeLine) :
  Inv X pins σ (upd H l (.lst ys)) { s with heap:=s.heap.update l (Obj.mapSeq f),toks:=t' }:=by
 have q:=PySem.IsL.update e f;rw[hf] at q;refine I.write (x:=l) (e:=l) (by rw[hH];exact trivial) (.inl rfl) (fun b' u hb hu=>(Heap.get?_update_other s.heap (Obj.mapSeq f) (Ne.symm hb)).trans hu) ⟨_,q⟩ ?_;exact⟨hz,its',_,hv,q⟩
theorem Inv.lnew{its:List Value}{t':Nat}(I:Inv X pins σ H s)(hv:Vals ys its)(hz:ys.length<=sizeLine) :
  Inv X pins σ (upd H s.heap.objs.size (.lst ys)) { s with heap:=s.heap.push { cls:=.type "list",data:=.seq its.toArray },toks:=t' } :=
 I.laid (fun _ _ q=>zaz _ q) (zac _) ⟨hz,its,0,hv,zbz _ rfl⟩
theorem Inv.fresh(I:Inv X pins σ H s):H s.heap.objs.size=none:=I.hok.fresh (zac _)
theorem Inv.lstM(I:Inv X pins σ H s)(hH:H l=some (.lst xs)):xs.length<=sizeLine/\∃ (its:List Value) (n:Nat),Vals xs its/\xs.length=its.length/\s.heap.get? l=some { cls:=.type "list",data:=.seq its.toArray n }:=by
 obtain⟨z,its,n,r,e⟩:=I.hok l _ hH;exact⟨z,its,n,r,r.length,e⟩
end
section
variable {X:Cx}
noncomputable def jxh:V->List V->Hp->VK->Prop:=fun x vs H Q=>∃ l xs y,x=.ref l/\vs=[y]/\H l=some (.lst xs)/\xs.length<sizeLine/\Q .non (upd H l (.lst (xs++[y])))
theorem jio:MtM X "list.append" jxh:=by
 intro pins s σ H x vs v us Q I rx rv h;obtain⟨l,xs,y,rfl,rfl,hH,hz,q⟩:=h;cases rx;obtain⟨u,rfl,ru⟩:=rv.one;obtain⟨z,its,n,r,hl,e⟩:=I.lstM hH;refine call_meets F.slot_list_append ⟨_,e,rfl⟩ F.entry_list_append (F.args_list_append_2 _ _) (PySem.list_append l its.toArray n u (by rw[zbx];omega)) ⟨e,?_⟩;refine⟨.non,_,I.lset (its':=its++[u]) hH e (by simp) (r.append (.cons ru .nil)) ?_,rfl,q⟩;rw[zca,List.length_singleton];omega
theorem jwb{α:Type}(xs:List α)(k:Nat):(List.replicate k xs).flatten.length=k*xs.length:=by
 induction k with
 | zero=>simp
 | succ k ih=>rw[List.replicate_succ,List.flatten_cons,zca,ih,Nat.succ_mul,Nat.add_comm]
end
section
end
section
end
end L2
namespace Att
open PySem PySem.W PySem.Calls PyProof.Rows
theorem jie{P:Params}{h:Heap}:∀ (ns:List Int) (vs:List Value),WellAll P h vs (ns.map WData.int)->IntsAre vs ns:=by
 intro ns
 induction ns with
 | nil =>
  intro vs w;rw[List.map_nil] at w;cases w;exact .nil
 | cons n ns ih =>
  intro vs w;rw[List.map_cons] at w
  cases w with
  | cons a b =>
   cases a;exact .cons _ _ (ih _ b)
theorem jrn{l:OpenLaw}{n:Nat}(hn:l.most=some n){P:Params}{h:Heap}{args:List WData}{vals:List Value}
  (hpre:l.row.toRowW.claim.pre args=true) (hwl:WellAll P h vals args) :
  ∃ a vs ns,vals=[Value.ref a]/\args=[WData.list (ns.map WData.int)]/\h.get? a=some { cls:=.type "list",data:=.seq vs.toArray }/\IntsAre vs ns/\ns.length<=n:=by
 have hsh:WShape.hasAll [] args [.list .int]=true:=(pre_splitW hpre).1;have hc:l.pre.holds [] { args:=args }=true:=(pre_splitW hpre).2;obtain⟨d,r,rfl,h1,h2⟩:=hasAllW_cons hsh;obtain rfl:=hasAllW_nil h2;obtain⟨xs,rfl,h3⟩:=hasW_list h1;obtain⟨ns,rfl⟩:=items_int h3;have hlen:ns.length<=n:=by
  unfold OpenLaw.pre at hc;have h4:(WTm.not (.lt (.lit (.int (n:Int))) (.len (.arg 0)))).holds [] { args:=[.list (ns.map .int)] }=true:=by
   have h4:=(holds_andW hc).1;rw[hn] at h4;exact h4
  have h5:=condW_of h4 (w_not (w_lt w_lit (w_len_list (w_arg rfl))));rw[zav] at h5;refine Nat.le_of_not_lt fun q=>?_
  have q':(n:Int)<((ns.length:Nat):Int):=by omega
  first
   | (rw[decide_eq_true q'] at h5;exact absurd h5 (by decide))
   | (simp at h5;omega)
 cases hwl with
 | cons w1 w2 =>
  cases w2
  cases w1 with
  | list ho hall=>exact⟨_,_,ns,rfl,rfl,ho,jie ns _ hall,hlen⟩
theorem jq9(l:OpenLaw)(args:List WData):l.row.toRowW.claim.post args (.bool true) args=true :=
 postW_of (r:=l.row.toRowW) (X:=(true == true))
  (show WShape.has [] (.bool true) .bool=true by first|rfl|decide|simp[WShape.has,WShape.arms,WShape.armsAll])
  (show (WTm.eq .res (.lit (.bool true))).value [] { args:=args,res:=some (.bool true),after:=args }=some (.bool (true == true)) from w_eq_bool (w_res rfl) w_lit) rfl
theorem attach_call{l:OpenLaw}{n:Nat}{q:Program}{loose:List Str}{XP:(Str->Option Value)->Heap->Prop}{YP:World->Heap->Prop}{d:DefRec}
  (hn:l.most=some n) (hdf:d.params.defaults=[])
  (call:∀ (w:World) (s₀ s₁:Shared) (mg mb:Str->Option Value) (fa:Addr) (o:Obj) (pm cd doc:Value) (a:Addr) (vs:List Value) (ns:List Int),
   Ground q loose [] XP w s₀ mg mb s₁.heap->YP w s₁.heap ->
   s₁.heap.get? fa=some o->o.data=.func (docDef d.name d.params d.body d.scope pm cd doc)->s₁.heap.CodeRec cd d.name->mg d.name=some (.ref fa) ->
   s₁.heap.get? a=some { cls:=.type "list",data:=.seq vs.toArray }->IntsAre vs ns->ns.length<=n->s₁.gens=#[] ->
   codeAny (model l.prog w) callerA (.call (.ref fa) ⟨[.ref a],[]⟩) (fun r s'=>r=.ok (.ret (.bool true))/\OldK s₁.heap s'.heap/\s'.os=s₁.os/\AllBare s'.gens) s₁) :
  WalkO q loose XP YP l.row.toRowW d [] (fun f vs=>PySem.call f vs):=by
 intro w s₀ s₁ mg mb G Y fa o pm cd doc dV kV ho hd hcd hD hmg hg args vals as hpre hlay hrd hwl hlo;obtain rfl:dV=.none:=Dflts.none hD hdf;obtain rfl:kV=.none:=Dflts.noKw hD;obtain⟨a,vs,ns,rfl,rfl,hobj,hints,hlen⟩:=jrn hn hpre hwl;refine enter_call (codeAny_mono (call w s₀ s₁ mg mb fa o pm cd doc a vs ns G Y ho (fd_plain hd) hcd hmg hobj hints hlen hg) fun r s' hq=>?_);obtain⟨rfl,h2,h3,h4⟩:=hq;exact⟨.inl ⟨.bool true,.bool true,[],rfl,fun _=>rfl,.bool true,jq9 l _,fun _=>⟨List.Pairwise.nil,fun _ hm=>(nomatch hm)⟩⟩,h2,h3,h4⟩
section
end
end Att
namespace L2
open PySem PySem.Spec PyProof.Rows
theorem jlz:∀ {vs:List Value} {ns:List Int},IntsAre vs ns->Vals (ns.map V.int) vs
 | _,_,.nil=>.nil
 | _,_,.cons n t h=>.cons ⟨t,rfl⟩ (jlz h)
noncomputable def Only(H:Hp):Prop:=∀ b,H b=none\/∃ o xs,H b=some (.frz o (.lst xs))
theorem jsz{P:Program}{w:World}{K:W.Frag}{mg mb:Str->Option Value}{CX:CXT}{k:Nat}{fa a:Addr}{fd:FuncData}{x:Str}{sp:Sp}{s₁:Shared}{vs:List Value}{ns:List Int}
  (KX:K.In s₁.heap) (hns:s₁.heap.Ns mainGlobals mg) (hb:s₁.heap.Ns builtinsNs mb) (hbb:∀ x:Str,x≠"__name__"->mb x=bootBuiltins x) (hlim:s₁.heap.NoLimit) (hg:s₁.gens=#[])
  (ha:s₁.heap.get? a=some { cls:=.type "list",data:=.seq vs.toArray }) (hi:IntsAre vs ns) (hl:ns.length<=sizeLine) (hr:Room k callerA)
  (F:∀ base:Heap,K.In base->base.Ns mainGlobals mg->FnOk P w K mg base CX k fa fd [x] sp) (hbind:∀ (s:Shared) (u:Value),BindsTo s fd ⟨[u],[]⟩ [(x,u)])
  (hsp:∀ H:Hp,Only H->SqL K H a (ns.map V.int)->sp [.ref a] H (fun v _=>v=.bl true) fun _ _ _=>False)
  (hCX:∀ H e s',CX [] H s₁ (fun _ _ _=>False) e s'->False) :
  codeAny (model P w) callerA (.call (.ref fa) ⟨[.ref a],[]⟩) (fun r s'=>r=.ok (.ret (.bool true))/\OldK s₁.heap s'.heap/\s'.os=s₁.os/\AllBare s'.gens) s₁:=by
 have rv:=jlz hi;have lenV:=hi.length;have core:∀ H:Hp,Only H->SqL K H a (ns.map V.int)->HOk P w H s₁.heap->(∀ b,H b≠none->b=a)->(H a≠none->K.lookup a=none) ->
   codeAny (model P w) callerA (.call (.ref fa) ⟨[.ref a],[]⟩) (fun r s'=>r=.ok (.ret (.bool true))/\OldK s₁.heap s'.heap/\s'.os=s₁.os/\AllBare s'.gens) s₁:=by
  intro H hO hS hok hA hK;have base_of:∀ {b:Addr} {o:Obj},s₁.heap.get? b=some o->H b=none->(hidT s₁.heap H).get? b=some o:=fun e n=>jsq e n
  have noA:∀ {b:Addr} {o:Obj} {es:Array DictEntry} {ep:Nat},s₁.heap.get? b=some o->o.data=.dict es ep->H b=none:=fun {b o es ep} e d=>by
   cases q:H b with
   | none=>rfl
   | some u =>
    have e':b=a:=hA b (by rw[q];simp);subst e';rw[ha] at e;cases e
    have d':Data.seq vs.toArray _=Data.dict es ep:=d;cases d'
  have nsK:∀ {b:Addr} {m:Str->Option Value},s₁.heap.Ns b m->(hidT s₁.heap H).Ns b m:=fun {b m} ⟨o,es,ep,e,d,r⟩=>⟨o,es,ep,base_of e (noA e d),d,r⟩
  have hKb:K.In (hidT s₁.heap H):=fun b o e=>base_of (KX b o e) (by
   cases q:H b with
   | none=>rfl
   | some u =>
    have e':b=a:=hA b (by rw[q];simp);subst e';rw[hK (by rw[q];simp)] at e;cases e)
  have hM:Mod K mg (hidT s₁.heap H):=⟨hKb,nsK hns,⟨mb,nsK hb,hbb⟩,let ⟨mc,h1,h2⟩:=hlim;⟨mc,nsK h1,h2⟩⟩
  have e0:Env0 P w K mg (hidT s₁.heap H) callerA [] s₁ H:=⟨rfl,hM,fun b o e=>jwx e,Nat.le_of_eq (jp2 _ _),trivial,fun b hb=>absurd (show b∈([]:List Addr) from hb) (by simp),hok,.of_eq hg⟩
  refine codeAny_mono ((F _ hKb (nsK hns)).run callerA [] s₁ H ⟨[.ref a],[]⟩ [.ref a] [.ref a] _ _ hr e0 (hbind s₁ (.ref a)) (.cons rfl .nil) (hsp H hO hS)) fun r s' h=>?_
  cases r with
  | error e=>exact (hCX H e s' h).elim
  | ok fl =>
   cases fl with
   | next=>exact False.elim h
   | brk=>exact False.elim h
   | cont=>exact False.elim h
   | ret u =>
    obtain⟨v,H',os,bare,un,hok',r',q⟩:=h;have q':v=.bl true:=q;subst q';obtain rfl:u=Value.bool true:=r';refine⟨rfl,OldK.of_keep fun b o e=>?_,os,bare⟩
    cases q:H b with
    | none=>exact un.keep b o e q (by intro z;exact absurd (show b∈([]:List Addr) from z) (by simp)) (by simp)
    | some u =>
     rcases hO b with z|⟨ob,xs,z⟩
     ·rw[q] at z;cases z
     ·have z2:=un.frzs b ob _ z;obtain⟨e1,_⟩:=hok b _ z;obtain⟨e2,_⟩:=hok' b _ z2;rw[e] at e1;cases e1
      exact e2
 cases hk:K.lookup a with
 | some o =>
  have e:=KX a o hk;rw[ha] at e;cases e;refine core (fun _=>none) (fun _=>.inl rfl) (.inr ⟨_,vs.toArray,_,hk,rfl,rfl,rfl,by rw[zbx,lenV];exact hl,by simpa using rv⟩) (fun b u z=>by have z':(none:Option HO)=some u:=z;cases z') (fun b z=>absurd rfl z) fun z=>absurd rfl z
 | none =>
  refine core (fun b=>if b=a then some (.frz { cls:=.type "list",data:=.seq vs.toArray } (.lst (ns.map V.int))) else none) (fun b=>?_) (.inl (.inr ⟨{ cls:=.type "list",data:=.seq vs.toArray },if_pos rfl⟩)) (fun b u z=>?_) (fun b z=>?_) fun _=>hk
  ·by_cases hb:b=a
   ·exact .inr ⟨_,_,if_pos hb⟩
   ·exact .inl (if_neg hb)
  ·by_cases hb:b=a
   ·have z':=(if_pos hb).symm.trans z;cases z';subst hb;exact⟨ha,by rw[zav];exact hl,vs,_,rv,ha⟩
   ·have z':=(if_neg hb).symm.trans z;cases z'
  ·by_cases hb:b=a
   ·exact hb
   ·exact absurd (if_neg hb) z
theorem walk_of{l:W.OpenLaw}{n k:Nat}{q:Program}{loose:List Str}{XP:(Str->Option Value)->Heap->Prop}{YP:World->Heap->Prop}{d:DefRec}{K:Params->W.Frag}{CX:World->CXT}{sp:World->Sp}{x:Str}
  (hn:l.most=some n) (hn2:n<=sizeLine) (hdf:d.params.defaults=[]) (hr:Room k callerA)
  (hY:∀ (w:World) (h:Heap),YP w h->(K w.params).In h)
  (F:∀ (w:World) (mg:Str->Option Value) (fa:Addr) (h:Heap),(K w.params).In h->h.Ns mainGlobals mg->mg d.name=some (.ref fa) ->
   ∃ fd:FuncData,(∀ (s:Shared) (u:Value),BindsTo s fd ⟨[u],[]⟩ [(x,u)]) /\
    ∀ base:Heap,(K w.params).In base->base.Ns mainGlobals mg->FnOk l.prog w (K w.params) mg base (CX w) k fa fd [x] (sp w))
  (hsp:∀ (w:World) (H:Hp) (a:Addr) (ns:List Int),ns.length<=n->Only H->SqL (K w.params) H a (ns.map V.int)->sp w [.ref a] H (fun v _=>v=.bl true) fun _ _ _=>False)
  (hCX:∀ (w:World) (H:Hp) (s:Shared) (e:Value) (s':Shared),CX w [] H s (fun _ _ _=>False) e s'->False) :
  W.WalkO q loose XP YP l.row.toRowW d [] (fun f vs=>PySem.call f vs):=by
 refine Att.attach_call hn hdf fun w s₀ s₁ mg mb fa o pm cd doc a vs ns G Y ho hd hcd hmg hobj hints hlen hg=>?_
 have KX:=hY w _ Y;obtain⟨fd,hb,hF⟩:=F w mg fa _ KX G.T.g hmg;exact jsz KX G.T.g G.T.b G.T.builtins G.T.nolimit hg hobj hints (zcc hlen hn2) hr hF hb (fun H hO hS=>hsp w H a ns hlen hO hS) fun H e s'=>hCX w H s₁ e s'
noncomputable def jat(s:Stmt):Arguments:=match s with
 | .FunctionDef _ a _ _ _ _ _ _ _ _=>a
 | _=>{ posonlyargs:=[],args:=[],vararg:=none,kwonlyargs:=[],kw_defaults:=[],kwarg:=none,defaults:=[] }
noncomputable def jak(s:Stmt):List Stmt:=match s with
 | .FunctionDef _ _ b _ _ _ _ _ _ _=>b
 | _=>[]
noncomputable def jae(s:Stmt):Scope:=match s with
 | .FunctionDef _ _ _ _ _ _ sc _ _ _=>sc
 | _=>{ kind:=.function,names:=[],isGenerator:=false,isCoroutine:=false }
noncomputable abbrev CX0:CXT:=fun _ _ _ _ _ _=>False
noncomputable abbrev E0:XK:=fun _ _ _=>False
structure Fun(K:W.Frag)(x qual:Str)(st:Stmt)(f:Addr)(fd:FuncData):Prop where
 ex:∃ (oc:Value) (od:Option Addr) (kV doc pm:Value) (an:Option Addr) (cdv ct:Value) (osl:Array (Option Value)),
  fd=W.fnOf x qual (jat st) (jak st) (jae st) .none kV doc pm an cdv ct/\K.lookup f=some ⟨oc,od,.func fd,osl⟩/\W.codeIn K cdv qual=true
 kp:W.keepIn K (.ref f)=true
section
variable {P:Program}{w:World}{K:W.Frag}{mg:Str->Option Value}{base:Heap}
theorem Fun.ok{x qual:Str}{st:Stmt}{f:Addr}{fd:FuncData}{N ps:List Str}{k:Nat}{sp:Sp}(F:Fun K x qual st f fd)(S:FnScope N ps (jae st))(len:∀ vs H Q E,sp vs H Q E->vs.length=ps.length)
  (hbody:∀ (cdv:Value) (A:Around) (outer:List Env) (s:Shared) (H:Hp) (vs:List V) (Q:VK) (E:XK),Room k (A.deeper (envOfC qual (jae st) s.heap.objs.size f cdv))->sp vs H Q E ->
   ∃ t,PSs (cxOf CX0 P w K mg base N qual (jae st) f cdv A outer s H E).nox (jak st) t/\t { nx:=fun _ H'=>Q .non H',rt:=Q } (start N vs) H):FnOk P w K mg base CX0 (k+1) f fd ps sp:=by
 obtain⟨oc,od,kV,doc,pm,an,cdv,ct,osl,rfl,lk,hcd⟩:=F.ex;refine jv1 lk hcd S len fun A outer s H vs Q E hr hsp=>?_
 obtain⟨t,h,q⟩:=hbody cdv A outer s H vs Q E hr hsp;exact⟨t,h.nox,q⟩
theorem Fun.binds{x qual:Str}{st:Stmt}{f:Addr}{fd:FuncData}{ps:List Str}(F:Fun K x qual st f fd)
  (h:∀ (kV doc pm:Value) (an:Option Addr) (cdv ct:Value) (us:List Value),us.length=ps.length->bindArgs (W.fnOf x qual (jat st) (jak st) (jae st) .none kV doc pm an cdv ct) ⟨us,[]⟩=pure (ps.zip us)):Binds K fd ps []:=by
 obtain⟨oc,od,kV,doc,pm,an,cdv,ct,osl,rfl,lk,hcd⟩:=F.ex;exact .all (h kV doc pm an cdv ct)
theorem jug{x qual:Str}{st:Stmt}{f:Addr}{oc:Value}{od an:Option Addr}{osl:Array (Option Value)}{kV doc pm cdv ct:Value}(l:K.lookup f=some ⟨oc,od,.func (W.fnOf x qual (jat st) (jak st) (jae st) .none kV doc pm an cdv ct),osl⟩)
  (c:W.codeIn K cdv qual=true) (k:W.keepIn K (.ref f)=true):Fun K x qual st f (W.fnOf x qual (jat st) (jak st) (jae st) .none kV doc pm an cdv ct):=⟨⟨oc,od,kV,doc,pm,an,cdv,ct,osl,rfl,l,c⟩,k⟩
end
section
end
theorem iteF{A B:Prop}(h:B):if false=true then A else B:=by
 rw[if_neg Bool.false_ne_true];exact h
theorem iteT{A B:Prop}(h:A):if true=true then A else B:=by
 rw[if_pos rfl];exact h
noncomputable def Same(H H':Hp):Prop:=∀ b o,H b=some o->H' b=some o
theorem Same.refl(H:Hp):Same H H:=fun _ _ h=>h
theorem Same.trans{H H1 H2:Hp}(a:Same H H1)(b:Same H1 H2):Same H H2:=fun c o h=>b c o (a c o h)
end L2
set_option maxHeartbeats 4000000
namespace L2
open PySem PySem.Spec PyProof.Rows
theorem ffk:(NameKind.free == NameKind.free)=true:=by decide
noncomputable def clOf(cells:List (Str×Addr)):List (Str×NameKind)->List (Str×Addr)->List (Str×Addr)
 | [],acc=>acc
 | (n,k)::r,acc=>clOf cells r (if k == .free then (n,(cells.lookup n).getD 0)::acc else acc)
theorem jpo{env:Env}:∀ (ns:List (Str×NameKind)) (acc:List (Str×Addr)),(∀ p∈ns,p.2=.free->∃ c,env.cells.lookup p.1=some c) ->
  (forIn ns acc fun p cs=>(if p.2 == NameKind.free then (do let a <- cellOf env p.1;pure (ForInStep.yield ((p.1,a)::cs))) else pure (ForInStep.yield cs):Sem (ForInStep (List (Str×Addr)))))=pure (clOf env.cells ns acc)
 | [],acc,_=>by rw[List.forIn_nil];rfl
 | (n,k)::r,acc,h=>by
  rw[List.forIn_cons]
  by_cases hk:k=.free
  ·subst hk;obtain⟨c,hc⟩:=h (n,.free) zaa rfl;have e1:cellOf env n=pure c:=by unfold cellOf;rw[hc]
   show (do let a <- cellOf env n;pure (ForInStep.yield ((n,a)::acc)):Sem _) >>= _=_;rw[e1];show (forIn r ((n,c)::acc) _:Sem _)=_;rw[jpo r _ fun p hp=>h p (zaw _ hp)];show _=pure (clOf env.cells r (if NameKind.free == NameKind.free then _ else _));have hc':env.cells.lookup n=some c:=hc;rw[if_pos ffk,hc'];rfl
  ·have e2:(k == NameKind.free)=false:=by simpa using hk
   show (if (k == NameKind.free)=true then _ else _:Sem _) >>= _=_;rw[if_neg (by rw[e2];decide)];show (forIn r acc _:Sem _)=_;rw[jpo r _ fun p hp=>h p (zaw _ hp)];show _=pure (clOf env.cells r (if (k == NameKind.free)=true then _ else _));rw[if_neg (by rw[e2];decide)]
theorem joe{scope:Scope}{env:Env}(h:∀ p∈scope.names,p.2=.free->∃ c,env.cells.lookup p.1=some c):closureFor scope env=pure (clOf env.cells scope.names []):=by
 unfold closureFor;have e:=jpo (env:=env) scope.names [] h;show (forIn scope.names ([]:List (Str×Addr)) _ >>= fun r=>pure r:Sem _)=_;have e':(forIn scope.names ([]:List (Str×Addr)) fun (p:Str×NameKind) (cs:List (Str×Addr))=>(if p.2 == NameKind.free then (do let a <- cellOf env p.1;pure (ForInStep.yield ((p.1,a)::cs))) else pure (ForInStep.yield cs):Sem (ForInStep (List (Str×Addr))))) >>= (fun r=>(pure r:Sem _))=pure (clOf env.cells scope.names []):=by rw[e];rfl
 exact e'
theorem jnd{cells:List (Str×Addr)}{x:Str}{c:Addr}:∀ (ns:List (Str×NameKind)) (acc:List (Str×Addr)),(clOf cells ns acc).lookup x=some c->acc.lookup x=some c\/((x,NameKind.free)∈ns/\c=(cells.lookup x).getD 0)
 | [],acc,h=>.inl h
 | (n,k)::r,acc,h=>by
  rcases jnd r _ h with e|⟨e1,e2⟩
  ·by_cases hk:k=.free
   ·subst hk;rw[if_pos ffk,List.lookup_cons] at e
    cases hx:x == n with
    | true =>
     rw[hx] at e;have:x=n:=by simpa using hx
     subst this;exact .inr ⟨zaa,(zby e).symm⟩
    | false=>rw[hx] at e;exact .inl e
   ·rw[if_neg (by simpa using hk)] at e;exact .inl e
  ·exact .inr ⟨zaw _ e1,e2⟩
theorem jnc{cells:List (Str×Addr)}{x:Str}:∀ (ns:List (Str×NameKind)) (acc:List (Str×Addr)),acc.lookup x=some ((cells.lookup x).getD 0)->(clOf cells ns acc).lookup x=some ((cells.lookup x).getD 0)
 | [],acc,h=>h
 | (n,k)::r,acc,h=>by
  refine jnc r _ ?_
  by_cases hk:k=.free
  ·subst hk;rw[if_pos ffk,List.lookup_cons]
   cases hx:x == n with
   | true =>
    have:x=n:=by simpa using hx
    subst this;rfl
   | false=>exact h
  ·rw[if_neg (by simpa using hk)];exact h
theorem jj5{cells:List (Str×Addr)}{x:Str}:∀ (ns:List (Str×NameKind)) (acc:List (Str×Addr)),(x,NameKind.free)∈ns->(clOf cells ns acc).lookup x=some ((cells.lookup x).getD 0)
 | [],acc,h=>by cases h
 | (n,k)::r,acc,h=>by
  rcases List.mem_cons.mp h with e|e
  ·cases e;refine jnc r _ ?_;rw[if_pos ffk,List.lookup_cons];simp
  ·exact jj5 r _ e
noncomputable def jeb(X:Cx)(scope:Scope)(N:List Str)(C:Addr)(s0:Shared)(H0:Hp)(ex:List Addr):Cx where
 prog:=X.prog
 w:=X.w
 K:=X.K
 mg:=X.mg
 base:=X.base
 A:=X.A
 N:=N
 s₀:=s0
 Hz:=H0
 env:=compEnvC scope (clOf X.env.cells scope.names []) C X.env
 outer:=X.stack
 stack:=X.stack
 ex:=ex
 fn:=fun _=>false
 calm:=X.calm
 pn:=[]
 xe:=fun _ _=>False
noncomputable def jua(N:List Str)(out:List (Str×NameKind))(inn:List (Str×NameKind))(caps:List (Str×Nat)):Bool :=
 inn.all (fun p=>p.2 != .cell)&&inn.all (fun p=>p.2 != .local || inn.lookup p.1 == some .local) &&
 inn.all (fun p=>p.2 != .free || (out.lookup p.1 == some .cell || out.lookup p.1 == some .free)) &&
 caps.all (fun p=>N[p.2]? == some p.1&&inn.lookup p.1 == some .free)
structure CapsOk(X:Cx)(scope:Scope)(caps:List (Str×Nat)):Prop where
 kind:scope.kind=.function
 nocell:∀ x∈scope.names,x.2≠.cell
 loc:∀ x∈scope.names,x.2=.local->scope.names.lookup x.1=some .local
 fre:∀ p∈scope.names,p.2=.free->X.env.kindOf p.1=some .cell\/X.env.kindOf p.1=some .free
 cap:∀ p∈caps,X.N[p.2]? = some p.1/\scope.names.lookup p.1=some .free
theorem jei{X:Cx}{scope osc:Scope}{N:List Str}{caps:List (Str×Nat)}(hN:X.N=N)(ho:X.env.scope=osc)(hk:scope.kind=.function)(h:jua N osc.names scope.names caps=true):CapsOk X scope caps:=by
 unfold jua at h;simp only[Bool.and_eq_true,List.all_eq_true] at h;obtain⟨⟨⟨h1,h2⟩,h3⟩,h4⟩:=h;refine⟨hk,fun x hx=>by simpa using h1 x hx,fun x hx hl=>?_,fun p hp hf=>?_,fun p hp=>?_⟩
 ·have:=h2 x hx;rw[hl] at this;simpa using this
 ·have:=h3 p hp;rw[hf] at this;show X.env.scope.names.lookup p.1=_\/X.env.scope.names.lookup p.1=_;rw[ho];simpa using this
 ·have:=h4 p hp;rw[hN];simpa using this
noncomputable def jek(own:Nat)(caps:List (Str×Nat))(σ:St):St:=List.replicate own none++caps.map fun p=>(σ[p.2]?).join
noncomputable def jC0(own:Nat)(caps:List (Str×Nat))(wi:TI)(g:TG)(tc:TT)(te:TE):TE:=fun σ H Q=>wi σ H fun J H1=>∀ D,H1 D=none ->
 ∃ W:Nat->Nat->St->Hp->Prop,(∃ m,W 0 m (jek own caps σ) (upd H1 D (.lst [])))/\∀ i m σ' H',W i m σ' H' ->
  (J.stop i H'/\Q (.ref D) H')\/(J.go i H'/\∃ N:St->Hp->Prop,(∀ σ2 H2,N σ2 H2->∃ m',m'<m/\W (i+1) m' σ2 H2) /\
   ∀ x H2,J.yld i H' x H2->g x σ' H2 fun σ3 H3=>tc σ3 H3 fun b H4=>if b=true then te σ3 H4 fun v H5=>∃ ys,H5 D=some (.lst ys)/\ys.length<sizeLine/\N σ3 (upd H5 D (.lst (ys++[v]))) else N σ3 H4)
theorem jfr{scope:Scope}{env:Env}{x:Str}{k:NameKind}:∀ {ns:List (Str×NameKind)},(ns.map fun (n,k)=>if (k == NameKind.free&&env.scope.kind == .function&&env.kindOf n == some .cell) then (n,NameKind.cell) else (n,k)).lookup x=some k ->
  ∃ k',ns.lookup x=some k'/\(k=k'\/(k'=.free/\k=.cell))
 | [],h=>by simp at h
 | (n,k0)::r,h=>by
  rw[List.map_cons] at h
  by_cases hc:(k0 == NameKind.free&&env.scope.kind == .function&&env.kindOf n == some .cell)=true
  ·simp only[if_pos hc,List.lookup_cons] at h
   cases hx:x == n with
   | true =>
    rw[hx] at h;refine⟨k0,by simp[List.lookup_cons,hx],.inr ⟨?_,(zby h).symm⟩⟩;simp only[Bool.and_eq_true] at hc;simpa using hc.1.1
   | false =>
    rw[hx] at h;obtain⟨k',e,q⟩:=jfr (scope:=scope) h;exact⟨k',by simp only[List.lookup_cons,hx];exact e,q⟩
  ·simp only[if_neg hc,List.lookup_cons] at h
   cases hx:x == n with
   | true =>
    rw[hx] at h;exact⟨k0,by simp[List.lookup_cons,hx],.inl (zby h).symm⟩
   | false =>
    rw[hx] at h;obtain⟨k',e,q⟩:=jfr (scope:=scope) h;exact⟨k',by simp only[List.lookup_cons,hx];exact e,q⟩
theorem jfq{env:Env}{x:Str}:∀ {ns:List (Str×NameKind)},ns.lookup x=some .free ->
  (ns.map fun (n,k)=>if (k == NameKind.free&&env.scope.kind == .function&&env.kindOf n == some .cell) then (n,NameKind.cell) else (n,k)).lookup x=some .cell \/
  (ns.map fun (n,k)=>if (k == NameKind.free&&env.scope.kind == .function&&env.kindOf n == some .cell) then (n,NameKind.cell) else (n,k)).lookup x=some .free
 | [],h=>by simp at h
 | (n,k0)::r,h=>by
  rw[List.map_cons];simp only[List.lookup_cons] at h
  by_cases hc:(k0 == NameKind.free&&env.scope.kind == .function&&env.kindOf n == some .cell)=true
  ·simp only[if_pos hc,List.lookup_cons]
   cases hx:x == n with
   | true=>exact .inl rfl
   | false=>rw[hx] at h;exact jfq h
  ·simp only[if_neg hc,List.lookup_cons]
   cases hx:x == n with
   | true=>rw[hx] at h;exact .inr h
   | false=>rw[hx] at h;exact jfq h
theorem jp4{own:Nat}{caps:List (Str×Nat)}{σ:St}{i:Nat}{v:V}(h:(jek own caps σ)[i]? = some (some v)):∃ p,caps[i-own]? = some p/\own<=i/\σ[p.2]? = some (some v):=by
 unfold jek at h
 by_cases hi:i<own
 ·rw[List.getElem?_append_left (by simpa using hi),List.getElem?_replicate,if_pos hi] at h;cases h
 ·rw[List.getElem?_append_right (by simpa using hi),List.length_replicate,zba] at h
  cases e:caps[i-own]? with
  | none=>rw[e] at h;cases h
  | some p =>
   rw[e] at h;refine⟨p,rfl,by omega,?_⟩;have h':(σ[p.2]?).join=some v:=zby h
   cases q:σ[p.2]? with
   | none=>rw[q] at h';cases h'
   | some o=>rw[q] at h';exact congrArg some h'
section
variable {X:Cx}{pins:List (Addr×Obj)}{σ:St}{H:Hp}{s:Shared}
theorem jss{scope:Scope}{own:List Str}{caps:List (Str×Nat)}{h':Heap}{t':Nat}{fp:List Addr}(I:Inv X pins σ H s)(ck:CapsOk X scope caps)
  (hf:∀ b∈fp,FpOk X pins H b) (hb:∀ b∈fp,b<s.heap.objs.size) (ns:h'.Ns s.heap.objs.size fun x=>([]:List (Str×Value)).reverse.lookup x)
  (sb:Heap.SameBut s.heap.objs.size (s.heap.push { cls:=.type "dict",data:=.dict #[] }) h') :
  Inv (jeb X scope (own++caps.map (·.1)) s.heap.objs.size s H fp) [] (jek own.length caps σ) H { s with heap:=h',toks:=t' }:=by
 have up:∀ b o,s.heap.get? b=some o->h'.get? b=some o:=fun b o e=>sb.extBut b o (zcv (zbv e)) (zaz _ e)
 have stk:∀ b∈fp,b∉frs X.stack:=fun b hb' z=>by
  obtain⟨_,f1,f2,_⟩:=hf b hb';rcases List.mem_cons.mp (I.stkSub b z) with q|q
  ·exact f1 q
  ·exact f2 q
 have clc:∀ x c,(clOf X.env.cells scope.names []).lookup x=some c->X.env.cells.lookup x=some c:=fun x c h=>by
  rcases jnd _ _ h with e|⟨e1,e2⟩
  ·cases e
  ·obtain⟨c',hc'⟩:=I.ok.has x (ck.fre _ e1 rfl);rw[hc'] at e2 |-
   exact congrArg some e2.symm
 have cell:∀ x c,(clOf X.env.cells scope.names []).lookup x=some c->∃ v,s.heap.IsCell c v:=fun x c h=>I.cell x c (clc x c h)
 have okk:(jeb X scope (own++caps.map (·.1)) s.heap.objs.size s H fp).Ok:=by
  refine⟨I.ok.mod,ck.kind,I.ok.glob,I.ok.blt,zac _,fun x y c h1 h2=>I.ok.inj x y c (clc x c h1) (clc y c h2),fun x hx=>?_,fun x c hfn=>?_,I.ok.hd,I.ok.frames,.inl rfl,fun b z=>⟨?_,fun x c h=>?_⟩,I.bs,
   zcc I.ok.bsz I.sz,fun b o e z=>?_,stk,I.stack,I.stkFree⟩
  ·have hx':∃ k,(scope.names.map fun (n,k)=>if (k == NameKind.free&&X.env.scope.kind == .function&&X.env.kindOf n == some .cell) then (n,NameKind.cell) else (n,k)).lookup x=some k/\(k=.cell\/k=.free):=by
    rcases hx with q|q
    ·exact⟨_,q,.inl rfl⟩
    ·exact⟨_,q,.inr rfl⟩
   obtain⟨k,q,hk⟩:=hx';obtain⟨k',e,r⟩:=jfr (scope:=scope) q;have m:=PySem.mem_of_lookup e;have hfree:k'=.free:=by
    rcases r with r|r
    ·rcases hk with hk|hk
     ·exact absurd (r.symm.trans hk) (ck.nocell _ m)
     ·exact r.symm.trans hk
    ·exact r.1
   subst hfree;exact⟨_,jj5 _ _ m⟩
  ·cases hfn
  ·exact zcv (hb b z)
  ·exact (hf b z).2.2.2.2.1 x c (clc x c h)
  ·rcases (hf b z).2.2.2.1 with q|q
   ·exact I.ok.noex b o e q
   ·exact absurd (zcx (zbv e) (zcc I.ok.bsz q)) (Nat.lt_irrefl _)
 refine⟨okk,rfl,I.bare,Un.kept up,⟨_,ns,fun i x v h1 h2 h3=>?_⟩,fun x c h=>?_,I.hok.fresh (zac _),fun x c h=>I.freeC x c (clc x c h),fun p hp=>absurd (show p∈([]:List (Addr×Obj)) from hp) (by simp),I.hok.kept up,?_⟩
 ·obtain⟨p,hp,hi,hv⟩:=jp4 h2;have hx:p.1=x:=by
   have h1':(own++caps.map (·.1))[i]? = some x:=h1;rw[List.getElem?_append_right hi,zba,hp] at h1';exact zby h1'
  subst hx;obtain⟨cN,cf⟩:=ck.cap p (List.mem_of_getElem? hp);have mem:=PySem.mem_of_lookup cf;obtain⟨m,hn,hl⟩:=I.loc;have kf:=ck.fre _ mem rfl;obtain⟨u,r,l⟩:=hl p.2 p.1 v cN hv (by rcases kf with q|q;exact .inr (.inl q);exact .inr (.inr q));refine⟨u,r,.inr ?_⟩;rcases l with ⟨k,_⟩|⟨k,c,e,z⟩
  ·rcases kf with q|q<;>(rw[q] at k;cases k)
  ·refine⟨jfq cf,c,?_,z.keeps up⟩;show (clOf X.env.cells scope.names []).lookup p.1=some c;rw[jj5 _ _ mem,e];rfl
 ·obtain⟨v,z⟩:=cell x c h;exact⟨v,z.keeps up⟩
 ·show (jek own.length caps σ).length=(own++caps.map (·.1)).length;simp[jek]
end
noncomputable abbrev NoX:Value->Shared->Prop:=fun _ _=>False
theorem jti{α:Type}{M:Model}{A:Around}{t:Sem α}{Q:α->Shared->Prop}{E:Value->Shared->Prop}{s:Shared}(h:wpAny M A t Q NoX s):wpAny M A t Q E s:=wpAny_mono h (fun _ _ q=>q) fun _ _ q=>q.elim
noncomputable abbrev jrx(ifs:List Expr)(env:Env):Sem Bool:=forIn ifs true fun c r=>if r=true then do let ok <- isTrue c env (eval c env);pure (ForInStep.yield ok) else pure (ForInStep.yield r)
section
variable {prog:Program}{w:World}{A:Around}{R:Result->Shared->Prop}{s:Shared}
theorem jkx{elt target iter:Expr}{ifs:List Expr}{scope:Scope}{pos:Pos}{it acc:Value}{env:Env}(J:Nat->Shared->Prop)
  (turn:∀ n s,J n s->wpAny (model prog w) A (pyNext it) (fun r s1=>match r with
   | none=>R (.ok .next) s1
   | some v=>wpAny (model prog w) A (letOwnedTupleGo target it v) (fun _ s2=>wpAny (model prog w) A (assign target env v) (fun _ s3=>wpAny (model prog w) A (jrx ifs env) (fun ok s4 =>
     if ok=true then wpAny (model prog w) A (eval elt env) (fun x s5=>wpAny (model prog w) A (call (.builtin "list.append") [acc,x]) (fun _ s6=>∃ m,m<n/\J m s6) NoX s5) NoX s4
     else ∃ m,m<n/\J m s4) NoX s3) NoX s2) NoX s1) NoX s)
  (n:Nat) (h:J n s):codeAny (model prog w) A (.compLoop (.ListComp elt [⟨target,iter,ifs,0⟩] scope pos) 0 it acc env) R s:=by
 refine codeAny_loop rfl J (fun n s hJ=>?_) n h;show wpAny _ A ((compTurn (.ListComp elt [⟨target,iter,ifs,0⟩] scope pos) 0 it acc env).onRaise (fun x=>do noteFrame x env;theTreesLotGoes x)) _ _ s;refine wpAny_noted (jti ?_);rw[compTurn_list];refine zay (wpAny_standAt (zay (thn (turn n s hJ) fun r s1 h1=>?_)))
 cases r with
 | none=>exact zab h1
 | some v =>
  refine zay (thn h1 fun _ s2 h2=>zay (thn h2 fun _ s3 h3=>zay (thn h3 fun ok s4 h4=>?_)))
  cases ok with
  | false =>
   rw[if_neg (by decide)] at h4
   first
    | exact zab ⟨rfl,h4⟩
    | exact zay (zab (zab ⟨rfl,h4⟩))
  | true =>
   rw[if_pos rfl] at h4
   first
    | exact zay (zay (thn h4 fun x s5 h5=>zay (thn h5 fun _ s6 h6=>zab (zab ⟨rfl,h6⟩))))
    | exact zay (thn h4 fun x s5 h5=>zay (thn h5 fun _ s6 h6=>zab ⟨rfl,h6⟩))
end
section
variable {X:Cx}
noncomputable def PC0(X:Cx)(ifs:List Expr)(t:TT):Prop :=
 ∀ (pins:List (Addr×Obj)) (s:Shared) (σ:St) (H:Hp) (Q:Bool->Hp->Prop),Inv X pins σ H s->t σ H Q->wpAny (model X.prog X.w) X.A (jrx ifs X.env) (TP X pins σ Q) X.xe s
noncomputable def jxq:TT:=fun _ H Q=>Q true H
theorem jw2:PC0 X [] jxq:=fun pins s σ H Q I h=>wpAny_tests_nil ⟨H,I,h⟩
theorem jz8{c:Expr}{t:TT}(h:PT X c t):PC0 X [c] t:=fun pins s σ H Q I hw=>wpAny_tests_one (h pins s σ H Q I hw)
theorem jv6{P:Program}{w:World}{H:Hp}{h h':Heap}{C:Addr}(ok:HOk P w H h)(hC:H C=none)(sb:Heap.SameBut C h h'):HOk P w H h':=fun b ob e=>by
 refine (ok b ob e).stay (fun c u hc q=>(sb.2 c ?_).trans q) (fun _ q=>q) fun _ _ q=>q
 rintro rfl;rcases hc with rfl|hc
 ·rw[hC] at e;cases e
 ·rw[hC] at hc;cases hc
theorem jA2{fs ex:List Addr}{H H':Hp}{h h1 h2:Heap}{C:Addr}(u:Un fs ex H H' h h1)(hC:h.objs.size<=C)(sb:Heap.SameBut C h1 h2):Un fs ex H H' h h2:=by
 have ne:∀ b o,h.get? b=some o->b≠C:=fun b o e=>zcv (zcx (zbv e) hC)
 refine⟨fun b o e n a c=>(sb.2 b (ne b o e)).trans (u.keep b o e n a c),fun b o e n a c=>?_,u.free,fun b o e c=>?_,u.tups,u.frzs,u.tbls⟩
 ·obtain⟨sl,q⟩:=u.slot b o e n a c;exact⟨sl,(sb.2 b (ne b o e)).trans q⟩
 ·obtain⟨o',q⟩:=u.there b o e c;exact⟨o',(sb.2 b (ne b o e)).trans q⟩
inductive CpInv(X:Cx)(tn:Nat->Heap->Prop)(fp:List Addr)(W:Nat->Nat->St->Hp->Prop)(n:Nat)(s:Shared):Prop
 | mk (i:Nat) (σ:St) (H:Hp) (hI:Inv X [] σ H s) (ht:tn i s.heap) (hf:∀ b∈fp,H b=none) (hw:W i n σ H)
theorem jw4{elt tg iter:Expr}{ifs:List Expr}{scope:Scope}{pos:Pos}{own:List Str}{caps:List (Str×Nat)}{wi:TI}{g:TG}{tc:TT}{te:TE}(hc:X.calm=true)(ck:CapsOk X scope caps)
  (hi:PI X tg iter wi) (hg:∀ C s0 H0 ex,PG (jeb X scope (own++caps.map (·.1)) C s0 H0 ex) tg g) (ht:∀ C s0 H0 ex,PC0 (jeb X scope (own++caps.map (·.1)) C s0 H0 ex) ifs tc)
  (he:∀ C s0 H0 ex,PE (jeb X scope (own++caps.map (·.1)) C s0 H0 ex) elt te) (hs:autoParam (∀ x,foldedSetIterable iter X.env x=pure x) zau3._auto_1) :
  PE X (.ListComp elt [⟨tg,iter,ifs,0⟩] scope pos) (jC0 own.length caps wi g tc te):=by
 intro pins s σ H Q I h;have hcl:closureFor scope X.env=pure (clOf X.env.cells scope.names []):=joe fun p hp hf=>I.ok.has p.1 (ck.fre p hp hf)
 rw[eval_ListComp];refine wpAny_comprehension_free (use:=none) rfl hs hcl ck.kind ck.loc (thn (hi pins s σ H _ I h) fun v s1 h1=>thn h1 fun itv s2 h2=>?_);obtain⟨it,fp,tn,J,H2,e,I2,T,st2,f2,hw⟩:=h2;subst e;obtain⟨W,⟨m0,w0⟩,turn⟩:=hw s2.heap.objs.size (I2.hok.fresh (zac _));refine wpAny_newObj_type ?_;have hD:=I2.hok.fresh (zac s2.heap.objs.size);have I3:Inv X pins σ (upd H2 s2.heap.objs.size (.lst [])) { s2 with heap:=s2.heap.push { cls:=.type "list",data:=.seq ([]:List Value).toArray } } :=
  I2.laid (t':=s2.toks) (fun b u e=>zaz _ e) (zac _) ⟨Nat.zero_le _,[],0,.nil,zbz _ rfl⟩
 have hlt:∀ b∈fp,b<s2.heap.objs.size:=fun b hb=>by obtain⟨o,e,_⟩:=T.obj _ _ st2 b hb;exact zbv e
 have f3:∀ b∈fp,FpOk X pins (upd H2 s2.heap.objs.size (.lst [])) b:=fun b hb=>⟨by rw[jah (zcv (hlt b hb))];exact (f2 b hb).1,(f2 b hb).2⟩
 have hlt3:∀ b∈fp,b<(s2.heap.push { cls:=.type "list",data:=.seq ([]:List Value).toArray }).objs.size:=fun b hb=>by rw[Heap.size_push];exact Nat.lt_succ_of_lt (hlt b hb)
 refine wpAny_newFunctionEnv ck.nocell (by intro y hy;simp at hy) (fun h' hns hsb=>?_) ck.kind;generalize hS3:({ s2 with heap:=s2.heap.push { cls:=.type "list",data:=.seq ([]:List Value).toArray } }:Shared)=S3 at I3 hns hsb |-
 have hlt3':∀ b∈fp,b<S3.heap.objs.size:=by rw[<- hS3];exact hlt3
 have I4:=jss (own:=own) (t':=S3.toks+([]:List (Str×Value)).length) I3 ck f3 hlt3' hns hsb;have st4:tn 0 h':=T.keep _ _ _ st2 fun b hb o e=>hsb.extBut b o (zcv (hlt3' b hb)) (zaz _ (by rw[<- hS3];exact zaz _ e))
 have hsz:s2.heap.objs.size<S3.heap.objs.size:=by rw[<- hS3];show _<(Heap.push _ _).objs.size;rw[Heap.size_push];exact Nat.lt_succ_self _
 generalize hCC:S3.heap.objs.size=C at I4 hsb hns hsz;have loop:codeAny (model X.prog X.w) X.A (.compLoop (.ListComp elt [⟨tg,iter,ifs,0⟩] scope pos) 0 (.ref it) (.ref s2.heap.objs.size) (compEnvC scope (clOf X.env.cells scope.names []) C X.env))
   (compPost (model X.prog X.w) X.A X.xe none (EP X pins σ Q) (.ref s2.heap.objs.size) C) { S3 with heap:=h',toks:=S3.toks+([]:List (Str×Value)).length }:=by
  have xf:∀ {H':Hp},(∀ b∈fp,H' b=none)->∀ b∈fp,FpOk (jeb X scope (own++caps.map (·.1)) C S3 (upd H2 s2.heap.objs.size (.lst [])) fp) [] H' b:=fun hn b hb=>by
   refine⟨hn b hb,?_,?_,.inl hb,fun x c e=>(I4.ok.exf b hb).2 x c e,fun p hp=>absurd (show p∈([]:List (Addr×Obj)) from hp) (by simp)⟩
   ·exact (I4.ok.exf b hb).1
   ·exact I4.ok.exfs b hb
  refine jkx (CpInv (jeb X scope (own++caps.map (·.1)) C S3 (upd H2 s2.heap.objs.size (.lst [])) fp) tn fp W) ?_ m0
   ⟨0,_,_,I4,st4,fun b hb=>(f3 b hb).1,w0⟩
  rintro n s5 ⟨i,σ5,H5,I5,st5,fr5,w5⟩;rcases turn i n σ5 H5 w5 with ⟨stop,qn⟩|⟨go,N,hN,step⟩
  ·refine thn (T.done (jeb X scope (own++caps.map (·.1)) C S3 (upd H2 s2.heap.objs.size (.lst [])) fp) rfl rfl rfl hc i [] s5 σ5 H5 NoX I5 (xf fr5) st5 stop) fun r s6 hzz=>?_
   obtain⟨hr,I6⟩:=hzz;subst hr;obtain⟨m6,n6,_⟩:=id I6.loc;refine⟨m6,n6,fun h7 sb7=>⟨.ref s2.heap.objs.size,H5,?_,rfl,qn⟩⟩;have C3:S3.heap.objs.size<=C:=Nat.le_of_eq hCC;refine I3.call' (s':={ s6 with heap:=h7 }) (ch:=fp) I6.os (jA2 I6.base C3 sb7) (jv6 I6.hok I6.free sb7) I6.bare fun b hb=>?_
   obtain⟨_,q1,_,q3,q4,q5⟩:=f3 b hb;exact⟨q3,q1,q4,q5⟩
  ·refine thn (T.item (jeb X scope (own++caps.map (·.1)) C S3 (upd H2 s2.heap.objs.size (.lst [])) fp) rfl rfl rfl hc i [] s5 σ5 H5 NoX I5 (xf fr5) st5 go) fun r s6 hzz=>?_
   obtain⟨u,hr,h6⟩:=hzz;subst hr;refine thn h6 fun _ s7 hzz=>?_
   obtain⟨x,H7,I7,r7,y7,st7,fr7⟩:=hzz;have I7':=I7.pinned (xf fr7) (T.obj _ _ st7);refine thn (hg _ _ _ _ _ s7 σ5 H7 x u _ I7' r7 (step x H7 y7)) fun _ s8 hzz=>?_
   obtain⟨σ8,H8,I8,q8⟩:=hzz;refine thn (ht _ _ _ _ _ s8 σ8 H8 _ I8 q8) fun ok s9 hzz=>?_
   obtain⟨H9,I9,q9⟩:=hzz;have again:∀ {s':Shared} {σ':St} {H':Hp},Inv (jeb X scope (own++caps.map (·.1)) C S3 (upd H2 s2.heap.objs.size (.lst [])) fp) ([]++jln fp s7.heap) σ' H' s'->N σ' H'->∃ m,m<n/\CpInv (jeb X scope (own++caps.map (·.1)) C S3 (upd H2 s2.heap.objs.size (.lst [])) fp) tn fp W m s':=fun {s' σ' H'} Ia na=>by
    obtain⟨m',hm,wa⟩:=hN σ' H' na;refine⟨m',hm,i+1,σ',H',Ia.unpinned,T.keep _ _ _ st7 fun b hb o e=>(Ia.pin (b,o) (zcy _ (zcy _ (jfy hb e)))).1,fun b hb=>?_,wa⟩;obtain⟨o,e,d⟩:=T.obj _ _ st7 b hb;exact (Ia.pin (b,o) (zcy _ (zcy _ (jfy hb e)))).2.1
   cases ok with
   | false =>
    rw[if_neg (by decide)] at q9 |-
    exact again I9 q9
   | true =>
    rw[if_pos rfl] at q9 |-
    refine thn (he _ _ _ _ _ s9 σ8 H9 _ I9 q9) fun y s10 hzz=>?_
    obtain⟨vy,H10,I10,r10,ys,hys,hlen,q10⟩:=hzz;refine thn (jio _ s10 σ8 H10 (.ref s2.heap.objs.size) [vy] (.ref s2.heap.objs.size) [y] (fun _ H'=>N σ8 H') I10 rfl (.cons r10 .nil) ⟨_,ys,vy,rfl,rfl,hys,hlen,q10⟩) fun _ s11 hzz=>?_
    obtain⟨_,H11,I11,_,q11⟩:=hzz;exact again I11 q11
 exact codeAny_compStart_list loop (T.self _ 0 _ _ _ st4 loop)
end
end L2
namespace DL
open PySem PySem.Spec L2
inductive D where
 | non|bl (b:Bool)|int (i:Int)|str (x:Str)|ty (n:String)|obj (i:Nat)|tup (xs:List D)|lst (xs:List D)
structure XD where
 cls:Str
 fs:List (Str×D)
noncomputable abbrev M(α:Type):=Option (Except XD α)
noncomputable def M.b{α β:Type}(m:M α)(f:α->M β):M β:=match m with
 | none=>none
 | some (.error x)=>some (.error x)
 | some (.ok a)=>f a
noncomputable def M.p{α:Type}(a:α):M α:=some (.ok a)
noncomputable def M.o{α:Type}:Option α->M α
 | none=>none
 | some a=>some (.ok a)
inductive M.BInv{α β:Type}(m:M α)(f:α->M β)(r:Except XD β):Prop
 | ok (a:α) (h1:m=some (.ok a)) (h2:f a=some r)
 | err (x:XD) (h1:m=some (.error x)) (h2:r=.error x)
theorem M.b_inv{α β:Type}{m:M α}{f:α->M β}{r:Except XD β}(h:m.b f=some r):M.BInv m f r:=by
 cases m with
 | none=>cases h
 | some e =>
  cases e with
  | error x=>exact .err x rfl (zby h).symm
  | ok a=>exact .ok a rfl h
theorem M.o_inv{α:Type}{m:Option α}{r:Except XD α}(h:M.o m=some r):∃ a,m=some a/\r=.ok a:=by
 cases m with
 | none=>cases h
 | some a=>exact⟨a,rfl,(zby h).symm⟩
@[simp] theorem M.b_ok{α β:Type}(a:α)(f:α->M β):M.b (some (.ok a)) f=f a:=rfl
@[simp] theorem M.b_p{α β:Type}(a:α)(f:α->M β):M.b (M.p a) f=f a:=rfl
@[simp] theorem M.b_err{α β:Type}(x:XD)(f:α->M β):M.b (some (.error x)) f=some (.error x):=rfl
@[simp] theorem M.o_some{α:Type}(a:α):M.o (some a)=M.p a:=rfl
noncomputable abbrev Rho:=Nat->Option Addr
mutual
noncomputable def Rep(ρ:Rho)(K:W.Frag)(H:Hp):D->V->Prop
 | .non,v=>v=.non
 | .bl b,v=>v=.bl b
 | .int i,v=>v=.int i
 | .str x,v=>v=.str x
 | .ty n,v=>v=.ty n
 | .obj i,v=>∃ a,ρ i=some a/\v=.ref a
 | .tup ds,v=>∃ a xs,v=.ref a/\SqT K H a xs/\Reps ρ K H ds xs
 | .lst ds,v=>∃ a xs,v=.ref a/\SqL K H a xs/\Reps ρ K H ds xs
noncomputable def Reps(ρ:Rho)(K:W.Frag)(H:Hp):List D->List V->Prop
 | [],xs=>xs=[]
 | d::ds,xs=>∃ v vs,xs=v::vs/\Rep ρ K H d v/\Reps ρ K H ds vs
end
variable {ρ:Rho}{K:W.Frag}{H H':Hp}
theorem jrl{a:Addr}{u:HO}(e:Same H H')(h:Rd H a u):Rd H' a u:=by
 rcases h with h|⟨o,h⟩
 ·exact .inl (e a _ h)
 ·exact .inr ⟨o,e a _ h⟩
theorem jcm{a:Addr}{xs:List V}(e:Same H H')(h:SqL K H a xs):SqL K H' a xs:=h.imp (jrl e) id
theorem jc1{a:Addr}{xs:List V}(e:Same H H')(h:SqT K H a xs):SqT K H' a xs:=h.imp (jrl e) id
mutual
theorem Rep.mono(e:Same H H'):∀ {d:D} {v:V},Rep ρ K H d v->Rep ρ K H' d v
 | .non,_,h=>by unfold Rep at h |-;exact h
 | .bl _,_,h=>by unfold Rep at h |-;exact h
 | .int _,_,h=>by unfold Rep at h |-;exact h
 | .str _,_,h=>by unfold Rep at h |-;exact h
 | .ty _,_,h=>by unfold Rep at h |-;exact h
 | .obj _,_,h=>by unfold Rep at h |-;exact h
 | .tup _,_,h=>by
  unfold Rep at h |-
  obtain⟨a,xs,q1,q2,q3⟩:=h;exact⟨a,xs,q1,jc1 e q2,Reps.mono e q3⟩
 | .lst _,_,h=>by
  unfold Rep at h |-
  obtain⟨a,xs,q1,q2,q3⟩:=h;exact⟨a,xs,q1,jcm e q2,Reps.mono e q3⟩
theorem Reps.mono(e:Same H H'):∀ {ds:List D} {vs:List V},Reps ρ K H ds vs->Reps ρ K H' ds vs
 | [],_,h=>by unfold Reps at h |-;exact h
 | _::_,_,h=>by
  unfold Reps at h |-
  obtain⟨v,vs,q1,q2,q3⟩:=h;exact⟨v,vs,q1,Rep.mono e q2,Reps.mono e q3⟩
end
theorem reps_nil{vs:List V}:Reps ρ K H [] vs↔vs=[]:=by unfold Reps;exact Iff.rfl
theorem reps_cons{d:D}{ds:List D}{vs:List V}:Reps ρ K H (d::ds) vs↔∃ v r,vs=v::r/\Rep ρ K H d v/\Reps ρ K H ds r:=by
 conv=>lhs;unfold Reps
theorem Reps.cons{d:D}{ds:List D}{v:V}{vs:List V}(h:Rep ρ K H d v)(t:Reps ρ K H ds vs):Reps ρ K H (d::ds) (v::vs):=reps_cons.mpr ⟨v,vs,rfl,h,t⟩
theorem Reps.nil:Reps ρ K H [] []:=reps_nil.mpr rfl
theorem Reps.length:∀ {ds:List D} {vs:List V},Reps ρ K H ds vs->vs.length=ds.length
 | [],_,h=>by rw[reps_nil.mp h];rfl
 | _::_,_,h=>by
  obtain⟨v,r,rfl,_,t⟩:=reps_cons.mp h;simp[Reps.length t]
theorem Reps.get:∀ {ds:List D} {vs:List V} {i:Nat} {d:D},Reps ρ K H ds vs->ds[i]? = some d->∃ v,vs[i]? = some v/\Rep ρ K H d v
 | [],_,_,_,_,e=>by simp at e
 | _::_,_,0,_,h,e=>by
  obtain⟨v,r,rfl,q,_⟩:=reps_cons.mp h;simp at e;subst e
  exact⟨v,rfl,q⟩
 | _::_,_,i+1,_,h,e=>by
  obtain⟨v,r,rfl,_,t⟩:=reps_cons.mp h;obtain⟨u,q1,q2⟩:=Reps.get (i:=i) t (by simpa using e);exact⟨u,by simpa using q1,q2⟩
theorem Reps.append:∀ {ds es:List D} {vs us:List V},Reps ρ K H ds vs->Reps ρ K H es us->Reps ρ K H (ds++es) (vs++us)
 | [],_,_,_,h,k=>by rw[reps_nil.mp h];exact k
 | _::_,_,_,_,h,k=>by
  obtain⟨v,r,rfl,q,t⟩:=reps_cons.mp h;exact Reps.cons q (Reps.append t k)
theorem rep_int{i:Int}{v:V}:Rep ρ K H (.int i) v↔v=.int i:=by unfold Rep;exact Iff.rfl
theorem rep_str{x:Str}{v:V}:Rep ρ K H (.str x) v↔v=.str x:=by unfold Rep;exact Iff.rfl
theorem rep_ty{n:String}{v:V}:Rep ρ K H (.ty n) v↔v=.ty n:=by unfold Rep;exact Iff.rfl
theorem rep_obj{i:Nat}{v:V}:Rep ρ K H (.obj i) v↔∃ a,ρ i=some a/\v=.ref a:=by unfold Rep;exact Iff.rfl
theorem rep_bl{b:Bool}{v:V}:Rep ρ K H (.bl b) v↔v=.bl b:=by unfold Rep;exact Iff.rfl
theorem rep_non{v:V}:Rep ρ K H .non v↔v=.non:=by unfold Rep;exact Iff.rfl
theorem rep_tup{ds:List D}{v:V}:Rep ρ K H (.tup ds) v↔∃ a xs,v=.ref a/\SqT K H a xs/\Reps ρ K H ds xs:=by conv=>lhs;unfold Rep
theorem rep_lst{ds:List D}{v:V}:Rep ρ K H (.lst ds) v↔∃ a xs,v=.ref a/\SqL K H a xs/\Reps ρ K H ds xs:=by conv=>lhs;unfold Rep
theorem reps_ints:∀ {ns:List Int} {vs:List V},Reps ρ K H (ns.map .int) vs↔vs=ns.map V.int
 | [],vs=>reps_nil
 | n::ns,vs=>by
  rw[List.map_cons,reps_cons];constructor
  ·rintro⟨v,r,rfl,h1,h2⟩;rw[rep_int.mp h1,reps_ints.mp h2];rfl
  ·rintro rfl;exact⟨_,_,rfl,rep_int.mpr rfl,reps_ints.mpr rfl⟩
noncomputable def hid(H:Hp)(G:Addr->Bool):Hp:=fun b=>if G b=true then none else H b
theorem hid_some{G:Addr->Bool}{b:Addr}{o:HO}:hid H G b=some o↔G b=false/\H b=some o:=by
 unfold hid;cases e:G b<;>simp
theorem jap{G:Addr->Bool}(e:Same H H'):Same (hid H G) (hid H' G):=fun b o h=>by
 obtain⟨q1,q2⟩:=hid_some.mp h;exact hid_some.mpr ⟨q1,e b o q2⟩
theorem jee{G G':Addr->Bool}(h:∀ b,G' b=true->G b=true):Same (hid H G) (hid H G'):=fun b o q=>by
 obtain⟨q1,q2⟩:=hid_some.mp q;refine hid_some.mpr ⟨?_,q2⟩
 cases e:G' b with
 | false=>rfl
 | true=>rw[h b e] at q1;cases q1
theorem jaj{G:Addr->Bool}:Same (hid H G) H:=fun b o q=>(hid_some.mp q).2
theorem jgf{G:Addr->Bool}{a:Addr}{o:HO}(h:G a=true):hid (upd H a o) G=hid H G:=by
 funext b
 unfold hid upd
 by_cases e:b=a
 ·subst e;rw[if_pos h,if_pos h]
 ·rw[if_neg e]
theorem ja1{p:Addr}{o:HO}(h:H p=none):Same H (upd H p o):=fun b u e=>by rw[jah (jaz e h)];exact e
theorem jiv{Hz:Hp}{p:Addr}{o:HO}(e:Same Hz H)(h:Hz p=none):Same Hz (upd H p o):=fun b u q=>by rw[jah (jaz q h)];exact e b u q
noncomputable abbrev DSt:=List (Option D)
noncomputable def jxk:Option (Option V)->Option Addr
 | some (some (.ref a))=>some a
 | _=>none
theorem jot{o:Option (Option V)}{a:Addr}:jxk o=some a↔o=some (some (.ref a)):=by
 constructor
 ·intro h;unfold jxk at h
  split at h
  ·cases h;rfl
  ·cases h
 ·rintro rfl;rfl
noncomputable def ownA(σ:St):List Nat->List Addr
 | []=>[]
 | i::O=>(jxk σ[i]?).toList++ownA σ O
theorem jtc{σ:St}{O:List Nat}{a:Addr}:a∈ownA σ O↔∃ i∈O,σ[i]? = some (some (.ref a)):=by
 induction O with
 | nil=>simp[ownA]
 | cons j O ih =>
  unfold ownA;rw[List.mem_append,ih,Option.mem_toList,jot];constructor
  ·rintro (h|⟨i,hi,h⟩)
   ·exact⟨j,zaa,h⟩
   ·exact⟨i,zaw _ hi,h⟩
  ·rintro⟨i,hi,h⟩;rcases List.mem_cons.mp hi with rfl|hi
   ·exact .inl h
   ·exact .inr ⟨i,hi,h⟩
noncomputable def fob(F:Addr->Bool)(σ:St)(O:List Nat):Addr->Bool:=fun b=>F b || (ownA σ O).contains b
theorem fob_t{F:Addr->Bool}{σ:St}{O:List Nat}{b:Addr}:fob F σ O b=true↔F b=true\/∃ i∈O,σ[i]? = some (some (.ref b)):=by
 unfold fob;rw[Bool.or_eq_true,zbc,jtc]
theorem jdo{F:Addr->Bool}{σ:St}:fob F σ []=F:=by
 funext b;unfold fob ownA;simp
structure RS(ρ:Rho)(K:W.Frag)(Hz H:Hp)(F:Addr->Bool)(O:List Nat)(σ:St)(δ:DSt):Prop where
 len:σ.length=δ.length
 same:Same Hz H
 fin:∀ b,F b=true->H b≠none
 val:∀ (i:Nat) d,δ[i]? = some (some d)->i∉O->∃ v,σ[i]? = some (some v)/\Rep ρ K (hid H (fob F σ O)) d v
 own:∀ i∈O,∃ (a:Addr) (xs:List V) (ds:List D),δ[i]? = some (some (.lst ds))/\σ[i]? = some (some (.ref a))/\H a=some (.lst xs)/\(Hz a=none/\F a=false)/\Reps ρ K (hid H (fob F σ O)) ds xs
 nd:∀ i∈O,∀ j∈O,∀ a,σ[i]? = some (some (.ref a))->σ[j]? = some (some (.ref a))->i=j
section
variable {Hz:Hp}{F:Addr->Bool}{O:List Nat}{σ:St}{δ:DSt}
theorem jxm{b:Addr}(e:Same H H')(h:H b≠none):H' b≠none:=fun z=>by
 cases q:H b with
 | none=>exact h q
 | some o=>rw[e b o q] at z;cases z
theorem jjp{b p:Addr}{o:HO}(h:H b≠none):upd H p o b≠none:=by
 by_cases e:b=p
 ·subst e;rw[jao];exact fun z=>nomatch z
 ·rw[jah e];exact h
theorem RS.mono(R:RS ρ K Hz H F O σ δ)(e:Same H H'):RS ρ K Hz H' F O σ δ :=
 ⟨R.len,R.same.trans e,fun b hb=>jxm e (R.fin b hb),fun i d h ho=>let ⟨v,q1,q2⟩:=R.val i d h ho;⟨v,q1,q2.mono (jap e)⟩,
  fun i hi=>let ⟨a,xs,ds,q1,q2,q3,q4,q5⟩:=R.own i hi;⟨a,xs,ds,q1,q2,e a _ q3,q4,q5.mono (jap e)⟩,R.nd⟩
theorem RS.fresh(R:RS ρ K Hz H F O σ δ){p:Addr}(h:H p=none):fob F σ O p=false:=by
 cases e:fob F σ O p with
 | false=>rfl
 | true =>
  rcases fob_t.mp e with q|⟨i,hi,q⟩
  ·exact absurd h (R.fin p q)
  ·obtain⟨a,xs,ds,_,q2,q3,_⟩:=R.own i hi;rw[q] at q2;cases q2
   rw[q3] at h;cases h
theorem RS.fresh0(R:RS ρ K Hz H F O σ δ){p:Addr}(h:H p=none):Hz p=none:=by
 cases e0:Hz p with
 | none=>rfl
 | some o=>rw[R.same p o e0] at h;cases h
theorem RS.thaw{O':List Nat}(R:RS ρ K Hz H F O σ δ)(h:∀ i∈O',i∈O):RS ρ K Hz H F O' σ δ:=by
 have le:∀ b,fob F σ O' b=true->fob F σ O b=true:=fun b q=>by
  rcases fob_t.mp q with q|⟨i,hi,q⟩
  ·exact fob_t.mpr (.inl q)
  ·exact fob_t.mpr (.inr ⟨i,h i hi,q⟩)
 refine⟨R.len,R.same,R.fin,fun i d hd ho=>?_,fun i hi=>?_,fun i hi j hj=>R.nd i (h i hi) j (h j hj)⟩
 ·by_cases hO:i∈O
  ·obtain⟨a,xs,ds,q1,q2,q3,q4,q5⟩:=R.own i hO;rw[q1] at hd;cases hd
   refine⟨_,q2,rep_lst.mpr ⟨a,xs,rfl,SqL.of (hid_some.mpr ⟨?_,q3⟩),q5.mono (jee le)⟩⟩
   cases e:fob F σ O' a with
   | false=>rfl
   | true =>
    rcases fob_t.mp e with z|⟨j,hj,z⟩
    ·rw[q4.2] at z;cases z
    ·exact absurd (R.nd i hO j (h j hj) a q2 z ▸ hj) ho
  ·obtain⟨v,q1,q2⟩:=R.val i d hd hO;exact⟨v,q1,q2.mono (jee le)⟩
 ·obtain⟨a,xs,ds,q1,q2,q3,q4,q5⟩:=R.own i (h i hi);exact⟨a,xs,ds,q1,q2,q3,q4,q5.mono (jee le)⟩
theorem jc5{i:Nat}{v:V}(h:i∉O):fob F (σ.set i (some v)) O=fob F σ O:=by
 have:ownA (σ.set i (some v)) O=ownA σ O:=by
  induction O with
  | nil=>rfl
  | cons j O ih =>
   unfold ownA;rw[zbw (by rintro rfl;exact h zaa),ih fun z=>h (zaw _ z)]
 unfold fob;rw[this]
theorem RS.set(R:RS ρ K Hz H F O σ δ){i:Nat}{d:D}{v:V}(ho:i∉O)(hr:Rep ρ K (hid H (fob F σ O)) d v):RS ρ K Hz H F O (σ.set i (some v)) (δ.set i (some d)):=by
 have ne:∀ j∈O,j≠i:=fun j hj e=>ho (e ▸ hj)
 refine⟨by simp[R.len],R.same,R.fin,fun j e hd hj=>?_,fun j hj=>?_,fun j hj k hk a e1 e2=>?_⟩
 ·rw[jc5 ho]
  by_cases hji:j=i
  ·subst hji;have hl:j<δ.length:=by
    by_cases q:j<δ.length
    ·exact q
    ·rw[List.getElem?_eq_none (by simpa using q)] at hd;cases hd
   rw[zcz hl] at hd;cases hd;exact⟨v,zcz (by rw[R.len];exact hl),hr⟩
  ·rw[zbw (Ne.symm hji)] at hd |-
   exact R.val j e hd hj
 ·rw[jc5 ho,zbw (Ne.symm (ne j hj)),zbw (Ne.symm (ne j hj))];exact R.own j hj
 ·rw[zbw (Ne.symm (ne j hj))] at e1;rw[zbw (Ne.symm (ne k hk))] at e2;exact R.nd j hj k hk a e1 e2
theorem RS.take(R:RS ρ K Hz H F O σ δ){i:Nat}{ds:List D}{p:Addr}{xs:List V}{H1:Hp}(ho:i∉O)(hi:i<δ.length)(e:Same H H1)(hp:H1 p=none)(hr:Reps ρ K (hid H1 (fob F σ O)) ds xs) :
  RS ρ K Hz (upd H1 p (.lst xs)) F (i::O) (σ.set i (some (.ref p))) (δ.set i (some (.lst ds))):=by
 have R1:=R.mono e;have p0:=R1.fresh0 hp;have pf:=R1.fresh hp;have ne:∀ j∈O,j≠i:=fun j hj e=>ho (e ▸ hj)
 have lσ:i<σ.length:=by rw[R.len];exact hi
 have gp:∀ b,fob F (σ.set i (some (.ref p))) (i::O) b=true↔b=p\/fob F σ O b=true:=fun b=>by
  rw[fob_t,fob_t];constructor
  ·rintro (q|⟨j,hj,q⟩)
   ·exact .inr (.inl q)
   ·rcases List.mem_cons.mp hj with rfl|hj
    ·rw[zcz lσ] at q;cases q;exact .inl rfl
    ·rw[zbw (Ne.symm (ne j hj))] at q;exact .inr (.inr ⟨j,hj,q⟩)
  ·rintro (rfl|q|⟨j,hj,q⟩)
   ·exact .inr ⟨i,zaa,zcz lσ⟩
   ·exact .inl q
   ·exact .inr ⟨j,zaw _ hj,by rw[zbw (Ne.symm (ne j hj))];exact q⟩
 have eqH:hid (upd H1 p (.lst xs)) (fob F (σ.set i (some (.ref p))) (i::O))=hid H1 (fob F σ O):=by
  funext b
  by_cases hb:b=p
  ·subst hb;unfold hid;rw[if_pos ((gp b).mpr (.inl rfl)),hp]
   split<;>rfl
  ·unfold hid;rw[jah hb]
   cases q:fob F σ O b with
   | true=>rw[if_pos ((gp b).mpr (.inr q)),if_pos rfl]
   | false =>
    rw[if_neg (by rw[gp];rintro (z|z);exact hb z;rw[q] at z;cases z),if_neg (by decide)]
 refine⟨by simp[R.len],jiv R1.same p0,fun b hb=>jjp (R1.fin b hb),fun j d hd hj=>?_,fun j hj=>?_,fun j hj k hk a e1 e2=>?_⟩
 ·have hji:j≠i:=fun z=>hj (z ▸ zaa)
  rw[eqH];rw[zbw (Ne.symm hji)] at hd |-
  exact R1.val j d hd fun z=>hj (zaw _ z)
 ·rw[eqH];rcases List.mem_cons.mp hj with rfl|hj
  ·exact⟨p,xs,ds,zcz hi,zcz lσ,jao,⟨p0,by cases z:F p with|false=>rfl|true=>rw[fob_t.mpr (.inl z)] at pf;cases pf⟩,hr⟩
  ·obtain⟨a,ys,es,q1,q2,q3,q4,q5⟩:=R1.own j hj;refine⟨a,ys,es,by rw[zbw (Ne.symm (ne j hj))];exact q1,by rw[zbw (Ne.symm (ne j hj))];exact q2,?_,q4,q5⟩;rw[jah (jaz q3 hp)];exact q3
 ·have np:∀ j∈O,∀ a,σ[j]? = some (some (.ref a))->a≠p:=fun j hj a q z=>by
   obtain⟨a',ys,es,q1,q2,q3,q4,q5⟩:=R1.own j hj;rw[q] at q2;cases q2
   rw[z,hp] at q3;cases q3
  rcases List.mem_cons.mp hj with rfl|hj
  ·rw[zcz lσ] at e1;cases e1;rcases List.mem_cons.mp hk with rfl|hk
   ·rfl
   ·rw[zbw (Ne.symm (ne k hk))] at e2;exact absurd rfl (np k hk p e2)
  ·rw[zbw (Ne.symm (ne j hj))] at e1;rcases List.mem_cons.mp hk with hke|hk
   ·subst hke;rw[zcz lσ] at e2;cases e2;exact absurd rfl (np j (by assumption) p e1)
   ·rw[zbw (Ne.symm (ne k hk))] at e2;exact R.nd j hj k hk a e1 e2
theorem RS.write(R:RS ρ K Hz H F O σ δ){i:Nat}{a:Addr}{ds:List D}{xs:List V}(hi:i∈O)(ha:σ[i]? = some (some (.ref a)))(hr:Reps ρ K (hid H (fob F σ O)) ds xs) :
  RS ρ K Hz (upd H a (.lst xs)) F O σ (δ.set i (some (.lst ds))):=by
 obtain⟨a',ys,es,q1,q2,q3,q4,q5⟩:=R.own i hi;rw[ha] at q2;cases q2
 have hl:i<δ.length:=(zbb.mp q1).1;have hh:hid (upd H a (.lst xs)) (fob F σ O)=hid H (fob F σ O):=jgf (fob_t.mpr (.inr ⟨i,hi,ha⟩));refine⟨by simp[R.len],jiv R.same q4.1,fun b hb=>jjp (R.fin b hb),fun j d hd hj=>?_,fun j hj=>?_,R.nd⟩
 ·have hji:j≠i:=fun z=>hj (z ▸ hi)
  rw[hh];rw[zbw (Ne.symm hji)] at hd;exact R.val j d hd hj
 ·rw[hh]
  by_cases hji:j=i
  ·subst hji;exact⟨a,xs,ds,zcz hl,ha,jao,q4,hr⟩
  ·obtain⟨b,zs,fs,p1,p2,p3,p4,p5⟩:=R.own j hj;refine⟨b,zs,fs,by rw[zbw (Ne.symm hji)];exact p1,p2,?_,p4,p5⟩;rw[jah (show b≠a from fun z=>hji (R.nd j hj i hi b p2 (by rw[z];exact ha)))];exact p3
end
noncomputable def XRep(K:W.Frag)(H:Hp)(x:XD)(c:Value)(dx:Option Addr):Prop:=False
noncomputable def okX(K:W.Frag)(Hz:Hp)(E:XK)(x:XD):Prop:=∀ c dx H',Same Hz H'->XRep K H' x c dx->E c dx H'
inductive tD(K:W.Frag)(O:List Nat)(E:XK)(f:DSt->M D)(σ:St)(H:Hp)(Q:VK):Prop
 | mk (ρ:Rho) (Hz:Hp) (F:Addr->Bool) (δ:DSt) (r:Except XD D) (R:RS ρ K Hz H F O σ δ) (hf:f δ=some r) (k:match (generalizing:=false) r with
  | .ok d=>∀ v H',Same H H'->Rep ρ K (hid H' (fob F σ O)) d v->Q v H'
  | .error x=>okX K Hz E x)
noncomputable def DE(X:Cx)(O:List Nat)(E:XK)(e:Expr)(f:DSt->M D):Prop:=PE X e (tD X.K O E f)
inductive tB(K:W.Frag)(O:List Nat)(E:XK)(f:DSt->M Bool)(σ:St)(H:Hp)(Q:Bool->Hp->Prop):Prop
 | mk (ρ:Rho) (Hz:Hp) (F:Addr->Bool) (δ:DSt) (r:Except XD Bool) (R:RS ρ K Hz H F O σ δ) (hf:f δ=some r) (k:match (generalizing:=false) r with
  | .ok b=>∀ H',Same H H'->Q b H'
  | .error x=>okX K Hz E x)
noncomputable def DT(X:Cx)(O:List Nat)(E:XK)(e:Expr)(f:DSt->M Bool):Prop:=PT X e (tB X.K O E f)
inductive tL(K:W.Frag)(O:List Nat)(E:XK)(f:DSt->M (List D))(σ:St)(H:Hp)(Q:List V->Hp->Prop):Prop
 | mk (ρ:Rho) (Hz:Hp) (F:Addr->Bool) (δ:DSt) (r:Except XD (List D)) (R:RS ρ K Hz H F O σ δ) (hf:f δ=some r) (k:match (generalizing:=false) r with
  | .ok ds=>∀ vs H',Same H H'->Reps ρ K (hid H' (fob F σ O)) ds vs->Q vs H'
  | .error x=>okX K Hz E x)
noncomputable def DA(X:Cx)(O:List Nat)(E:XK)(es:List Expr)(f:DSt->M (List D)):Prop:=PA X es (tL X.K O E f)
noncomputable def fVar(i:Nat):DSt->M D:=fun δ=>M.o (δ[i]?).join
noncomputable def fC(d:D):DSt->M D:=fun _=>M.p d
noncomputable def f2(g:D->D->Option D)(fa fb:DSt->M D):DSt->M D:=fun δ=>(fa δ).b fun x=>(fb δ).b fun y=>M.o (g x y)
noncomputable def f1(g:D->Option D)(fa:DSt->M D):DSt->M D:=fun δ=>(fa δ).b fun x=>M.o (g x)
noncomputable def t2(g:D->D->Option D)(fa fb:DSt->M D):DSt->M Bool:=fun δ=>(fa δ).b fun x=>(fb δ).b fun y=>match g x y with
 | some (.bl b)=>M.p b
 | _=>none
noncomputable def fNil:DSt->M (List D):=fun _=>M.p []
noncomputable def jac(f:DSt->M D)(g:DSt->M (List D)):DSt->M (List D):=fun δ=>(f δ).b fun x=>(g δ).b fun xs=>M.p (x::xs)
noncomputable def fL(k:List D->Option D)(g:DSt->M (List D)):DSt->M D:=fun δ=>(g δ).b fun xs=>M.o (k xs)
section
variable {ρ:Rho}{X:Cx}{O:List Nat}{E:XK}{a b c e:Expr}{es:List Expr}{fa fb fc:DSt->M D}{fl:DSt->M (List D)}{pos:Pos}
theorem join_some{δ:DSt}{i:Nat}{d:D}(h:(δ[i]?).join=some d):δ[i]? = some (some d):=by
 cases e:δ[i]? with
 | none=>rw[e] at h;cases h
 | some o=>rw[e] at h;exact congrArg some h
theorem jab(i:Nat){x:Str}(ho:autoParam (O.contains i=false) zau2._auto_1)(hN:autoParam (X.N[i]? = some x) zau2._auto_1)(hv:autoParam (Vis X.env.scope x) zau5._auto_1)
  (hd:autoParam ((x == ("__debug__":Str))=false) zau1._auto_1) (hcd:autoParam ((x == ("__classdict__":Str))=false) zau1._auto_1):DE X O E (.Name x pos) (fVar i):=by
 rintro pins s σ H Q I ⟨ρ,Hz,F,δ,r,R,hf,h⟩;obtain⟨d,e,rfl⟩:=M.o_inv hf;have ho':i∉O:=fun z=>by rw[zbc.mpr z] at ho;cases ho
 obtain⟨v,q1,q2⟩:=R.val i d (join_some e) ho';exact jnt hN hv hd hcd pins s σ H Q I ⟨v,q1,h v H (Same.refl H) q2⟩
theorem jky{t:TE}{d:D}{v:V}(h:PE X e (tC v))(hr:∀ ρ H,Rep ρ X.K H d v):DE X O E e (fC d):=by
 rintro pins s σ H Q I ⟨ρ,Hz,F,δ,r,R,hf,k⟩;cases hf;exact h pins s σ H Q I (k v H (Same.refl H) (hr _ _))
theorem jad{i:Int}{j}:DE X O E (.Constant (.int i) j pos) (fC (.int i)):=jky (t:=tC (.int i)) jAa fun _ _=>rep_int.mpr rfl
theorem jvr{k:Bool}{j}:DE X O E (.Constant (.bool k) j pos) (fC (.bl k)):=jky (t:=tC (.bl k)) jCl fun _ _=>rep_bl.mpr rfl
theorem juc{j}:DE X O E (.Constant .none j pos) (fC .non):=jky (t:=tC .non) jAb fun _ _=>rep_non.mpr rfl
theorem jb9{x:Str}{j}:DE X O E (.Constant (.str x) j pos) (fC (.str x)):=jky (t:=tC (.str x)) jAd fun _ _=>rep_str.mpr rfl
noncomputable def OpD(K:W.Frag)(g:D->D->Option D)(r:R2):Prop:=∀ x y d,g x y=some d->∀ (ρ:Rho) (H:Hp) (G:Addr->Bool) u v (Q:VK),(∀ p,H p=none->G p=false)->Rep ρ K (hid H G) x u->Rep ρ K (hid H G) y v ->
 (∀ w H',Same H H'->Rep ρ K (hid H' G) d w->Q w H')->r u v H Q
noncomputable def UnD(K:W.Frag)(g:D->Option D)(r:V->Hp->VK->Prop):Prop:=∀ x d,g x=some d->∀ (ρ:Rho) (H:Hp) (G:Addr->Bool) u (Q:VK),(∀ p,H p=none->G p=false)->Rep ρ K (hid H G) x u ->
 (∀ w H',Same H H'->Rep ρ K (hid H' G) d w->Q w H')->r u H Q
noncomputable def CaD(K:W.Frag)(g:List D->Option D)(r:List V->Hp->VK->Prop):Prop:=∀ xs d,g xs=some d->∀ (ρ:Rho) (H:Hp) (G:Addr->Bool) us (Q:VK),(∀ p,H p=none->G p=false)->Reps ρ K (hid H G) xs us ->
 (∀ w H',Same H H'->Rep ρ K (hid H' G) d w->Q w H')->r us H Q
theorem jm6{g:D->D->Option D}{r:R2}{σ:St}{H:Hp}{Q:VK}(hg:OpD X.K g r)(h:tD X.K O E (f2 g fa fb) σ H Q):tOp r (tD X.K O E fa) (tD X.K O E fb) σ H Q:=by
 obtain⟨ρ,Hz,F,δ,rr,R,hf,h⟩:=h;rcases M.b_inv hf with ⟨x,e1,hf⟩|⟨x,e1,rfl⟩
 ·refine⟨ρ,Hz,F,δ,.ok x,R,e1,fun u H1 s1 r1=>?_⟩;rcases M.b_inv hf with ⟨y,e2,hf⟩|⟨y,e2,rfl⟩
  ·refine⟨ρ,Hz,F,δ,.ok y,R.mono s1,e2,fun v H2 s2 r2=>?_⟩;obtain⟨d,hd,rfl⟩:=M.o_inv hf;exact hg x y d hd ρ H2 _ u v Q (fun p hp=>(R.mono (s1.trans s2)).fresh hp) (r1.mono (jap s2)) r2 fun w H3 s3 r3=>h w H3 (s1.trans (s2.trans s3)) r3
  ·exact⟨ρ,Hz,F,δ,.error y,R.mono s1,e2,h⟩
 ·exact⟨ρ,Hz,F,δ,.error x,R,e1,h⟩
theorem jag{op:Operator}{g:D->D->Option D}{r:R2}(ho:OpR X (binaryOp op) r)(hg:OpD X.K g r)(ha:DE X O E a fa)(hb:DE X O E b fb):DE X O E (.BinOp a op b pos) (f2 g fa fb) :=
 fun pins s σ H Q I h=>jCm ho ha hb pins s σ H Q I (jm6 hg h)
theorem ja2{g:D->D->Option D}{r:R2}(ho:IxR X r)(hg:OpD X.K g r)(ha:DE X O E a fa)(hb:DE X O E b fb)(hs:autoParam (jjq b) zau6._auto_1):DE X O E (.Subscript a b pos) (f2 g fa fb) :=
 fun pins s σ H Q I h=>jw5 ho ha hb hs pins s σ H Q I (jm6 hg h)
theorem jjf{op:CmpOp}{g:D->D->Option D}{r:R2}(ho:OpR X (compareOp op) r)(hg:OpD X.K g r)(ha:DE X O E a fa)(hb:DE X O E b fb)(hm:behindInMarks op b=false):DE X O E (.Compare a [op] [b] pos) (f2 g fa fb) :=
 fun pins s σ H Q I h=>jq6 ho ha hb hm pins s σ H Q I (jm6 hg h)
theorem jc7{op:CmpOp}{g:D->D->Option D}{r:R2}(ho:OpR X (compareOp op) r)(hg:OpD X.K g r)(ha:DE X O E a fa)(hb:DE X O E b fb)(hm:behindInMarks op b=false):DT X O E (.Compare a [op] [b] pos) (t2 g fa fb):=by
 rintro pins s σ H Q I ⟨ρ,Hz,F,δ,rr,R,hf,h⟩;refine jmq ho ha hb hm pins s σ H Q I (jm6 (r:=r) hg ?_);have key:∃ r':Except XD D,f2 g fa fb δ=some r'/\(match r',rr with|.ok d,.ok b=>d=.bl b|.error x,.error y=>x=y|_,_=>False):=by
  rcases M.b_inv hf with ⟨x,e1,hf⟩|⟨x,e1,rfl⟩
  ·rcases M.b_inv hf with ⟨y,e2,hf⟩|⟨y,e2,rfl⟩
   ·unfold f2;rw[e1,M.b_ok,e2,M.b_ok]
    cases e3:g x y with
    | none=>rw[e3] at hf;cases hf
    | some d =>
     rw[e3] at hf
     cases d with
     | bl k=>cases hf;exact⟨_,rfl,rfl⟩
     | _=>cases hf
   ·exact⟨.error y,by unfold f2;rw[e1,M.b_ok,e2];rfl,rfl⟩
  ·exact⟨.error x,by unfold f2;rw[e1];rfl,rfl⟩
 obtain⟨r',e,q⟩:=key;refine⟨ρ,Hz,F,δ,r',R,e,?_⟩
 cases r' with
 | error x=>cases rr with
  | error y=>cases q;exact h
  | ok _=>exact q.elim
 | ok d=>cases rr with
  | error y=>exact q.elim
  | ok k =>
   cases q;exact fun v H' s' rv=>⟨k,rep_bl.mp rv,h H' s'⟩
theorem jDb{g:D->Option D}{r:V->Hp->VK->Prop}{σ:St}{H:Hp}{Q:VK}(hg:UnD X.K g r)(h:tD X.K O E (f1 g fa) σ H Q):tUn r (tD X.K O E fa) σ H Q:=by
 obtain⟨ρ,Hz,F,δ,rr,R,hf,h⟩:=h;rcases M.b_inv hf with ⟨x,e1,hf⟩|⟨x,e1,rfl⟩
 ·refine⟨ρ,Hz,F,δ,.ok x,R,e1,fun u H1 s1 r1=>?_⟩;obtain⟨d,hd,rfl⟩:=M.o_inv hf;exact hg x d hd ρ H1 _ u Q (fun p hp=>(R.mono s1).fresh hp) r1 fun w H3 s3 r3=>h w H3 (s1.trans s3) r3
 ·exact⟨ρ,Hz,F,δ,.error x,R,e1,h⟩
theorem jBr{op:UnaryOp}{g:D->Option D}{r:V->Hp->VK->Prop}(ho:UnR X (unaryOp op) r)(hg:UnD X.K g r)(ha:DE X O E a fa):DE X O E (.UnaryOp op a pos) (f1 g fa) :=
 fun pins s σ H Q I h=>jCn ho ha pins s σ H Q I (jDb hg h)
theorem jaf:DA X O E [] fNil:=by
 rintro p pins s σ H Q I ⟨ρ,Hz,F,δ,r,R,hf,h⟩;cases hf;exact jhj p pins s σ H Q I (h [] H (Same.refl H) Reps.nil)
theorem jaa(ha:DE X O E e fa)(hr:DA X O E es fl)(hs:autoParam (starEach (e::es) X.env=(false,eval e X.env)::starEach es X.env) zau2._auto_1):DA X O E (e::es) (jac fa fl):=by
 rintro p pins s σ H Q I ⟨ρ,Hz,F,δ,r,R,hf,h⟩;refine jd6 ha hr hs p pins s σ H Q I ?_;rcases M.b_inv hf with ⟨x,e1,hf⟩|⟨x,e1,rfl⟩
 ·refine⟨ρ,Hz,F,δ,.ok x,R,e1,fun u H1 s1 r1=>?_⟩;rcases M.b_inv hf with ⟨xs,e2,hf⟩|⟨y,e2,rfl⟩
  ·cases hf;exact⟨ρ,Hz,F,δ,.ok xs,R.mono s1,e2,fun vs H2 s2 r2=>h (u::vs) H2 (s1.trans s2) (Reps.cons (r1.mono (jap s2)) r2)⟩
  ·exact⟨ρ,Hz,F,δ,.error y,R.mono s1,e2,h⟩
 ·exact⟨ρ,Hz,F,δ,.error x,R,e1,h⟩
theorem jqi{k:List D->Option D}{r:List V->Hp->VK->Prop}{σ:St}{H:Hp}{Q:VK}(hg:CaD X.K k r)(h:tD X.K O E (fL k fl) σ H Q):tCB r (tL X.K O E fl) σ H Q:=by
 obtain⟨ρ,Hz,F,δ,rr,R,hf,h⟩:=h;rcases M.b_inv hf with ⟨x,e1,hf⟩|⟨x,e1,rfl⟩
 ·refine⟨ρ,Hz,F,δ,.ok x,R,e1,fun u H1 s1 r1=>?_⟩;obtain⟨d,hd,rfl⟩:=M.o_inv hf;exact hg x d hd ρ H1 _ u Q (fun p hp=>(R.mono s1).fresh hp) r1 fun w H3 s3 r3=>h w H3 (s1.trans s3) r3
 ·exact⟨ρ,Hz,F,δ,.error x,R,e1,h⟩
theorem ja9{k:List D->Option D}{r:List V->Hp->VK->Prop}{x:Str}{id:String}{p:Pos}(hc:CallR X (.builtin id) r)(hg:CaD X.K k r)(hG:Gl X x)(hm:X.mg x=none)(hv:bootBuiltins x=some (.builtin id))(ha:DA X O E (e::es) fl)
  (hn:autoParam (x≠"__name__") zau1._auto_1) (hdb:autoParam ((x == ("__debug__":Str))=false) zau1._auto_1) (he:autoParam (starEach (e::es) X.env=(false,eval e X.env)::starEach es X.env) zau2._auto_1) (hpl:autoParam ((backTo pos (starEach es X.env)).any (·.1)=false) zau2._auto_1) :
  DE X O E (.Call (.Name x p) (e::es) [] pos) (fL k fl):=fun pins s σ H Q I h=>jhz hc hG hm hv ha hn hdb he hpl pins s σ H Q I (jqi hg h)
theorem jdl{k:List D->Option D}{r:List V->Hp->VK->Prop}{x:Str}{T:String}{p:Pos}(hc:CallR X (.type T) r)(hg:CaD X.K k r)(hG:Gl X x)(hm:X.mg x=none)(hv:bootBuiltins x=some (.type T))(ha:DA X O E (e::es) fl)
  (hn:autoParam (x≠"__name__") zau1._auto_1) (hdb:autoParam ((x == ("__debug__":Str))=false) zau1._auto_1) (he:autoParam (starEach (e::es) X.env=(false,eval e X.env)::starEach es X.env) zau2._auto_1) (hpl:autoParam ((backTo pos (starEach es X.env)).any (·.1)=false) zau2._auto_1) :
  DE X O E (.Call (.Name x p) (e::es) [] pos) (fL k fl):=fun pins s σ H Q I h=>jfp hc hG hm hv ha hn hdb he hpl pins s σ H Q I (jqi hg h)
noncomputable def jb6(xs:List D):Option D:=if xs.length<=sizeLine then some (.tup xs) else none
noncomputable def jb0(xs:List D):Option D:=if xs.length<=sizeLine then some (.lst xs) else none
theorem jby{ρ:Rho}{K:W.Frag}{H:Hp}{G:Addr->Bool}{p:Addr}{vs:List V}{ds:List D}(hp:H p=none)(hG:G p=false)(h:Reps ρ K (hid H G) ds vs):Rep ρ K (hid (upd H p (.tup vs)) G) (.tup ds) (.ref p) :=
 rep_tup.mpr ⟨p,vs,rfl,SqT.of (hid_some.mpr ⟨hG,jao⟩),h.mono (jap (ja1 hp))⟩
theorem jcq{ρ:Rho}{K:W.Frag}{H:Hp}{G:Addr->Bool}{p:Addr}{vs:List V}{ds:List D}(hp:H p=none)(hG:G p=false)(h:Reps ρ K (hid H G) ds vs):Rep ρ K (hid (upd H p (.lst vs)) G) (.lst ds) (.ref p) :=
 rep_lst.mpr ⟨p,vs,rfl,SqL.of (hid_some.mpr ⟨hG,jao⟩),h.mono (jap (ja1 hp))⟩
theorem jec{x1}(h:DA X O E es fl):DE X O E (.Tuple es x1 pos) (fL jb6 fl):=by
 rintro pins s σ H Q I ⟨ρ,Hz,F,δ,rr,R,hf,k⟩;refine jq7 h pins s σ H Q I ?_;rcases M.b_inv hf with ⟨x,e1,hf⟩|⟨x,e1,rfl⟩
 ·refine⟨ρ,Hz,F,δ,.ok x,R,e1,fun u H1 s1 r1=>?_⟩;obtain⟨d,hd,rfl⟩:=M.o_inv hf;unfold jb6 at hd
  split at hd
  ·rename_i hz;cases hd;exact⟨by rw[r1.length];exact hz,fun p hp=>k _ _ (s1.trans (ja1 hp)) (jby hp ((R.mono s1).fresh hp) r1)⟩
  ·cases hd
 ·exact⟨ρ,Hz,F,δ,.error x,R,e1,k⟩
theorem jgp(h:DA X O E es fl):DE X O E (.List es pos) (fL jb0 fl):=by
 rintro pins s σ H Q I ⟨ρ,Hz,F,δ,rr,R,hf,k⟩;refine jnr h pins s σ H Q I ?_;rcases M.b_inv hf with ⟨x,e1,hf⟩|⟨x,e1,rfl⟩
 ·refine⟨ρ,Hz,F,δ,.ok x,R,e1,fun u H1 s1 r1=>?_⟩;obtain⟨d,hd,rfl⟩:=M.o_inv hf;unfold jb0 at hd
  split at hd
  ·rename_i hz;cases hd;exact⟨by rw[r1.length];exact hz,fun p hp=>k _ _ (s1.trans (ja1 hp)) (jcq hp ((R.mono s1).fresh hp) r1)⟩
  ·cases hd
 ·exact⟨ρ,Hz,F,δ,.error x,R,e1,k⟩
noncomputable def fAnd(fa fb:DSt->M D):DSt->M D:=fun δ=>(fa δ).b fun x=>match x with
 | .bl true=>fb δ
 | .bl false=>M.p (.bl false)
 | _=>none
noncomputable def fOr(fa fb:DSt->M D):DSt->M D:=fun δ=>(fa δ).b fun x=>match x with
 | .bl true=>M.p (.bl true)
 | .bl false=>fb δ
 | _=>none
noncomputable def gNot:D->Option D
 | .bl b=>some (.bl !b)
 | _=>none
noncomputable def tAnd(ta tb:DSt->M Bool):DSt->M Bool:=fun δ=>(ta δ).b fun x=>if x=true then tb δ else M.p false
noncomputable def tOr(ta tb:DSt->M Bool):DSt->M Bool:=fun δ=>(ta δ).b fun x=>if x=true then M.p true else tb δ
noncomputable def tNot(ta:DSt->M Bool):DSt->M Bool:=fun δ=>(ta δ).b fun x=>M.p !x
noncomputable def fIf(tc:DSt->M Bool)(fa fb:DSt->M D):DSt->M D:=fun δ=>(tc δ).b fun x=>if x=true then fa δ else fb δ
variable {rest:List Expr}{ta tb':DSt->M Bool}
theorem jjg{op}(h:DE X O E a fa):DE X O E (.BoolOp op [a] pos) fa:=fun pins s σ H Q I hw=>juz h pins s σ H Q I hw
theorem jhf(ha:DE X O E a fa)(hb:DE X O E (.BoolOp .And (b::rest) pos) fb):DE X O E (.BoolOp .And (a::b::rest) pos) (fAnd fa fb):=by
 rintro pins s σ H Q I ⟨ρ,Hz,F,δ,rr,R,hf,k⟩;refine juy ha hb pins s σ H Q I ?_;rcases M.b_inv hf with ⟨x,e1,hf⟩|⟨x,e1,rfl⟩
 ·refine⟨ρ,Hz,F,δ,.ok x,R,e1,fun u H1 s1 r1=>?_⟩
  cases x with
  | bl z =>
   refine⟨z,rep_bl.mp r1,?_⟩
   cases z with
   | true =>
    refine iteT ⟨ρ,Hz,F,δ,rr,R.mono s1,hf,?_⟩
    cases rr with
    | ok d=>exact fun v H' s' r'=>k v H' (s1.trans s') r'
    | error y=>exact k
   | false =>
    refine iteF ?_;cases hf;exact k _ H1 s1 (rep_bl.mpr rfl)
  | _=>cases hf
 ·exact⟨ρ,Hz,F,δ,.error x,R,e1,k⟩
noncomputable def DW(X:Cx)(O:List Nat)(E:XK)(e:Expr)(f:DSt->M Bool):Prop:=PW X e (tB X.K O E f)
theorem DW.dt{f:DSt->M Bool}(h:DW X O E e f):DT X O E e f:=PW.pt h
theorem jpz(ha:DT X O E a ta):DW X O E (.BoolOp .And [a] pos) ta:=jrf ha
theorem jpy(ha:DT X O E a ta)(hb:DW X O E (.BoolOp .And (b::rest) pos) tb'):DW X O E (.BoolOp .And (a::b::rest) pos) (tAnd ta tb'):=by
 rintro wh pins s σ H Q I ⟨ρ,Hz,F,δ,rr,R,hf,k⟩;refine ju3 ha hb wh pins s σ H Q I ?_;rcases M.b_inv hf with ⟨x,e1,hf⟩|⟨x,e1,rfl⟩
 ·refine⟨ρ,Hz,F,δ,.ok x,R,e1,fun H1 s1=>?_⟩
  cases x with
  | true =>
   refine iteT ⟨ρ,Hz,F,δ,rr,R.mono s1,hf,?_⟩
   cases rr with
   | ok d=>exact fun H' s'=>k H' (s1.trans s')
   | error y=>exact k
  | false=>cases hf;exact iteF (k H1 s1)
 ·exact⟨ρ,Hz,F,δ,.error x,R,e1,k⟩
theorem jyk(ha:DT X O E a ta):DT X O E (.UnaryOp .Not a pos) (tNot ta):=by
 rintro pins s σ H Q I ⟨ρ,Hz,F,δ,rr,R,hf,k⟩;refine ju2 ha pins s σ H Q I ?_;rcases M.b_inv hf with ⟨x,e1,hf⟩|⟨x,e1,rfl⟩
 ·cases hf;exact⟨ρ,Hz,F,δ,.ok x,R,e1,fun H1 s1=>k H1 s1⟩
 ·exact⟨ρ,Hz,F,δ,.error x,R,e1,k⟩
noncomputable def truD:D->Option Bool
 | .non=>some false
 | .bl b=>some b
 | .int i=>some (i != 0)
 | .str x=>if x.length<=sizeLine then some ((x.length:Int) != 0) else none
 | .tup xs=>some !xs.isEmpty
 | .lst xs=>some !xs.isEmpty
 | _=>none
noncomputable def tTru(fa:DSt->M D):DSt->M Bool:=fun δ=>(fa δ).b fun x=>M.o (truD x)
theorem isE{ρ:Rho}{K:W.Frag}{H:Hp}{ds:List D}{xs:List V}(h:Reps ρ K H ds xs):xs.isEmpty=ds.isEmpty:=by
 cases ds with
 | nil=>rw[reps_nil.mp h];rfl
 | cons d ds=>obtain⟨v,r,rfl,_⟩:=reps_cons.mp h;rfl
theorem jyl(ha:DE X O E a fa)(he:autoParam (∀ whole,isTrue a X.env whole=(do let v <- whole;standAt a.pos;holding [v] (truthy v))) zau7._auto_1):DT X O E a (tTru fa):=by
 rintro pins s σ H Q I ⟨ρ,Hz,F,δ,rr,R,hf,k⟩;refine jnw ha he pins s σ H Q I ?_;rcases M.b_inv hf with ⟨x,e1,hf⟩|⟨x,e1,rfl⟩
 ·refine⟨ρ,Hz,F,δ,.ok x,R,e1,fun u H1 s1 r1=>?_⟩;obtain⟨z,hz,rfl⟩:=M.o_inv hf;refine⟨z,?_,k H1 s1⟩
  cases x with
  | non=>cases hz;rw[rep_non.mp r1];rfl
  | bl y=>cases hz;rw[rep_bl.mp r1];rfl
  | int i=>cases hz;rw[rep_int.mp r1];rfl
  | str y =>
   by_cases hl:y.length<=sizeLine
   ·have e:truD (.str y)=some ((y.length:Int) != 0):=if_pos hl;rw[e] at hz;cases hz
    rw[rep_str.mp r1];exact⟨hl,rfl⟩
   ·have e:truD (.str y)=none:=if_neg hl;rw[e] at hz;cases hz
  | tup ds =>
   cases hz;obtain⟨q,xs,rfl,q2,q3⟩:=rep_tup.mp r1;exact .inr (.inl ⟨xs,jc1 jaj q2,by rw[isE q3]⟩)
  | lst ds =>
   cases hz;obtain⟨q,xs,rfl,q2,q3⟩:=rep_lst.mp r1;exact .inl ⟨xs,jcm jaj q2,by rw[isE q3]⟩
  | ty n=>cases hz
  | obj n=>cases hz
 ·exact⟨ρ,Hz,F,δ,.error x,R,e1,k⟩
noncomputable def jhh(g g':D->D->Option D)(fa fb fc:DSt->M D):DSt->M D:=fun δ=>(fa δ).b fun x=>(fb δ).b fun y=>match g x y with
 | some (.bl true)=>(fc δ).b fun z=>M.o (g' y z)
 | some (.bl false)=>M.p (.bl false)
 | _=>none
theorem jj6{op op':CmpOp}{g g':D->D->Option D}{r r':R2}(ho:OpR X (compareOp op) r)(hg:OpD X.K g r)(ho':OpR X (compareOp op') r')(hg':OpD X.K g' r')(ha:DE X O E a fa)(hb:DE X O E b fb)(hc:DE X O E c fc)
  (hm:autoParam (lastMarks [op,op'] [b,c]=false) zau4._auto_1):DE X O E (.Compare a [op,op'] [b,c] pos) (jhh g g' fa fb fc):=by
 rintro pins s σ H Q I ⟨ρ,Hz,F,δ,rr,R,hf,k⟩;refine jtl ho ho' ha hb hc hm pins s σ H Q I ?_;rcases M.b_inv hf with ⟨x,e1,hf⟩|⟨x,e1,rfl⟩
 ·refine⟨ρ,Hz,F,δ,.ok x,R,e1,fun u H1 s1 r1=>?_⟩;rcases M.b_inv hf with ⟨y,e2,hf⟩|⟨y,e2,rfl⟩
  ·refine⟨ρ,Hz,F,δ,.ok y,R.mono s1,e2,fun v H2 s2 r2=>?_⟩
   cases e3:g x y with
   | none=>rw[e3] at hf;cases hf
   | some d =>
    rw[e3] at hf
    cases d with
    | bl z =>
     refine hg x y _ e3 ρ H2 _ u v _ (fun p hp=>(R.mono (s1.trans s2)).fresh hp) (r1.mono (jap s2)) r2 fun w H3 s3 r3=>⟨z,rep_bl.mp r3,?_⟩
     cases z with
     | true =>
      refine iteT ?_;rcases M.b_inv hf with ⟨z,e4,hf⟩|⟨z,e4,rfl⟩
      ·refine⟨ρ,Hz,F,δ,.ok z,R.mono (s1.trans (s2.trans s3)),e4,fun t H4 s4 r4=>?_⟩;obtain⟨d,hd,rfl⟩:=M.o_inv hf;exact hg' y z d hd ρ H4 _ v t Q (fun p hp=>(R.mono (s1.trans (s2.trans (s3.trans s4)))).fresh hp) (r2.mono (jap (s3.trans s4))) r4 fun w H5 s5 r5=>k w H5 (s1.trans (s2.trans (s3.trans (s4.trans s5)))) r5
      ·exact⟨ρ,Hz,F,δ,.error z,R.mono (s1.trans (s2.trans s3)),e4,k⟩
     | false =>
      refine iteF ?_;cases hf;exact k _ H3 (s1.trans (s2.trans s3)) (rep_bl.mpr rfl)
    | _=>cases hf
  ·exact⟨ρ,Hz,F,δ,.error y,R.mono s1,e2,k⟩
 ·exact⟨ρ,Hz,F,δ,.error x,R,e1,k⟩
end
inductive Out where
 | nx (δ:DSt)|rt (d:D)|bk (δ:DSt)|ct (δ:DSt)
noncomputable def Ok(ρ:Rho)(K:W.Frag)(O' B:List Nat)(E:XK)(Hz:Hp)(F:Addr->Bool)(Hv:Hp)(Dn:Ends):Except XD Out->Prop
 | .ok (.nx δ')=>∀ σ' H',Same Hv (hid H' (fob F σ' O'))->RS ρ K Hz H' F O' σ' δ'->Dn.nx σ' H'
 | .ok (.rt d)=>∀ v H',Same Hz H'->Rep ρ K (hid H' F) d v->Dn.rt v H'
 | .ok (.bk δ')=>∀ σ' H',Same Hv (hid H' (fob F σ' B))->RS ρ K Hz H' F B σ' δ'->Dn.bk σ' H'
 | .ok (.ct δ')=>∀ σ' H',Same Hv (hid H' (fob F σ' B))->RS ρ K Hz H' F B σ' δ'->Dn.ct σ' H'
 | .error x=>okX K Hz E x
inductive sD(K:W.Frag)(O O' B:List Nat)(E:XK)(g:DSt->M Out)(Dn:Ends)(σ:St)(H:Hp):Prop
 | mk (ρ:Rho) (Hz:Hp) (F:Addr->Bool) (δ:DSt) (r:Except XD Out) (R:RS ρ K Hz H F O σ δ) (hf:g δ=some r) (k:Ok ρ K O' B E Hz F (hid H (fob F σ O)) Dn r)
noncomputable def DS(X:Cx)(O O' B:List Nat)(E:XK)(st:Stmt)(g:DSt->M Out):Prop:=PS X st (sD X.K O O' B E g)
noncomputable def DSs(X:Cx)(O O' B:List Nat)(E:XK)(st:List Stmt)(g:DSt->M Out):Prop:=PSs X st (sD X.K O O' B E g)
theorem Ok.back{ρ:Rho}{K:W.Frag}{O' B:List Nat}{E:XK}{Hz:Hp}{F:Addr->Bool}{Hv Hv':Hp}{Dn:Ends}{r:Except XD Out}(e:Same Hv Hv')(h:Ok ρ K O' B E Hz F Hv Dn r):Ok ρ K O' B E Hz F Hv' Dn r:=by
 cases r with
 | error x=>exact h
 | ok o =>
  cases o with
  | nx δ'=>exact fun σ' H' f=>h σ' H' (e.trans f)
  | bk δ'=>exact fun σ' H' f=>h σ' H' (e.trans f)
  | ct δ'=>exact fun σ' H' f=>h σ' H' (e.trans f)
  | rt d=>exact h
noncomputable def gNx:DSt->M Out:=fun δ=>M.p (.nx δ)
noncomputable def gSeq(g1 g2:DSt->M Out):DSt->M Out:=fun δ=>(g1 δ).b fun o=>match o with
 | .nx δ'=>g2 δ'
 | o=>M.p o
noncomputable def gSet(i:Nat)(f:DSt->M D):DSt->M Out:=fun δ=>(f δ).b fun d=>M.p (.nx (δ.set i (some d)))
noncomputable def gRet(f:DSt->M D):DSt->M Out:=fun δ=>(f δ).b fun d=>M.p (.rt d)
noncomputable def jB1(f:DSt->M D):DSt->M Out:=fun δ=>(f δ).b fun _=>M.p (.nx δ)
noncomputable def gIf(t:DSt->M Bool)(g1 g2:DSt->M Out):DSt->M Out:=fun δ=>(t δ).b fun b=>if b=true then g1 δ else g2 δ
noncomputable def gBrk:DSt->M Out:=fun δ=>M.p (.bk δ)
noncomputable def gCnt:DSt->M Out:=fun δ=>M.p (.ct δ)
noncomputable def gApp(i:Nat)(f:DSt->M D):DSt->M Out:=fun δ=>(f δ).b fun d=>match (δ[i]?).join with
 | some (.lst ds)=>if ds.length<sizeLine then M.p (.nx (δ.set i (some (.lst (ds++[d]))))) else none
 | _=>none
noncomputable def forD(g:DSt->M Out)(tg:D->DSt->Option DSt):List D->DSt->M Out
 | [],δ=>M.p (.nx δ)
 | d::ds,δ=>match tg d δ with
  | none=>none
  | some δ1=>(g δ1).b fun o=>match o with
   | .nx δ'=>forD g tg ds δ'
   | .ct δ'=>forD g tg ds δ'
   | .bk δ'=>M.p (.nx δ')
   | .rt v=>M.p (.rt v)
noncomputable def gFor(fi:DSt->M (List D))(tg:D->DSt->Option DSt)(g:DSt->M Out):DSt->M Out:=fun δ=>(fi δ).b fun ds=>forD g tg ds δ
section
variable {ρ:Rho}{X:Cx}{O O' O'' B:List Nat}{E:XK}{b c e:Expr}{es:List Expr}{fa:DSt->M D}{fl:DSt->M (List D)}{pos:Pos}{st:Stmt}{rest:List Stmt}{g g1 g2:DSt->M Out}{tc:DSt->M Bool}
theorem jh8:DSs X O O B E [] gNx:=by
 rintro pins s σ H Dn I ⟨ρ,Hz,F,δ,r,R,hf,h⟩;cases hf;exact jre pins s σ H Dn I (h σ H (Same.refl _) R)
theorem jas(h1:DS X O O' B E st g1)(h2:DSs X O' O'' B E rest g2):DSs X O O'' B E (st::rest) (gSeq g1 g2):=by
 rintro pins s σ H Dn I ⟨ρ,Hz,F,δ,r,R,hf,h⟩;refine jkk h1 h2 pins s σ H Dn I ?_;rcases M.b_inv hf with ⟨o,e1,hf⟩|⟨x,e1,rfl⟩
 ·refine⟨ρ,Hz,F,δ,.ok o,R,e1,?_⟩
  cases o with
  | nx δ'=>exact fun σ' H' f R'=>⟨ρ,Hz,F,δ',r,R',hf,h.back f⟩
  | rt d=>cases hf;exact h
  | bk δ'=>cases hf;exact h
  | ct δ'=>cases hf;exact h
 ·exact⟨ρ,Hz,F,δ,.error x,R,e1,h⟩
theorem ja3(h1:DS X O O' B E st g):DSs X O O' B E [st] g:=fun pins s σ H Dn I h=>jis h1 pins s σ H Dn I h
theorem jl5{sts:List Stmt}(hO:∀ i∈O',i∈O)(h:DSs X O' O'' B E sts g):DSs X O O'' B E sts g:=by
 rintro pins s σ H Dn I ⟨ρ,Hz,F,δ,r,R,hf,k⟩;refine h pins s σ H Dn I ⟨ρ,Hz,F,δ,r,R.thaw hO,hf,k.back (jee fun b q=>?_)⟩;rcases fob_t.mp q with q|⟨i,hi,q⟩
 ·exact fob_t.mpr (.inl q)
 ·exact fob_t.mpr (.inr ⟨i,hO i hi,q⟩)
theorem jqg{F:Addr->Bool}{σ:St}{O O':List Nat}(hO:∀ i∈O',i∈O):∀ b,fob F σ O' b=true->fob F σ O b=true:=fun b q=>by
 rcases fob_t.mp q with q|⟨i,hi,q⟩
 ·exact fob_t.mpr (.inl q)
 ·exact fob_t.mpr (.inr ⟨i,hO i hi,q⟩)
theorem jts{F:Addr->Bool}{σ:St}{H H':Hp}{i:Nat}{v:V}(ho:i∉O)(s1:Same H H'):Same (hid H (fob F σ O)) (hid H' (fob F (σ.set i (some v)) O)):=by
 rw[jc5 ho];exact jap s1
theorem jbd{i:Nat}{x:Str}{pos':Pos}(hN:X.N.Nodup)(he:DE X O E e fa)(ho:autoParam (O.contains i=false) zau2._auto_1)(hi:autoParam (X.N[i]? = some x) zau2._auto_1)(hx:autoParam (Loc X.env.scope x) zau8._auto_1)(hs:autoParam (swapsWith e (some (.Name x pos')) pos.line X.env=pure false) zau2._auto_1)
  (hf:autoParam (X.fn x=true\/X.env.scope.names.lookup x=some .local) zau0._auto_1):DS X O O B E (.Assign [.Name x pos'] e pos) (gSet i fa):=by
 rintro pins s σ H Dn I ⟨ρ,Hz,F,δ,r,R,hg,k⟩;have ho':i∉O:=fun z=>by rw[zbc.mpr z] at ho;cases ho
 refine jlp hN hi hx he hs hf pins s σ H Dn I ?_;rcases M.b_inv hg with ⟨d,e1,hg⟩|⟨y,e1,rfl⟩
 ·cases hg;exact⟨ρ,Hz,F,δ,.ok d,R,e1,fun v H' s' r'=>k _ H' (jts ho' s') ((R.mono s').set ho' r')⟩
 ·exact⟨ρ,Hz,F,δ,.error y,R,e1,k⟩
theorem jpx{i:Nat}{x:Str}{pos' pos2:Pos}(hN:X.N.Nodup)(h:DA X O E es fl)(ho:autoParam (O.contains i=false) zau2._auto_1)(hi:autoParam (X.N[i]? = some x) zau2._auto_1)(hx:autoParam (Loc X.env.scope x) zau8._auto_1)(hs:autoParam (swapsWith (.List es pos2) (some (.Name x pos')) pos.line X.env=pure false) zau2._auto_1)
  (hf:autoParam (X.fn x=true\/X.env.scope.names.lookup x=some .local) zau0._auto_1):DS X O (i::O) B E (.Assign [.Name x pos'] (.List es pos2) pos) (gSet i (fL jb0 fl)):=by
 rintro pins s σ H Dn I ⟨ρ,Hz,F,δ,r,R,hg,k⟩;have ho':i∉O:=fun z=>by rw[zbc.mpr z] at ho;cases ho
 have hl:i<δ.length:=by rw[<- R.len,I.len];exact (zbb.mp hi).1
 refine jlp hN hi hx (jnr h) hs hf pins s σ H Dn I ?_;rcases M.b_inv hg with ⟨d,e1,hg⟩|⟨y,e1,rfl⟩
 ·cases hg;rcases M.b_inv e1 with ⟨ds,e1,hd⟩|⟨y,e1,z⟩
  ·refine⟨ρ,Hz,F,δ,.ok ds,R,e1,fun vs H1 s1 r1=>?_⟩;obtain⟨d',hd',z⟩:=M.o_inv hd;cases z;unfold jb0 at hd'
   split at hd'
   ·rename_i hz;cases hd';refine⟨by rw[r1.length];exact hz,fun p hp=>?_⟩;refine k _ _ ?_ (R.take ho' hl s1 hp r1);have pf:=(R.mono s1).fresh hp;have lσ:i<σ.length:=by rw[R.len];exact hl
    intro b o q;obtain⟨q1,q2⟩:=hid_some.mp q;have q3:=s1 b o q2;have hb:b≠p:=jaz q3 hp;refine hid_some.mpr ⟨?_,by rw[jah hb];exact q3⟩
    cases z:fob F (σ.set i (some (.ref p))) (i::O) b with
    | false=>rfl
    | true =>
     rcases fob_t.mp z with z|⟨j,hj,z⟩
     ·rw[fob_t.mpr (.inl z)] at q1;cases q1
     ·rcases List.mem_cons.mp hj with rfl|hj
      ·rw[zcz lσ] at z;cases z;exact absurd rfl hb
      ·rw[zbw (by rintro rfl;exact ho' hj)] at z;rw[fob_t.mpr (.inr ⟨j,hj,z⟩)] at q1;cases q1
   ·cases hd'
  ·cases z
 ·rcases M.b_inv e1 with ⟨ds,e1,hd⟩|⟨y',e1,z⟩
  ·obtain⟨_,_,z⟩:=M.o_inv hd;cases z
  ·cases z;exact⟨ρ,Hz,F,δ,.error _,R,e1,k⟩
theorem jbf(he:DE X O E e fa):DS X O O' B E (.Return (some e) pos) (gRet fa):=by
 rintro pins s σ H Dn I ⟨ρ,Hz,F,δ,r,R,hg,k⟩;refine jrd he pins s σ H Dn I ?_;rcases M.b_inv hg with ⟨d,e1,hg⟩|⟨y,e1,rfl⟩
 ·cases hg;exact⟨ρ,Hz,F,δ,.ok d,R,e1,fun v H' s' r'=>k v H' (R.same.trans s') (r'.mono (jee fun b q=>fob_t.mpr (.inl q)))⟩
 ·exact⟨ρ,Hz,F,δ,.error y,R,e1,k⟩
theorem jpw{s1 s2:List Stmt}(hc:DT X O E c tc)(h1:DSs X O O' B E s1 g1)(h2:DSs X O O' B E s2 g2):DS X O O' B E (.If c s1 s2 pos) (gIf tc g1 g2):=by
 rintro pins s σ H Dn I ⟨ρ,Hz,F,δ,r,R,hg,k⟩;refine jxc hc h1 h2 pins s σ H Dn I ?_;rcases M.b_inv hg with ⟨z,e1,hg⟩|⟨y,e1,rfl⟩
 ·refine⟨ρ,Hz,F,δ,.ok z,R,e1,fun H1 s1=>?_⟩
  cases z with
  | true=>exact iteT ⟨ρ,Hz,F,δ,r,R.mono s1,hg,k.back (jap s1)⟩
  | false=>exact iteF ⟨ρ,Hz,F,δ,r,R.mono s1,hg,k.back (jap s1)⟩
 ·exact⟨ρ,Hz,F,δ,.error y,R,e1,k⟩
theorem jpv{i:Nat}{x:Str}{p1 p2 p3:Pos}(ho:O.contains i=true)(he:DE X O E e fa)(hi:autoParam (X.N[i]? = some x) zau2._auto_1)(hv:autoParam (Vis X.env.scope x) zau5._auto_1)
  (hd:autoParam ((x == ("__debug__":Str))=false) zau1._auto_1) (hcd:autoParam ((x == ("__classdict__":Str))=false) zau1._auto_1) (hbase:autoParam (attributeBase (.Name x p1) "append" X.env (eval (.Name x p1) X.env)=eval (.Name x p1) X.env) zau2._auto_1)
  (hfew:((backTo p3 (starEach [e] X.env)).all (fun x=>!x.1)&&(backToKw p3 (keywordEach [] X.env)).all (fun x=>x.1.isSome)
   && decide ([e].length+([]:List Keyword).length+(if ([]:List Keyword).isEmpty then 0 else 1)<30))=true:=by rfl)
  (hline:autoParam ((p2.endLine == p3.line)=true) zau2._auto_1) (hs:autoParam (starEach [e] X.env=[(false,eval e X.env)]) zau2._auto_1) (hsw:autoParam (swapsWith (.Call (.Attribute (.Name x p1) "append" p2) [e] [] p3) none pos.line X.env=pure false) zau2._auto_1) :
  DS X O O B E (.Expr (.Call (.Attribute (.Name x p1) "append" p2) [e] [] p3) pos) (gApp i fa):=by
 rintro pins s σ H Dn I ⟨ρ,Hz,F,δ,r,R,hg,k⟩;have ho':i∈O:=zbc.mp ho;obtain⟨l,xs0,ds0,q1,q2,q3,q4,q5⟩:=R.own i ho';refine jmp (jz9 PySem.F.plainAttrs_list PySem.F.slot_list_append PySem.F.type_list_append jio (jnt hi hv hd hcd) (jd6 he jhj hs) hbase hfew hline hs rfl) hsw pins s σ H Dn I ?_;refine⟨.ref l,q2,.inl ⟨rfl,_,SqL.of q3⟩,?_⟩;rcases M.b_inv hg with ⟨d,e1,hg⟩|⟨y,e1,rfl⟩
 ·refine⟨ρ,Hz,F,δ,.ok d,R,e1,fun v H1 s1 r1=>?_⟩;have hj:(δ[i]?).join=some (.lst ds0):=by rw[q1];rfl
  rw[hj] at hg;dsimp only at hg
  split at hg
  ·rename_i hz;cases hg;have R1:=R.mono s1;obtain⟨l',xs,ds,p1,p2,p3,p4,p5⟩:=R1.own i ho';rw[q2] at p2;cases p2
   rw[q1] at p1;cases p1
   refine⟨l,xs,v,rfl,rfl,p3,by rw[p5.length];exact hz,?_⟩;refine k σ _ ?_ (R1.write ho' q2 (p5.append (Reps.cons r1 Reps.nil)));rw[jgf (fob_t.mpr (.inr ⟨i,ho',q2⟩))];exact jap s1
  ·cases hg
 ·exact⟨ρ,Hz,F,δ,.error y,R,e1,k⟩
inductive tG(K:W.Frag)(O:List Nat)(h:D->DSt->Option DSt)(v:V)(σ:St)(H:Hp)(Q:St->Hp->Prop):Prop
 | mk (ρ:Rho) (Hz:Hp) (F:Addr->Bool) (δ:DSt) (d:D) (δ':DSt) (R:RS ρ K Hz H F O σ δ) (hr:Rep ρ K (hid H (fob F σ O)) d v) (hf:h d δ=some δ') (k:∀ σ',fob F σ' O=fob F σ O->RS ρ K Hz H F O σ' δ'->Q σ' H)
noncomputable def DG(X:Cx)(O:List Nat)(tg:Expr)(h:D->DSt->Option DSt):Prop:=PG X tg (tG X.K O h)
noncomputable def gName(i:Nat):D->DSt->Option DSt:=fun d δ=>some (δ.set i (some d))
noncomputable def je5(i j:Nat):D->DSt->Option DSt:=fun d δ=>match d with
 | .tup [x,y]=>some ((δ.set i (some x)).set j (some y))
 | _=>none
theorem jdn{i:Nat}{x:Str}(hN:X.N.Nodup)(ho:autoParam (O.contains i=false) zau2._auto_1)(hi:autoParam (X.N[i]? = some x) zau2._auto_1)(hx:autoParam (Loc X.env.scope x) zau8._auto_1)
  (hf:autoParam (X.fn x=true\/X.env.scope.names.lookup x=some .local) zau0._auto_1):DG X O (.Name x pos) (gName i):=by
 rintro pins s σ H v u Q I r ⟨ρ,Hz,F,δ,d,δ',R,rd,e,k⟩;have ho':i∉O:=fun z=>by rw[zbc.mpr z] at ho;cases ho
 cases e;exact jmo hN hi hx hf pins s σ H v u Q I r (k _ (jc5 ho') (R.set ho' rd))
theorem jj7{i j:Nat}{x y:Str}{px py:Pos}{kk:Nat}(hc:X.calm=true)(hN:X.N.Nodup)(ho:autoParam (O.contains i=false) zau2._auto_1)(ho2:autoParam (O.contains j=false) zau2._auto_1)(hi:autoParam (X.N[i]? = some x) zau2._auto_1)(hj:autoParam (X.N[j]? = some y) zau2._auto_1)
  (hx:autoParam (Loc X.env.scope x) zau8._auto_1) (hy:autoParam (Loc X.env.scope y) zau8._auto_1)
  (hf:autoParam (X.fn x=true\/X.env.scope.names.lookup x=some .local) zau0._auto_1) (hf2:autoParam (X.fn y=true\/X.env.scope.names.lookup y=some .local) zau0._auto_1) :
  DG X O (.Tuple [.Name x px,.Name y py] kk pos) (je5 i j):=by
 rintro pins s σ H v u Q I r ⟨ρ,Hz,F,δ,d,δ',R,rd,e,k⟩;have ho':i∉O:=fun z=>by rw[zbc.mpr z] at ho;cases ho
 have ho2':j∉O:=fun z=>by rw[zbc.mpr z] at ho2;cases ho2
 unfold je5 at e
 split at e
 ·rename_i d1 d2;cases e;obtain⟨p,xs,rfl,q2,q3⟩:=rep_tup.mp rd;obtain⟨v1,xs1,rfl,r1,q3⟩:=reps_cons.mp q3;obtain⟨v2,xs2,rfl,r2,q3⟩:=reps_cons.mp q3;cases reps_nil.mp q3;refine jAe hc (jnu (jmo hN hi hx hf) (jnu (jmo hN hj hy hf2) jw7)) rfl rfl pins s σ H _ u Q I r ?_;refine⟨p,_,rfl,jc1 jaj q2,rfl,v1,_,rfl,v2,_,rfl,rfl,?_⟩;have e2:fob F ((σ.set i (some v1)).set j (some v2)) O=fob F σ O:=(jc5 ho2').trans (jc5 ho');refine k _ e2 ?_;have R1:=R.set ho' r1;exact R1.set ho2' (by rw[jc5 ho'];exact r2)
 ·cases e
noncomputable def ItD(ρ:Rho)(K:W.Frag)(J:It)(ds:List D)(Hv:Hp):Prop:=∀ (H':Hp) (G':Addr->Bool) (i:Nat),Same Hv (hid H' G')->(∀ p,H' p=none->G' p=false) ->
 (i<ds.length->J.go i H'/\∀ x H2,J.yld i H' x H2->Same H' H2/\∃ d,ds[i]? = some d/\Rep ρ K (hid H2 G') d x)/\(i=ds.length->J.stop i H')
inductive tI(K:W.Frag)(O:List Nat)(E:XK)(f:DSt->M (List D))(σ:St)(H:Hp)(Q:It->Hp->Prop):Prop
 | mk (ρ:Rho) (Hz:Hp) (F:Addr->Bool) (δ:DSt) (r:Except XD (List D)) (R:RS ρ K Hz H F O σ δ) (hf:f δ=some r) (k:match (generalizing:=false) r with
  | .ok ds=>∀ J H',Same H H'->ItD ρ K J ds (hid H' (fob F σ O))->Q J H'
  | .error x=>okX K Hz E x)
noncomputable def DI(X:Cx)(O:List Nat)(E:XK)(tg iter:Expr)(f:DSt->M (List D)):Prop:=PI X tg iter (tI X.K O E f)
theorem jng{tg iter:Expr}{body:List Stmt}{fi:DSt->M (List D)}{h:D->DSt->Option DSt}(hp:PassesOwn (model X.prog X.w) X.A X.env X.xe)(hc:X.calm=true)(hi:DI X O E tg iter fi)(hg:DG X O tg h)(hb:DSs X O O O E body g)
  (hs:autoParam (∀ x,foldedSetIterable iter X.env x=pure x) zau3._auto_1):DS X O O B E (.For tg iter body [] pos) (gFor fi h g):=by
 rintro pins s σ H Dn I ⟨ρ,Hz,F,δ,r,R,hgf,k⟩;refine jrc hp hc hi hg hb hs pins s σ H Dn I ?_;rcases M.b_inv hgf with ⟨ds,e1,hgf⟩|⟨y,e1,rfl⟩
 ·refine⟨ρ,Hz,F,δ,.ok ds,R,e1,fun J H1 s1 it=>?_⟩;refine⟨fun i m σ' H'=>m=ds.length-i/\i<=ds.length/\∃ δ',RS ρ X.K Hz H' F O σ' δ'/\Same (hid H1 (fob F σ O)) (hid H' (fob F σ' O))/\forD g h (ds.drop i) δ'=some r,⟨ds.length,by simp,Nat.zero_le _,δ,R.mono s1,Same.refl _,hgf⟩,?_⟩;rintro i m σ' H' ⟨rfl,hil,δ',R',f',hr⟩;obtain⟨j1,j2⟩:=it H' (fob F σ' O) i f' (fun p hp=>R'.fresh hp)
  by_cases hlt:i<ds.length
  ·obtain⟨go,yld⟩:=j1 hlt;refine .inr ⟨go,fun σ2 H2=>∃ δ2,RS ρ X.K Hz H2 F O σ2 δ2/\Same (hid H1 (fob F σ O)) (hid H2 (fob F σ2 O))/\forD g h (ds.drop (i+1)) δ2=some r,fun σ2 H2 ⟨δ2,a1,a2,a3⟩=>⟨ds.length-(i+1),by omega,rfl,hlt,δ2,a1,a2,a3⟩,fun x H2 y=>?_⟩;obtain⟨s2,d,hd,rd⟩:=yld x H2 y;have hdr:ds.drop i=d::ds.drop (i+1):=by
    rw[List.drop_eq_getElem_cons hlt];have:ds[i]=d:=by rw[zax hlt] at hd;exact zby hd
    rw[this]
   rw[hdr] at hr;unfold forD at hr
   cases e2:h d δ' with
   | none=>rw[e2] at hr;cases hr
   | some δ1 =>
    rw[e2] at hr;dsimp only at hr;have f2:Same (hid H1 (fob F σ O)) (hid H2 (fob F σ' O)):=f'.trans (jap s2);refine⟨ρ,Hz,F,δ',d,δ1,R'.mono s2,rd,e2,fun σ3 ef R3=>?_⟩;rcases M.b_inv hr with ⟨o,e3,hr⟩|⟨y,e3,rfl⟩
    ·refine⟨ρ,Hz,F,δ1,.ok o,R3,e3,?_⟩;rw[ef]
     cases o with
     | nx δ4=>exact fun σ4 H4 f4 R4=>⟨δ4,R4,f2.trans f4,hr⟩
     | ct δ4=>exact fun σ4 H4 f4 R4=>⟨δ4,R4,f2.trans f4,hr⟩
     | bk δ4=>cases hr;exact fun σ4 H4 f4 R4=>k σ4 H4 ((jap s1).trans (f2.trans f4)) R4
     | rt v=>cases hr;exact k
    ·exact⟨ρ,Hz,F,δ1,.error y,R3,e3,k⟩
  ·have ei:i=ds.length:=by omega
   subst ei;rw[List.drop_length] at hr;cases hr;exact .inl ⟨j2 rfl,k σ' H' ((jap s1).trans f') R'⟩
 ·exact⟨ρ,Hz,F,δ,.error y,R,e1,k⟩
end
end DL
namespace L2
open PySem PySem.Spec PyProof.Rows
noncomputable def ItOn(k:Bool)(h:Heap)(it l:Addr)(i:Nat):Prop:=if k=true then h.IsTupleIter it l i else h.IsListIter it l i
noncomputable def SrcOn(k:Bool)(h:Heap)(l:Addr)(xs:Array Value):Prop:=if k=true then h.IsTuple l xs else h.IsList l xs
theorem ItOn.mv{k:Bool}{h h':Heap}{it l:Addr}{i:Nat}(x:ItOn k h it l i)(e:∀ o,h.get? it=some o->h'.get? it=some o):ItOn k h' it l i:=by
 cases k with
 | true=>exact Heap.IsTupleIter.at (h:=h) x e
 | false=>exact Heap.IsListIter.at (h:=h) x e
theorem SrcOn.mv{k:Bool}{h h':Heap}{l:Addr}{xs:Array Value}(x:SrcOn k h l xs)(e:∀ o,h.get? l=some o->h'.get? l=some o):SrcOn k h' l xs:=by
 cases k with
 | true=>exact Heap.IsTuple.at (h:=h) x e
 | false=>exact Heap.IsList.at (h:=h) x e
theorem ItOn.ob{k:Bool}{h:Heap}{it l:Addr}{i:Nat}(x:ItOn k h it l i):∃ o vs,h.get? it=some o/\o.data=.fields vs:=by
 cases k with
 | true=>obtain⟨o,e,_,d⟩:=(x:h.IsTupleIter it l i);exact⟨o,_,e,d⟩
 | false=>obtain⟨o,e,_,d⟩:=(x:h.IsListIter it l i);exact⟨o,_,e,d⟩
section
variable {prog:Program}{w:World}{A:Around}{E:Value->Shared->Prop}{s:Shared}
theorem jon{it l:Addr}{i:Nat}{items:Array Value}{x:Value}{Q:Value->Shared->Prop}(hi:s.heap.IsTupleIter it l i)(hl:s.heap.IsTuple l items)(hx:items[i]? = some x)
  (hQ:∀ h',h'.IsTupleIter it l (i+1)->Heap.SameBut it s.heap h'->Q x { s with heap:=h' }):wpAny (model prog w) A (Builtin.SmallTypes.nextOf (.ref it)) Q E s:=by
 obtain⟨ob,eo,oc,od⟩:=id hi;obtain⟨tl,el,_,nl,dl⟩:=hl;unfold Builtin.SmallTypes.nextOf;refine zay (wpAny_callSpecial?_slot (name:=Str.ofString "__next__") hi.typeIs F.slot_tuple_iterator_next (wpAny_call_entry F.slot_tuple_iterator_next hi.typeIs F.entry_tuple_iterator_next ?_ (F.args_tuple_iterator_next_1 _)));show wpAny _ _ (field (.ref it) 0 >>= _) _ _ s;refine zay (wpAny_field eo od (x:=.ref l) rfl ?_);show wpAny _ _ (if (Value.ref l == Value.none)=true then _ else _) _ _ s;rw[if_neg (show ¬ ((Value.ref l == Value.none)=true) from fun q=>Bool.false_ne_true q)];show wpAny _ _ (field (.ref it) 1 >>= _) _ _ s;refine zay (wpAny_field eo od (x:=.int i 0) rfl (show wpAny _ _ (seqItems? (.ref l) >>= _) _ _ s from zay (wpAny_seqItems el dl ?_)));simp only[Int.toNat_natCast,hx];refine zay (wpAny_setField eo od (by simp) (zab ⟨x,rfl,zab (hQ _ ⟨_,Heap.get?_update_self _ eo (Obj.isFreed_of_fields (Obj.data_mapFields od _)),(Obj.cls_mapFields ..).trans oc,?_⟩ (Heap.SameBut.update ..))⟩));rw[Obj.data_mapFields od];simp[rawInt]
theorem jja{it l:Addr}{i:Nat}{items:Array Value}{Q:Value->Shared->Prop}(hh:A.handled=none)(hi:s.heap.IsTupleIter it l i)(hl:s.heap.IsTuple l items)(hx:items[i]? = none)
  (hE:∀ h' e,Heap.ExtBut it s.heap h'->(∃ o,h'.get? e=some o/\o.cls=.type "StopIteration")->E (.ref e) { s with heap:=h' }):wpAny (model prog w) A (Builtin.SmallTypes.nextOf (.ref it)) Q E s:=by
 obtain⟨ob,eo,oc,od⟩:=id hi;obtain⟨tl,el,_,nl,dl⟩:=hl;unfold Builtin.SmallTypes.nextOf;refine zay (wpAny_callSpecial?_slot (name:=Str.ofString "__next__") hi.typeIs F.slot_tuple_iterator_next (wpAny_call_entry F.slot_tuple_iterator_next hi.typeIs F.entry_tuple_iterator_next ?_ (F.args_tuple_iterator_next_1 _)));show wpAny _ _ (field (.ref it) 0 >>= _) _ _ s;refine zay (wpAny_field eo od (x:=.ref l) rfl ?_);show wpAny _ _ (if (Value.ref l == Value.none)=true then _ else _) _ _ s;rw[if_neg (show ¬ ((Value.ref l == Value.none)=true) from fun q=>Bool.false_ne_true q)];show wpAny _ _ (field (.ref it) 1 >>= _) _ _ s;refine zay (wpAny_field eo od (x:=.int i 0) rfl (show wpAny _ _ (seqItems? (.ref l) >>= _) _ _ s from zay (wpAny_seqItems el dl ?_)));simp only[Int.toNat_natCast,hx];refine zay (wpAny_rule (zay (wpAny_setField eo od (by simp) ?_)));show wpAny _ _ (newExc (.type "StopIteration") [] >>= _) _ _ _;refine zay ?_;simp only[newExc,newTuple];refine zay (wpAny_newObj_type (zay (m:=firstArgMember _ _) (wpAny_of_eq (a:=Value.none) (by first|rfl|(simp only[firstArgMember];rfl)) (wpAny_newObj_type ?_ (by size_fits)))) (by size_fits));simp only[raiseNew];refine zay (wpAny_handled ?_)
 first|rw[show A.in1.handled=none from hh]|rw[hh]
 exact zay (zab (wpAny_throw (hE _ _ (((Heap.SameBut.update ..).extBut.push _).push _) ⟨_,zbz _ rfl,rfl⟩)))
theorem jip{k:Bool}{it l:Addr}{i:Nat}{items:Array Value}{x:Value}{Q:Value->Shared->Prop}(hi:ItOn k s.heap it l i)(hl:SrcOn k s.heap l items)(hx:items[i]? = some x)
  (hQ:∀ h',ItOn k h' it l (i+1)->Heap.SameBut it s.heap h'->Q x { s with heap:=h' }):wpAny (model prog w) A (Builtin.SmallTypes.nextOf (.ref it)) Q E s:=by
 cases k with
 | true=>exact jon hi hl hx hQ
 | false=>exact wpAny_nextOf_list_item hi hl hx hQ
theorem jgw{k:Bool}{it l:Addr}{i:Nat}{items:Array Value}{Q:Value->Shared->Prop}(hh:A.handled=none)(hi:ItOn k s.heap it l i)(hl:SrcOn k s.heap l items)(hx:items[i]? = none)
  (hE:∀ h' e,Heap.ExtBut it s.heap h'->(∃ o,h'.get? e=some o/\o.cls=.type "StopIteration")->E (.ref e) { s with heap:=h' }):wpAny (model prog w) A (Builtin.SmallTypes.nextOf (.ref it)) Q E s:=by
 cases k with
 | true=>exact jja hh hi hl hx hE
 | false=>exact wpAny_nextOf_list_end hh hi hl hx hE
theorem jqb{k:Bool}{l:Addr}{xs:Array Value}{Q:Value->Shared->Prop}(hl:SrcOn k s.heap l xs)
  (h:∀ o,ItOn k (s.heap.push o) s.heap.objs.size l 0->Q (.ref s.heap.objs.size) { s with heap:=s.heap.push o }):wpAny (model prog w) A (pyIter (.ref l)) Q E s:=by
 cases k with
 | true=>exact wpAny_pyIter_tuple hl (h _ ⟨_,zbz _ rfl,rfl,rfl⟩)
 | false=>exact wpAny_pyIter_list hl (h _ ⟨_,zbz _ rfl,rfl,rfl⟩)
structure ZFar(z TI TO i1 i2:Addr):Prop where
 a1:TI≠z
 a2:TO≠z
 a3:i1≠z
 a4:i2≠z
 a5:TI≠TO
 a6:TI≠i1
 a7:TI≠i2
 a8:TO≠i1
 a9:TO≠i2
 a10:i1≠i2
noncomputable def LFar(z TO i1 i2 l:Addr):Prop:=l≠z/\l≠TO/\l≠i1/\l≠i2
theorem jt7{k1 k2:Bool}{z TI TO i1 i2 l1 l2:Addr}{n1 n2:Nat}{xs ys:Array Value}{x y a b:Value}{Q:Value->Shared->Prop}(D:ZFar z TI TO i1 i2)(d1:LFar z TO i1 i2 l1)(d2:LFar z TO i1 i2 l2)
  (hz:IsZip s.heap z TI TO .none) (ht:IsPair s.heap TI (.ref i1) (.ref i2)) (hu:IsPair s.heap TO a b) (j1:ItOn k1 s.heap i1 l1 n1) (j2:ItOn k2 s.heap i2 l2 n2) (c1:SrcOn k1 s.heap l1 xs) (c2:SrcOn k2 s.heap l2 ys)
  (hx:xs[n1]? = some x) (hy:ys[n2]? = some y)
  (hQ:∀ h',IsZip h' z TI TO (rawInt s.heap.objs.size)->IsPair h' TO x y->ItOn k1 h' i1 l1 (n1+1)->ItOn k2 h' i2 l2 (n2+1)->IsPair h' s.heap.objs.size x y ->
   (∀ c o,c≠z->c≠TO->c≠i1->c≠i2->s.heap.get? c=some o->h'.get? c=some o)->Q (.ref s.heap.objs.size) { s with heap:=h' }) :
  wpAny (model prog w) A (Builtin.«zip.__next__» ⟨[.ref z],[]⟩) (fun fin s'=>∃ v,fin=.done (.ret v)/\Q v s') E s:=by
 show wpAny _ _ (field (.ref z) 2 >>= _) _ _ _;refine zay (wpAny_field hz rfl (x:=.bool false) rfl (show wpAny _ _ (field (.ref z) 3 >>= _) _ _ _ from zay (wpAny_field hz rfl (x:=.ref TI) rfl (zay (wpAny_seqItems ht rfl ?_)))));show wpAny _ _ (Builtin.SmallTypes.ownedTupleIsFree (.ref z) >>= _) _ _ _;refine zay ?_;unfold Builtin.SmallTypes.ownedTupleIsFree;refine zay (wpAny_field hz rfl (x:=.none) rfl (zab ?_));simp only[if_true];refine zay (wpAny_rule (zay (wpAny_field hz rfl (x:=.ref TO) rfl (zay (wpAny_setField_rec hz (by simp) fun g1 z1 e1=>zay ?_)))))
 replace z1:IsZip g1 z TI TO .ellipsis:=z1
 simp only[List.zipIdx_cons,List.zipIdx_nil,List.forIn_cons,List.forIn_nil];refine zay (zay (wpAny_onRaise (show wpAny _ _ (Builtin.SmallTypes.nextOf (.ref i1) >>= _) _ _ _ from ?_)));refine zay (jip (j1.mv fun o q=>e1.extBut _ _ D.a3 q) (c1.mv fun o q=>e1.extBut _ _ d1.1 q) hx fun g2 m1 e2=>zab ?_);have u2:IsPair g2 TO a b:=e2.extBut _ _ D.a8 (e1.extBut _ _ D.a2 hu);refine zay (wpAny_seqItems u2 rfl (zay (wpAny_updateSeq_pair u2 fun g3 u3 e3=>zay (wpAny_letGo (zab ?_)))))
 replace u3:IsPair g3 TO x b:=u3
 have up3:∀ c o,c≠z->c≠TO->c≠i1->s.heap.get? c=some o->g3.get? c=some o:=fun c o p1 p2 p3 q=>e3.extBut _ _ p2 (e2.extBut _ _ p3 (e1.extBut _ _ p1 q))
 refine zay (zay (wpAny_onRaise (show wpAny _ _ (Builtin.SmallTypes.nextOf (.ref i2) >>= _) _ _ _ from ?_)));refine zay (jip (j2.mv fun o q=>up3 _ o D.a4 D.a9.symm D.a10.symm q) (c2.mv fun o q=>up3 _ o d2.1 d2.2.1 d2.2.2.1 q) hy fun g4 m2 e4=>zab ?_);have u4:IsPair g4 TO x b:=e4.extBut _ _ D.a9 u3;refine zay (wpAny_seqItems u4 rfl (zay (wpAny_updateSeq_pair u4 fun g5 u5 e5=>zay (wpAny_letGo (zab (zab ?_))))))
 replace u5:IsPair g5 TO x y:=u5
 refine zay (wpAny_seqItems u5 rfl (zay (wpAny_newTuple ?_)));have sz:g5.objs.size=s.heap.objs.size:=by rw[e5.1,e4.1,e3.1,e2.1,e1.1]
 have z5:IsZip g5 z TI TO .ellipsis:=e5.extBut _ _ D.a2.symm (e4.extBut _ _ D.a4.symm (e3.extBut _ _ D.a2.symm (e2.extBut _ _ D.a3.symm z1)));have up5:∀ c o,c≠z->c≠TO->c≠i1->c≠i2->s.heap.get? c=some o->g5.get? c=some o:=fun c o p1 p2 p3 p4 q=>e5.extBut _ _ p2 (e4.extBut _ _ p4 (up3 c o p1 p2 p3 q))
 have m15:ItOn k1 g5 i1 l1 (n1+1):=m1.mv fun o q=>e5.extBut _ _ D.a8.symm (e4.extBut _ _ D.a10 (e3.extBut _ _ D.a8.symm q))
 have m25:ItOn k2 g5 i2 l2 (n2+1):=m2.mv fun o q=>e5.extBut _ _ D.a9.symm q
 have zlt:z<g5.objs.size:=zbv z5;show wpAny _ _ (Builtin.SmallTypes.ownedTupleHandOut (.ref z) (.ref g5.objs.size) >>= _) _ _ _;refine zay ?_;unfold Builtin.SmallTypes.ownedTupleHandOut;have z6:IsZip (g5.push { cls:=.type "tuple",data:=.seq #[x,y] }) z TI TO .ellipsis:=zaz _ z5;refine zay (wpAny_setField_rec z6 (by simp) fun g7 z7 e7=>?_)
 replace z7:IsZip g7 z TI TO (rawInt g5.objs.size):=z7
 refine wpAny_setField_rec z7 (by simp) fun g8 z8 e8=>?_
 replace z8:IsZip g8 z TI TO (rawInt g5.objs.size):=z8
 have up8:∀ c o,c≠z->g5.get? c=some o->g8.get? c=some o:=fun c o p1 q=>e8.extBut _ _ p1 (e7.extBut _ _ p1 (zaz _ q))
 have t8:IsPair g8 g5.objs.size x y:=e8.extBut _ _ (Nat.ne_of_gt zlt) (e7.extBut _ _ (Nat.ne_of_gt zlt) (zbz _ rfl));rw[sz] at z8 t8;refine zab ⟨_,rfl,?_⟩;show Q (.ref g5.objs.size) _;rw[sz];exact hQ g8 z8 (up8 _ _ D.a2 u5) (m15.mv fun o q=>up8 _ o D.a3 q) (m25.mv fun o q=>up8 _ o D.a4 q) t8 fun c o p1 p2 p3 p4 q=>up8 c o p1 (up5 c o p1 p2 p3 p4 q)
theorem jx4{k1 k2:Bool}{z TI TO i1 i2 l1 l2:Addr}{n1 n2:Nat}{xs ys:Array Value}{a b:Value}{Q:PySem.Fin->Shared->Prop}(hh:A.handled=none)(D:ZFar z TI TO i1 i2)(d1:LFar z TO i1 i2 l1)(d2:LFar z TO i1 i2 l2)
  (hz:IsZip s.heap z TI TO .none) (ht:IsPair s.heap TI (.ref i1) (.ref i2)) (hu:IsPair s.heap TO a b) (j1:ItOn k1 s.heap i1 l1 n1) (j2:ItOn k2 s.heap i2 l2 n2) (c1:SrcOn k1 s.heap l1 xs) (c2:SrcOn k2 s.heap l2 ys)
  (hend:xs[n1]? = none\/ys[n2]? = none)
  (hE:∀ h' e,(∀ c o,c≠z->c≠TO->c≠i1->c≠i2->s.heap.get? c=some o->h'.get? c=some o)->(∃ o,h'.get? e=some o/\o.cls=.type "StopIteration")->E (.ref e) { s with heap:=h' }) :
  wpAny (model prog w) A (Builtin.«zip.__next__» ⟨[.ref z],[]⟩) Q E s:=by
 show wpAny _ _ (field (.ref z) 2 >>= _) _ _ _;refine zay (wpAny_field hz rfl (x:=.bool false) rfl (show wpAny _ _ (field (.ref z) 3 >>= _) _ _ _ from zay (wpAny_field hz rfl (x:=.ref TI) rfl (zay (wpAny_seqItems ht rfl ?_)))));show wpAny _ _ (Builtin.SmallTypes.ownedTupleIsFree (.ref z) >>= _) _ _ _;refine zay ?_;unfold Builtin.SmallTypes.ownedTupleIsFree;refine zay (wpAny_field hz rfl (x:=.none) rfl (zab ?_));simp only[if_true];refine zay (wpAny_rule (zay (wpAny_field hz rfl (x:=.ref TO) rfl (zay (wpAny_setField_rec hz (by simp) fun g1 z1 e1=>zay ?_)))))
 replace z1:IsZip g1 z TI TO .ellipsis:=z1
 simp only[List.zipIdx_cons,List.zipIdx_nil,List.forIn_cons,List.forIn_nil];refine zay (zay (wpAny_onRaise (show wpAny _ _ (Builtin.SmallTypes.nextOf (.ref i1) >>= _) _ _ _ from ?_)))
 cases hx:xs[n1]? with
 | none =>
  refine zay (jgw hh (j1.mv fun o q=>e1.extBut _ _ D.a3 q) (c1.mv fun o q=>e1.extBut _ _ d1.1 q) hx fun g2 e f2 he=>?_);obtain⟨oe,q1,q2⟩:=he;have z2:IsZip g2 z TI TO .ellipsis:=f2 _ _ D.a3.symm z1;have nez:e≠z:=fun p=>by subst p;rw[z2] at q1;cases q1;simp at q2
  exact wpAny_setField_rec z2 (by simp) fun g3 _ e3=>hE g3 e (fun c o p1 _ p3 _ q=>e3.extBut _ _ p1 (f2 _ _ p3 (e1.extBut _ _ p1 q))) ⟨oe,e3.extBut _ _ nez q1,q2⟩
 | some x =>
  have hy:ys[n2]? = none:=by rcases hend with h|h;rw[hx] at h;cases h;exact h
  refine zay (jip (j1.mv fun o q=>e1.extBut _ _ D.a3 q) (c1.mv fun o q=>e1.extBut _ _ d1.1 q) hx fun g2 m1 e2=>zab ?_);have u2:IsPair g2 TO a b:=e2.extBut _ _ D.a8 (e1.extBut _ _ D.a2 hu);refine zay (wpAny_seqItems u2 rfl (zay (wpAny_updateSeq_pair u2 fun g3 u3 e3=>zay (wpAny_letGo (zab ?_)))));have up3:∀ c o,c≠z->c≠TO->c≠i1->s.heap.get? c=some o->g3.get? c=some o:=fun c o p1 p2 p3 q=>e3.extBut _ _ p2 (e2.extBut _ _ p3 (e1.extBut _ _ p1 q))
  refine zay (zay (wpAny_onRaise (show wpAny _ _ (Builtin.SmallTypes.nextOf (.ref i2) >>= _) _ _ _ from ?_)));refine zay (jgw hh (j2.mv fun o q=>up3 _ o D.a4 D.a9.symm D.a10.symm q) (c2.mv fun o q=>up3 _ o d2.1 d2.2.1 d2.2.2.1 q) hy fun g4 e f4 he=>?_);obtain⟨oe,q1,q2⟩:=he;have z4:IsZip g4 z TI TO .ellipsis:=f4 _ _ D.a4.symm (e3.extBut _ _ D.a2.symm (e2.extBut _ _ D.a3.symm z1));have nez:e≠z:=fun p=>by subst p;rw[z4] at q1;cases q1;simp at q2
  exact wpAny_setField_rec z4 (by simp) fun g5 _ e5=>hE g5 e (fun c o p1 p2 p3 p4 q=>e5.extBut _ _ p1 (f4 _ _ p4 (up3 c o p1 p2 p3 q))) ⟨oe,e5.extBut _ _ nez q1,q2⟩
theorem jtg{k1 k2:Bool}{z TI TO i1 i2 l1 l2:Addr}{n1 n2:Nat}{xs ys:Array Value}{x y a b:Value}{Q:Option Value->Shared->Prop}(D:ZFar z TI TO i1 i2)(d1:LFar z TO i1 i2 l1)(d2:LFar z TO i1 i2 l2)
  (hz:IsZip s.heap z TI TO .none) (ht:IsPair s.heap TI (.ref i1) (.ref i2)) (hu:IsPair s.heap TO a b) (j1:ItOn k1 s.heap i1 l1 n1) (j2:ItOn k2 s.heap i2 l2 n2) (c1:SrcOn k1 s.heap l1 xs) (c2:SrcOn k2 s.heap l2 ys)
  (hx:xs[n1]? = some x) (hy:ys[n2]? = some y)
  (hQ:∀ h',IsZip h' z TI TO (rawInt s.heap.objs.size)->IsPair h' TO x y->ItOn k1 h' i1 l1 (n1+1)->ItOn k2 h' i2 l2 (n2+1)->IsPair h' s.heap.objs.size x y ->
   (∀ c o,c≠z->c≠TO->c≠i1->c≠i2->s.heap.get? c=some o->h'.get? c=some o)->Q (some (.ref s.heap.objs.size)) { s with heap:=h' }):wpAny (model prog w) A (pyNext (.ref z)) Q E s:=by
 have ty:s.TypeIs (.ref z) "zip":=⟨_,hz,rfl⟩
 unfold pyNext;exact zay (wpAny_attempt (wpAny_callSpecial?_slot (name:=Str.ofString "__next__") ty F.slot_zip_next (wpAny_call_entry F.slot_zip_next ty F.entry_zip_next
  (jt7 D d1 d2 hz ht hu j1 j2 c1 c2 hx hy fun h' b1 b2 b3 b4 b5 b6=>zab (hQ h' b1 b2 b3 b4 b5 b6)) (F.args_zip_next_1 _))))
theorem jld{k1 k2:Bool}{z TI TO i1 i2 l1 l2:Addr}{n1 n2:Nat}{xs ys:Array Value}{a b:Value}{Q:Option Value->Shared->Prop}(hh:A.handled=none)(D:ZFar z TI TO i1 i2)(d1:LFar z TO i1 i2 l1)(d2:LFar z TO i1 i2 l2)
  (hz:IsZip s.heap z TI TO .none) (ht:IsPair s.heap TI (.ref i1) (.ref i2)) (hu:IsPair s.heap TO a b) (j1:ItOn k1 s.heap i1 l1 n1) (j2:ItOn k2 s.heap i2 l2 n2) (c1:SrcOn k1 s.heap l1 xs) (c2:SrcOn k2 s.heap l2 ys)
  (hend:xs[n1]? = none\/ys[n2]? = none)
  (hQ:∀ h',(∀ c o,c≠z->c≠TO->c≠i1->c≠i2->s.heap.get? c=some o->h'.get? c=some o)->Q none { s with heap:=h' }):wpAny (model prog w) A (pyNext (.ref z)) Q E s:=by
 have ty:s.TypeIs (.ref z) "zip":=⟨_,hz,rfl⟩
 unfold pyNext;refine zay (wpAny_attempt (wpAny_callSpecial?_slot (name:=Str.ofString "__next__") ty F.slot_zip_next (wpAny_call_entry F.slot_zip_next ty F.entry_zip_next (jx4 hh D d1 d2 hz ht hu j1 j2 c1 c2 hend fun h' e hk he=>?_) (F.args_zip_next_1 _))));obtain⟨o,ho,hc⟩:=he;exact zay (wpAny_isInstance (T:="StopIteration") (b:=true) ⟨o,ho,hc⟩ isSubtype_stop (zab (hQ _ hk)))
noncomputable abbrev zA(h:Heap)(o1 o2:Obj):Heap:=(h.push o1).push o2
noncomputable abbrev zB(h:Heap)(o1 o2:Obj):Heap:=(zA h o1 o2).push { cls:=.type "tuple",data:=.seq #[.ref h.objs.size,.ref (h.push o1).objs.size] }
noncomputable abbrev zC(h:Heap)(o1 o2:Obj):Heap:=(zB h o1 o2).push { cls:=.type "tuple",data:=.seq #[.none,.none] }
noncomputable abbrev zD(h:Heap)(o1 o2:Obj):Heap:=(zC h o1 o2).push { cls:=.type "zip",data:=.fields #[.none,.bool false,.bool false,.ref (zA h o1 o2).objs.size,.ref (zB h o1 o2).objs.size] }
theorem jqo{k1 k2:Bool}(l1 l2:Addr)(xs ys:Array Value):Meets (Builtin.«zip.__new__» ⟨[.type "zip",.ref l1,.ref l2],[]⟩) (fun _ R s=>SrcOn k1 s.heap l1 xs/\SrcOn k2 s.heap l2 ys /\
  ∀ o1 o2,ItOn k1 (s.heap.push o1) s.heap.objs.size l1 0->ItOn k2 (zA s.heap o1 o2) (s.heap.push o1).objs.size l2 0->R (.ok (.ret (.ref (zC s.heap o1 o2).objs.size))) { s with heap:=zD s.heap o1 o2 }) :=
 .of_wp fun prog w A R s h=>by
  obtain⟨hp,g,d,tk,os⟩:=s;obtain⟨c1,c2,h⟩:=h;have hsub:=sub_zip;have q1:SrcOn k1 (Shared.heap ⟨hp,g,d,tk,os⟩) l1 xs:=c1
  wp_walk using jqb q1
  intro o1 w1;have q2:SrcOn k2 (Shared.heap ⟨hp.push o1,g,d,tk,os⟩) l2 ys:=SrcOn.mv c2 fun o e=>zaz _ e
  wp_walk using jqb q2
  intro o2 w2
  wp_walk
  exact⟨_,rfl,h o1 o2 w1 w2⟩
end
section
variable {X:Cx}{pins:List (Addr×Obj)}{σ:St}{H:Hp}{s:Shared}
theorem Inv.spun{fp:List Addr}{h':Heap}{t':Nat}{T:Addr}{vs:List V}{its:List Value}(I:Inv X pins σ H s)(hf:∀ b∈fp,FpOk X pins H b)(k:∀ b o,b∉fp->s.heap.get? b=some o->h'.get? b=some o)
  (ko:∀ b∈fp,∃ o,h'.get? b=some o) (hT:s.heap.get? T=none) (hn:H T=none) (hv:Vals vs its) (hz:vs.length<=sizeLine) (ht:IsTup h' T its.toArray):Inv X pins σ (upd H T (.tup vs)) { s with heap:=h',toks:=t' }:=by
 have nT:∀ b o,s.heap.get? b=some o->b≠T:=fun b o e z=>by rw[z,hT] at e;cases e
 have nf:∀ b u,H b=some u->b∉fp:=fun b u e z=>by rw[(hf b z).1] at e;cases e
 refine I.step (g':=s.gens) (d':=s.drawn) (ch:=fp) (fun b hb=>?_) (fun b o _ _ hc e _=>k b o hc e) (fun b o _ _ hc e _=>⟨o.slots,k b o hc e⟩) (fun b o _ e n=>by rw[jah (nT b o e)];exact n)
  (fun b o hc e=>⟨o,k b o hc e⟩) (fun b xs e=>by rw[jah (jaz e hn)];exact e) (fun b o u e=>by rw[jah (jaz e hn)];exact e) (fun b ps e=>⟨#[],by rw[jah (jaz e hn),e];simp⟩) (fun m hm=>?_) (fun b u e=>?_) I.bare
 ·obtain⟨_,f1,_,f3,f4,f5⟩:=hf b hb;exact⟨f3,f1,f4,f5⟩
 ·obtain⟨o,es,ep,ho,r⟩:=hm;exact⟨o,es,ep,k _ o (fun z=>(hf _ z).2.1 rfl) ho,r⟩
 ·by_cases hb:b=T
  ·subst hb;rw[jao] at e;cases e
   exact⟨hz,its,hv,ht⟩
  ·rw[jah hb] at e;refine (I.hok b u e).stay (fun c v hc q=>k c v ?_ q) (fun c q=>by rw[jah (jaz q hn)];exact q) fun c xs q=>by rw[jah (jaz q hn)];exact q
   rcases hc with z|z
   ·rw[z];exact nf b u e
   ·exact nf c _ z
theorem Inv.spun0{fp:List Addr}{h':Heap}{t':Nat}(I:Inv X pins σ H s)(hf:∀ b∈fp,FpOk X pins H b)(k:∀ b o,b∉fp->s.heap.get? b=some o->h'.get? b=some o):Inv X pins σ H { s with heap:=h',toks:=t' }:=by
 have nf:∀ b u,H b=some u->b∉fp:=fun b u e z=>by rw[(hf b z).1] at e;cases e
 refine I.step (g':=s.gens) (d':=s.drawn) (ch:=fp) (fun b hb=>?_) (fun b o _ _ hc e _=>k b o hc e) (fun b o _ _ hc e _=>⟨o.slots,k b o hc e⟩) (fun b o _ e n=>n)
  (fun b o hc e=>⟨o,k b o hc e⟩) (fun b xs e=>e) (fun b o u e=>e) (fun b ps e=>⟨#[],by rw[e];simp⟩) (fun m hm=>?_) (fun b u e=>?_) I.bare
 ·obtain⟨_,f1,_,f3,f4,f5⟩:=hf b hb;exact⟨f3,f1,f4,f5⟩
 ·obtain⟨o,es,ep,ho,r⟩:=hm;exact⟨o,es,ep,k _ o (fun z=>(hf _ z).2.1 rfl) ho,r⟩
 ·refine (I.hok b u e).stay (fun c v hc q=>k c v ?_ q) (fun c q=>q) fun c xs q=>q
  rcases hc with z|z
  ·rw[z];exact nf b u e
  ·exact nf c _ z
noncomputable def SqV(k:Bool)(K:W.Frag)(H:Hp)(l:Addr)(xs:List V):Prop:=if k=true then SqT K H l xs else SqL K H l xs
theorem Inv.src{k:Bool}{l:Addr}{xs:List V}(I:Inv X pins σ H s)(h:SqV k X.K H l xs):∃ its:List Value,Vals xs its/\SrcOn k s.heap l its.toArray/\xs.length<=sizeLine:=by
 cases k with
 | true =>
  obtain⟨its,r,p,z⟩:=I.tuple (h:SqT X.K H l xs);exact⟨its,r,p,z⟩
 | false =>
  obtain⟨its,r,p,z⟩:=I.list (h:SqL X.K H l xs);exact⟨its,r,p.isList,z⟩
theorem Inv.src_inj{k:Bool}{l:Addr}{xs ys:List V}(I:Inv X pins σ H s)(h:SqV k X.K H l xs)(h':SqV k X.K H l ys):xs=ys:=by
 cases k with
 | true=>exact I.tuple_inj (h:SqT X.K H l xs) h'
 | false=>exact I.list_inj (h:SqL X.K H l xs) h'
theorem jhk{k:Bool}{l:Addr}{xs:List V}(I:Inv X pins σ H s)(h:SqV k X.K H l xs){b:Addr}(f:FpOk X pins H b):l≠b:=by
 intro e;subst e;obtain⟨f0,f1,f2,f3,_⟩:=f;have base:∀ o,X.K.lookup l=some o->False:=fun o q=>by
  have hb:=I.ok.mod.kin l o q;rcases f3 with z|z
  ·exact I.ok.noex l o hb z
  ·exact absurd (zcx (zbv hb) (zcc I.ok.bsz z)) (Nat.lt_irrefl _)
 cases k with
 | true =>
  rcases (h:SqT X.K H l xs) with q|⟨o,its,n,q,_⟩
  ·rcases q with q|⟨o,q⟩<;>(rw[f0] at q;cases q)
  ·exact base o q
 | false =>
  rcases (h:SqL X.K H l xs) with q|⟨o,its,n,q,_⟩
  ·rcases q with q|⟨o,q⟩<;>(rw[f0] at q;cases q)
  ·exact base o q
end
noncomputable def Itz(k1 k2:Bool)(K:W.Frag)(l1 l2:Addr):It :=
  ⟨fun i H=>∃ xs ys x y,SqV k1 K H l1 xs/\SqV k2 K H l2 ys/\xs[i]? = some x/\ys[i]? = some y,
   fun i H v H'=>∃ T x y,H T=none/\v=.ref T/\H'=upd H T (.tup [x,y])/\(∀ xs,SqV k1 K H l1 xs->xs[i]? = some x)/\(∀ ys,SqV k2 K H l2 ys->ys[i]? = some y),
   fun i H=>∃ xs ys,SqV k1 K H l1 xs/\SqV k2 K H l2 ys/\(xs.length<=i\/ys.length<=i)⟩
theorem jty{P:Program}{w:World}{K:W.Frag}{es:List Expr}{kk:Nat}{tp:Pos}(k1 k2:Bool)(l1 l2 z TI TO i1 i2:Addr)(D:ZFar z TI TO i1 i2) :
  Turn P w K (.Tuple es kk tp) (Itz k1 k2 K l1 l2) [z,TI,TO,i1,i2] z (fun i h=>IsZip h z TI TO .none/\IsPair h TI (.ref i1) (.ref i2)/\(∃ a b,IsPair h TO a b)/\ItOn k1 h i1 l1 i/\ItOn k2 h i2 l2 i) where
 mem:=by simp
 obj:=fun i h st b hb=>by
  obtain⟨q1,q2,⟨a,b',q3⟩,q4,q5⟩:=st;simp only[List.mem_cons,List.not_mem_nil,or_false] at hb;rcases hb with rfl|rfl|rfl|rfl|rfl
  ·exact⟨_,q1,fun v e=>nomatch e⟩
  ·exact⟨_,q2,fun v e=>nomatch e⟩
  ·exact⟨_,q3,fun v e=>nomatch e⟩
  ·obtain⟨o,vs,e,d⟩:=q4.ob;exact⟨o,e,fun v z=>by rw[d] at z;cases z⟩
  ·obtain⟨o,vs,e,d⟩:=q5.ob;exact⟨o,e,fun v z=>by rw[d] at z;cases z⟩
 keep:=fun i h h' st k=>by
  obtain⟨q1,q2,⟨a,b',q3⟩,q4,q5⟩:=st;exact⟨k z (by simp) _ q1,k TI (by simp) _ q2,⟨a,b',k TO (by simp) _ q3⟩,q4.mv fun o e=>k i1 (by simp) o e,q5.mv fun o e=>k i2 (by simp) o e⟩
 item:=by
  intro X hP hw hK hc i pins s σ H E I hf st hg;subst hP hw hK;obtain⟨q1,q2,⟨a,b',q3⟩,q4,q5⟩:=st;obtain⟨xs,ys,x,y,sx,sy,hx,hy⟩:=hg;obtain⟨ix,rx,cx,_⟩:=I.src sx;obtain⟨iy,ry,cy,_⟩:=I.src sy;obtain⟨u,hu,ru⟩:=rx.get hx;obtain⟨v,hv,rv⟩:=ry.get hy;have far:∀ {k:Bool} {l:Addr} {xs:List V},SqV k X.K H l xs->LFar z TO i1 i2 l:=fun h=>⟨jhk I h (hf z (by simp)),jhk I h (hf TO (by simp)),jhk I h (hf i1 (by simp)),jhk I h (hf i2 (by simp))⟩
  refine jtg D (far sx) (far sy) q1 q2 q3 q4 q5 cx cy (x:=u) (y:=v) (by simpa using hu) (by simpa using hv) fun h' b1 b2 b3 b4 b5 b6=>⟨_,rfl,?_⟩
  have keep:∀ b o,b∉[z,TI,TO,i1,i2]->s.heap.get? b=some o->h'.get? b=some o:=fun b o hb e=>by
   simp only[List.mem_cons,List.not_mem_nil,or_false,not_or] at hb;exact b6 b o hb.1 hb.2.2.1 hb.2.2.2.1 hb.2.2.2.2 e
  have e2:IsPair h' TI (.ref i1) (.ref i2):=b6 TI _ D.a1 D.a5 D.a6 D.a7 q2;have hfr:H s.heap.objs.size=none:=I.hok.fresh (zac _);have hno:s.heap.get? s.heap.objs.size=none:=Heap.get?_none_of_le (zac _);have Tz:s.heap.objs.size≠z:=Nat.ne_of_gt (zbv q1);refine wpAny_letOwnedTupleGo_zip b1 fun h2 z2 s2=>?_
  have up2:∀ b o,b≠z->h'.get? b=some o->h2.get? b=some o:=fun b o hb e=>s2.extBut _ _ hb e
  have keep2:∀ b o,b∉[z,TI,TO,i1,i2]->s.heap.get? b=some o->h2.get? b=some o:=fun b o hb e=>up2 b o (fun q=>hb (by simp[q])) (keep b o hb e)
  have tu:IsTup h2 s.heap.objs.size [u,v].toArray:=⟨_,up2 _ _ Tz b5,rfl,0,rfl⟩
  have I2:Inv X pins σ (upd H s.heap.objs.size (.tup [x,y])) { s with heap:=h2 }:=I.spun (t':=s.toks) hf keep2 (fun b hb=>by
   simp only[List.mem_cons,List.not_mem_nil,or_false] at hb;rcases hb with rfl|rfl|rfl|rfl|rfl
   ·exact⟨_,z2⟩
   ·exact⟨_,up2 _ _ D.a1 e2⟩
   ·exact⟨_,up2 _ _ D.a2 b2⟩
   ·obtain⟨o,vs,e,_⟩:=b3.ob;exact⟨o,up2 _ _ D.a3 e⟩
   ·obtain⟨o,vs,e,_⟩:=b4.ob;exact⟨o,up2 _ _ D.a4 e⟩) hno hfr (.cons ru (.cons rv .nil)) (by show 2<=sizeLine;decide) tu
  refine⟨.ref s.heap.objs.size,_,I2,rfl,⟨_,x,y,hfr,rfl,rfl,fun xs' h=>by rw[I.src_inj h sx];exact hx,fun ys' h=>by rw[I.src_inj h sy];exact hy⟩,?_,fun b hb=>?_⟩
  ·exact⟨z2,up2 _ _ D.a1 e2,⟨_,_,up2 _ _ D.a2 b2⟩,b3.mv fun o e=>up2 _ o D.a3 e,b4.mv fun o e=>up2 _ o D.a4 e⟩
  ·have:b≠s.heap.objs.size:=fun q=>by
    subst q;simp only[List.mem_cons,List.not_mem_nil,or_false] at hb;rcases hb with q|q|q|q|q
    ·exact Tz q
    ·exact absurd (zbv q2) (by rw[q];exact Nat.lt_irrefl _)
    ·exact absurd (zbv q3) (by rw[q];exact Nat.lt_irrefl _)
    ·obtain⟨o,vs,e,_⟩:=q4.ob;exact absurd (zbv e) (by rw[q];exact Nat.lt_irrefl _)
    ·obtain⟨o,vs,e,_⟩:=q5.ob;exact absurd (zbv e) (by rw[q];exact Nat.lt_irrefl _)
   rw[jah this];exact (hf b hb).1
 done:=by
  intro X hP hw hK hc i pins s σ H E I hf st hg;subst hP hw hK;obtain⟨q1,q2,⟨a,b',q3⟩,q4,q5⟩:=st;obtain⟨xs,ys,sx,sy,hend⟩:=hg;obtain⟨ix,rx,cx,_⟩:=I.src sx;obtain⟨iy,ry,cy,_⟩:=I.src sy;have far:∀ {k:Bool} {l:Addr} {xs:List V},SqV k X.K H l xs->LFar z TO i1 i2 l:=fun h=>⟨jhk I h (hf z (by simp)),jhk I h (hf TO (by simp)),jhk I h (hf i1 (by simp)),jhk I h (hf i2 (by simp))⟩
  have lx:=rx.length;have ly:=ry.length;refine jld (I.ok.hd hc) D (far sx) (far sy) q1 q2 q3 q4 q5 cx cy ?_ fun h' k=>⟨rfl,I.spun0 (t':=s.toks) hf fun b o hb e=>?_⟩
  ·rcases hend with h|h
   ·exact .inl (by simp;omega)
   ·exact .inr (by simp;omega)
  ·simp only[List.mem_cons,List.not_mem_nil,or_false,not_or] at hb;exact k b o hb.1 hb.2.2.1 hb.2.2.2.1 hb.2.2.2.2 e
 self:=fun _ _ _ _ _ st h=>wpAny_pyIter_zip st.1 h
theorem zfar(n:Nat):ZFar (n+4) (n+2) (n+3) n (n+1):=⟨show (n+2:Nat)≠n+4 by omega,show (n+3:Nat)≠n+4 by omega,show (n:Nat)≠n+4 by omega,show (n+1:Nat)≠n+4 by omega,show (n+2:Nat)≠n+3 by omega,
 show (n+2:Nat)≠n by omega,show (n+2:Nat)≠n+1 by omega,show (n+3:Nat)≠n by omega,show (n+3:Nat)≠n+1 by omega,show (n:Nat)≠n+1 by omega⟩
section
variable {X:Cx}
noncomputable def iZip(K:W.Frag)(ta:TA):TI:=fun σ H R=>ta σ H fun vs H1=>∃ k1 k2 l1 l2 xs ys,vs=[.ref l1,.ref l2]/\SqV k1 K H1 l1 xs/\SqV k2 K H1 l2 ys/\R (Itz k1 k2 K l1 l2) H1
theorem jAh{a b:Expr}{ta:TA}{es:List Expr}{kk:Nat}{tp p pos:Pos}(hg:Gl X "zip")(hm:X.mg "zip"=none)(ha:PA X [a,b] ta)(hs:autoParam (starEach [a,b] X.env=[(false,eval a X.env),(false,eval b X.env)]) zau2._auto_1)(hs2:autoParam (starEach [b] X.env=[(false,eval b X.env)]) zau2._auto_1) :
  PI X (.Tuple es kk tp) (.Call (.Name "zip" p) [a,b] [] pos) (iZip X.K ta):=by
 intro pins s σ H R I h;refine Call_ (jji I hg hm boot_zip (PyProof.Rows.callWith_type1 (thn (ha pos pins s σ H _ I h) fun us s1 hzz=>?_) (by rw[hs,hs2]) (by rw[hs2];rfl)));obtain⟨vs,H1,I1,r1,q1⟩:=hzz;obtain⟨k1,k2,l1,l2,xs,ys,e,sx,sy,q⟩:=q1;subst e;obtain⟨u1,u2,rfl,e1,e2⟩:=r1.two;cases e1;cases e2;obtain⟨ix,rx,cx,_⟩:=I1.src sx;obtain⟨iy,ry,cy,_⟩:=I1.src sy;refine callType_new F.called_zip (by decide) (F.typeCall_zip_2 _ _) (F.newCall_zip_2 _ _) (fun obj=>F.args_object_init_3 obj _ _) F.entry_zip_new (jqo l1 l2 ix.toArray iy.toArray) ⟨cx,cy,fun o1 o2 w1 w2=>?_⟩;have n1:(s1.heap.push o1).objs.size=s1.heap.objs.size+1:=Heap.size_push ..;have n2:(zA s1.heap o1 o2).objs.size=s1.heap.objs.size+2:=by show (Heap.push _ _).objs.size=_;rw[Heap.size_push,n1]
 have n3:(zB s1.heap o1 o2).objs.size=s1.heap.objs.size+3:=by show (Heap.push _ _).objs.size=_;rw[Heap.size_push,n2]
 have n4:(zC s1.heap o1 o2).objs.size=s1.heap.objs.size+4:=by show (Heap.push _ _).objs.size=_;rw[Heap.size_push,n3]
 have g5:(zD s1.heap o1 o2).get? (zC s1.heap o1 o2).objs.size=some _:=zbz _ rfl;have g4:(zD s1.heap o1 o2).get? (zB s1.heap o1 o2).objs.size=some _:=zaz _ (zbz _ rfl);have g3:(zD s1.heap o1 o2).get? (zA s1.heap o1 o2).objs.size=some _:=zaz _ (zaz _ (zbz _ rfl));have kk2:∀ c o,(zA s1.heap o1 o2).get? c=some o->(zD s1.heap o1 o2).get? c=some o:=fun c o e=>zaz _ (zaz _ (zaz _ e))
 have kk1:∀ c o,(s1.heap.push o1).get? c=some o->(zD s1.heap o1 o2).get? c=some o:=fun c o e=>kk2 c o (zaz _ e)
 have kk0:∀ c o,s1.heap.get? c=some o->(zD s1.heap o1 o2).get? c=some o:=fun c o e=>kk1 c o (zaz _ e)
 rw[n1] at w2 g3;rw[n2] at g3;rw[n3] at g4;rw[n4,n2,n3] at g5;show _/\_;rw[n4];refine⟨⟨_,g5,rfl⟩,wpAny_pyIter_zip g5 ?_⟩;have D:ZFar (s1.heap.objs.size+4) (s1.heap.objs.size+2) (s1.heap.objs.size+3) s1.heap.objs.size (s1.heap.objs.size+1):=zfar _;refine⟨s1.heap.objs.size+4,[s1.heap.objs.size+4,s1.heap.objs.size+2,s1.heap.objs.size+3,s1.heap.objs.size,s1.heap.objs.size+1],_,_,H1,rfl,I1.kept (t':=s1.toks) fun c o e=>kk0 c o e,
  jty k1 k2 l1 l2 _ _ _ _ _ D,⟨g5,g3,⟨_,_,g4⟩,w1.mv fun o e=>kk1 _ o e,w2.mv fun o e=>kk2 _ o e⟩,fun b hb=>?_,q⟩
 have hb':s1.heap.objs.size<=b:=by
  simp only[List.mem_cons,List.not_mem_nil,or_false] at hb;show (s1.heap.objs.size:Nat)<=(b:Nat);have hb2:(b:Nat)=b:=rfl;rcases hb with q|q|q|q|q<;>(rw[q];first|exact zac _|exact Nat.le_add_right _ _)
 exact I1.fpOk hb' (I1.hok.fresh hb')
end
noncomputable def Ite(K:W.Frag)(l:Addr):It :=
  ⟨fun i H=>∃ xs x,SqL K H l xs/\xs[i]? = some x,
   fun i H v H'=>∃ T x,H T=none/\v=.ref T/\H'=upd H T (.tup [.int i,x])/\(∀ xs,SqL K H l xs->xs[i]? = some x),
   fun i H=>∃ xs,SqL K H l xs/\xs.length<=i⟩
theorem jry{P:Program}{w:World}{K:W.Frag}{es:List Expr}{kk:Nat}{tp:Pos}(l e it:Addr)(D:e≠it) :
  Turn P w K (.Tuple es kk tp) (Ite K l) [e,it] e (fun i h=>(∃ old,IsEnum h e it i old)/\h.IsListIter it l i) where
 mem:=by simp
 obj:=fun i h st b hb=>by
  obtain⟨⟨old,q1⟩,o,q2,_,q3⟩:=st;simp only[List.mem_cons,List.not_mem_nil,or_false] at hb;rcases hb with rfl|rfl
  ·exact⟨_,q1,fun v e=>nomatch e⟩
  ·exact⟨o,q2,fun v z=>by rw[q3] at z;cases z⟩
 keep:=fun i h h' st k=>by
  obtain⟨⟨old,q1⟩,q2⟩:=st;exact⟨⟨old,k e (by simp) _ q1⟩,q2.at fun o z=>k it (by simp) o z⟩
 item:=by
  intro X hP hw hK hc i pins s σ H E I hf st hg;subst hP hw hK;obtain⟨⟨old,q1⟩,q2⟩:=st;obtain⟨xs,x,sx,hx⟩:=hg;obtain⟨ix,rx,cx,_⟩:=I.list sx;obtain⟨u,hu,ru⟩:=rx.get hx;refine wpAny_pyNext_enum_item q1 q2 cx.isList (x:=u) (by simpa using hu) D fun h' b1 b2 b3 b4 b5=>⟨_,rfl,?_⟩
  have hfr:H s.heap.objs.size=none:=I.hok.fresh (zac _);have hno:s.heap.get? s.heap.objs.size=none:=Heap.get?_none_of_le (zac _);have Te:s.heap.objs.size≠e:=Nat.ne_of_gt (zbv q1);have Ti:s.heap.objs.size≠it:=by obtain⟨o,q,_⟩:=q2;exact Nat.ne_of_gt (zbv q)
  refine wpAny_letOwnedTupleGo_enum b1 fun h2 e2 s2=>?_
  have up2:∀ b o,b≠e->h'.get? b=some o->h2.get? b=some o:=fun b o hb z=>s2.extBut _ _ hb z
  have keep2:∀ b o,b∉[e,it]->s.heap.get? b=some o->h2.get? b=some o:=fun b o hb z=>by
   simp only[List.mem_cons,List.not_mem_nil,or_false,not_or] at hb;exact up2 b o hb.1 (b5 b o hb.1 hb.2 z)
  have tu:IsTup h2 s.heap.objs.size [.int i s.toks,u].toArray:=⟨_,up2 _ _ Te b3,rfl,0,rfl⟩
  have i2:h2.IsListIter it l (i+1):=b2.at fun o z=>up2 _ o D.symm z
  have I2:Inv X pins σ (upd H s.heap.objs.size (.tup [.int i,x])) { s with heap:=h2,toks:=s.toks+1 }:=I.spun hf keep2 (fun b hb=>by
   simp only[List.mem_cons,List.not_mem_nil,or_false] at hb;rcases hb with rfl|rfl
   ·exact⟨_,e2⟩
   ·obtain⟨o,q,_⟩:=i2;exact⟨o,q⟩) hno hfr (.cons ⟨_,rfl⟩ (.cons ru .nil)) (by show 2<=sizeLine;decide) tu
  refine⟨.ref s.heap.objs.size,_,I2,rfl,⟨_,x,hfr,rfl,rfl,fun xs' h=>by rw[I.list_inj h sx];exact hx⟩,⟨⟨u,by have:=e2;simpa using this⟩,i2⟩,fun b hb=>?_⟩;have:b≠s.heap.objs.size:=fun q=>by
   subst q;simp only[List.mem_cons,List.not_mem_nil,or_false] at hb;rcases hb with q|q
   ·exact Te q
   ·exact Ti q
  rw[jah this];exact (hf b hb).1
 done:=by
  intro X hP hw hK hc i pins s σ H E I hf st hg;subst hP hw hK;obtain⟨⟨old,q1⟩,q2⟩:=st;obtain⟨xs,sx,hend⟩:=hg;obtain⟨ix,rx,cx,_⟩:=I.list sx;have lx:=rx.length;refine wpAny_pyNext_enum_end (I.ok.hd hc) q1 q2 cx.isList (by simp;omega) fun h' k=>⟨rfl,I.spun0 (t':=s.toks) hf fun b o hb z=>?_⟩
  simp only[List.mem_cons,List.not_mem_nil,or_false,not_or] at hb;exact k b o hb.2 z
 self:=fun _ _ _ _ _ st h=>by obtain⟨⟨old,q1⟩,_⟩:=st;exact wpAny_pyIter_enum q1 h
section
variable {X:Cx}
noncomputable def jB4(K:W.Frag)(ta:TA):TI:=fun σ H R=>ta σ H fun vs H1=>∃ l xs,vs=[.ref l]/\SqL K H1 l xs/\R (Ite K l) H1
theorem jw8{a:Expr}{ta:TA}{es:List Expr}{kk:Nat}{tp p pos:Pos}(hg:Gl X "enumerate")(hm:X.mg "enumerate"=none)(ha:PA X [a] ta)(hs:autoParam (starEach [a] X.env=[(false,eval a X.env)]) zau2._auto_1) :
  PI X (.Tuple es kk tp) (.Call (.Name "enumerate" p) [a] [] pos) (jB4 X.K ta):=by
 intro pins s σ H R I h;refine Call_ (jji I hg hm boot_enumerate (PyProof.Rows.callWith_type1 (thn (ha pos pins s σ H _ I h) fun us s1 hzz=>?_) hs rfl));obtain⟨vs,H1,I1,r1,q1⟩:=hzz;obtain⟨l,xs,e,sx,q⟩:=q1;subst e;obtain⟨u,rfl,e1⟩:=r1.one;cases e1;obtain⟨ix,rx,cx,_⟩:=I1.list sx;refine call_enumerate_list cx.isList fun h' b1 b2 b3 b4=>wpAny_pyIter_enum b1 ?_
 refine⟨s1.heap.objs.size+1,[s1.heap.objs.size+1,s1.heap.objs.size],_,_,H1,rfl,I1.kept (t':=s1.toks) fun c o e=>b4 c o e,jry l _ _ (show (s1.heap.objs.size+1:Nat)≠s1.heap.objs.size by omega),⟨⟨_,b1⟩,b2⟩,fun b hb=>?_,q⟩;have hb':s1.heap.objs.size<=b:=by
  simp only[List.mem_cons,List.not_mem_nil,or_false] at hb;rcases hb with q|q<;>(rw[q];first|exact zac _|exact Nat.le_add_right _ _)
 exact I1.fpOk hb' (I1.hok.fresh hb')
end
noncomputable def iSeq(K:W.Frag)(tl:TE):TI:=fun σ H R=>tl σ H fun x H1=>(∃ a,x=.ref a/\(∃ xs,SqL K H1 a xs)/\R (Itl K a) H1)\/(∃ a,x=.ref a/\(∃ xs,SqT K H1 a xs)/\R (Itt K a) H1)
theorem jAf{X:Cx}{tg l:Expr}{tl:TE}(hl:PE X l tl):PI X tg l (iSeq X.K tl):=by
 intro pins s σ H R I h;refine thn (hl pins s σ H _ I h) fun v s1 hzz=>?_
 obtain⟨x,H1,I1,r1,q1⟩:=hzz;have fp1:∀ b∈[s1.heap.objs.size],FpOk X pins H1 b:=fun b hb=>by
  have e:b=s1.heap.objs.size:=by simpa using hb
  subst e;exact I1.fpOk (zac _) (I1.hok.fresh (zac _))
 rcases q1 with ⟨a,e,⟨xs,hq⟩,q⟩|⟨a,e,⟨xs,hq⟩,q⟩
 ·subst e;cases r1;obtain⟨its,rv,p,hz⟩:=I1.list hq;exact wpAny_pyIter_list p.isList ⟨s1.heap.objs.size,[s1.heap.objs.size],_,_,H1,rfl,I1.kept (t':=s1.toks) fun b o e=>zaz _ e,jrz a _,⟨_,zbz _ rfl,rfl,rfl⟩,fp1,q⟩
 ·subst e;cases r1;obtain⟨its,rv,p,hz⟩:=I1.tuple hq;exact wpAny_pyIter_tuple (show s1.heap.IsTuple a its.toArray from p) ⟨s1.heap.objs.size,[s1.heap.objs.size],_,_,H1,rfl,I1.kept (t':=s1.toks) fun b o e=>zaz _ e,jo2 a _,⟨_,zbz _ rfl,rfl,rfl⟩,fp1,q⟩
noncomputable def Itv(val:Nat->V)(n:Nat):It:=⟨fun i _=>i<n,fun i H x H'=>H'=H/\x=val i,fun i _=>i=n⟩
noncomputable def jlo(nm:String):Bool:=!["enumerate","zip","dict_itemiterator","dict_reverseitemiterator","odict_iterator","itertools.zip_longest","itertools.pairwise"].contains nm
theorem jgz{P:Program}{w:World}{K:W.Frag}{tg:Expr}(it:Addr)(val:Nat->V)(n:Nat)(Stn:Nat->Heap->Prop)(W:∀ A:Around,A.handled=none->Walks P w A it [it] [it] n (fun i v=>RelV (val i) v) Stn)
  (ob:∀ i h,Stn i h->∃ o nm vs,h.get? it=some o/\o.cls=.type nm/\o.data=.fields vs/\jlo nm=true)
  (sf:∀ (A:Around) (i:Nat) (s:Shared) (Q:Value->Shared->Prop) (E:Value->Shared->Prop),Stn i s.heap->Q (.ref it) s->wpAny (model P w) A (pyIter (.ref it)) Q E s):Turn P w K tg (Itv val n) [it] it Stn where
 mem:=by simp
 obj:=fun i h st b hb=>by
  have e:b=it:=by simpa using hb
  subst e;obtain⟨o,nm,vs,q1,_,q3,_⟩:=ob i h st;exact⟨o,q1,fun v z=>by rw[q3] at z;cases z⟩
 keep:=fun i h h' st k=>(W { handled:=none,frames:=some [] } rfl).frame i h h' st k
 item:=by
  intro X hP hw hK hc i pins s σ H E I hf st hg;subst hP hw hK;refine (W X.A (I.ok.hd hc)).item i s _ _ hg st fun v h' tk hv st' kk=>⟨v,rfl,?_⟩
  obtain⟨o,nm,vs,q1,q2,q3,q4⟩:=ob _ _ st';have I1:Inv X pins σ H { s with heap:=h',toks:=tk }:=I.spun0 hf kk;exact jv4 (s:={ s with heap:=h',toks:=tk }) q1 q2 q3 (by unfold jlo at q4;simpa using q4) ⟨val i,H,I1,hv,⟨rfl,rfl⟩,st',fun b hb=>(hf b hb).1⟩
 done:=by
  intro X hP hw hK hc i pins s σ H E I hf st hg;subst hP hw hK;have hg':i=n:=hg;subst hg';exact (W X.A (I.ok.hd hc)).done s _ _ st fun h' tk kk=>⟨rfl,I.spun0 hf kk⟩
 self:=fun A i s Q E st h=>sf A i s Q E st h
section
variable {X:Cx}{tg:Expr}
theorem jlq{pins:List (Addr×Obj)}{σ:St}{H:Hp}{s:Shared}{R:It->Hp->Prop}{E:Value->Shared->Prop}{lo hi st:Int}{t u v:Tok}{tk:Nat}(I:Inv X pins σ H s)(hst:st=1)
  (q:R (Itv (fun i=>.int (lo+(i:Nat)*st)) (Builtin.Range.rangeSize lo hi st).toNat) H):wpAny (model X.prog X.w) X.A (pyIter (.ref s.heap.objs.size)) (PIE X pins σ tg R) E { s with heap:=s.heap.push { cls:=.type "range",data:=.fields #[.int lo t,.int hi u,.int st v] },toks:=tk }:=by
 have I1:Inv X pins σ H { s with heap:=s.heap.push { cls:=.type "range",data:=.fields #[.int lo t,.int hi u,.int st v] },toks:=tk }:=I.kept fun b o e=>zaz _ e
 subst hst;have hn:0<=Builtin.Range.rangeSize lo hi 1:=by rw[rangeSize_one];split<;>omega
 generalize hN:(Builtin.Range.rangeSize lo hi 1).toNat=N at q;have hN':Builtin.Range.rangeSize lo hi 1=(N:Int):=by omega
 have fpk:∀ b∈[(s.heap.push { cls:=.type "range",data:=.fields #[.int lo t,.int hi u,.int 1 v] }).objs.size],FpOk X pins H b:=fun b hb=>by
  have e:b=(s.heap.push { cls:=.type "range",data:=.fields #[.int lo t,.int hi u,.int 1 v] }).objs.size:=by simpa using hb
  subst e;exact I1.fpOk (zac _) (I1.hok.fresh (zac _))
 by_cases hsm:Builtin.Range.small lo hi 1=true
 ·refine wpAny_pyIter_range (IsRange.new ..) hsm ?_;refine⟨_,[_],_,_,H,rfl,I1.kept (t':=tk) fun b o e=>zaz _ e,jgz _ _ N _ (fun A hA=>Walks.range hA _ lo 1 N) (fun i h e=>⟨_,_,_,e,rfl,rfl,rfl⟩) (fun A i s Q E e h=>wpAny_pyIter_rangeiter e h),?_,fpk,q⟩;show IsRangeIter _ _ (lo+((0:Nat):Int)*1) ((N:Int)-((0:Nat):Int)) 1;rw[<- hN'];have e1:lo+((0:Nat):Int)*1=lo:=by simp
  have e2:Builtin.Range.rangeSize lo hi 1-((0:Nat):Int)=Builtin.Range.rangeSize lo hi 1:=by simp
  rw[e1,e2];exact zbz _ rfl
 ·refine wpAny_pyIter_longrange (IsRange.new ..) (by simpa using hsm) ?_;refine⟨_,[_],_,_,H,rfl,I1.kept (t':=tk) fun b o e=>zaz _ e,jgz _ _ N _ (fun A hA=>Walks.longrange hA _ lo 1 N) (fun i h e=>⟨_,_,_,e,rfl,rfl,rfl⟩) (fun A i s Q E e h=>wpAny_pyIter_longiter e h),?_,fpk,q⟩;show IsLongIter _ _ (lo+((0:Nat):Int)*1) ((N:Int)-((0:Nat):Int)) 1;rw[<- hN'];have e1:lo+((0:Nat):Int)*1=lo:=by simp
  have e2:Builtin.Range.rangeSize lo hi 1-((0:Nat):Int)=Builtin.Range.rangeSize lo hi 1:=by simp
  rw[e1,e2];exact zbz _ rfl
noncomputable def iRgA(ta:TA):TI:=fun σ H R=>ta σ H fun vs H1=>(∃ j:Int,vs=[.int j]/\R (Itv (fun i=>.int (0+(i:Nat)*1)) (Builtin.Range.rangeSize 0 j 1).toNat) H1) \/
 (∃ i j:Int,vs=[.int i,.int j]/\R (Itv (fun n=>.int (i+(n:Nat)*1)) (Builtin.Range.rangeSize i j 1).toNat) H1)
theorem jtn{a:Expr}{es:List Expr}{ta:TA}{p pos:Pos}(hg:Gl X "range")(hm:X.mg "range"=none)(ha:PA X (a::es) ta)(hs:autoParam (starEach (a::es) X.env=(false,eval a X.env)::starEach es X.env) zau2._auto_1)(hp:autoParam ((backTo pos (starEach es X.env)).any (·.1)=false) zau2._auto_1) :
  PI X tg (.Call (.Name "range" p) (a::es) [] pos) (iRgA ta):=by
 intro pins s σ H R I h;refine Call_ (jji I hg hm boot_range (PyProof.Rows.callWith_type1 (thn (ha pos pins s σ H _ I h) fun us s1 hzz=>?_) hs hp));obtain⟨vs,H1,I1,r1,q1⟩:=hzz;rcases q1 with ⟨j,e,q⟩|⟨i,j,e,q⟩
 ·subst e;obtain⟨u,rfl,t,rfl⟩:=r1.one;exact call_range_1 (jlq I1 rfl q)
 ·subst e;obtain⟨u,v,rfl,⟨t,rfl⟩,⟨t',rfl⟩⟩:=r1.two;exact call_range_2 (jlq I1 rfl q)
noncomputable def iStr(tl:TE):TI:=fun σ H R=>tl σ H fun x H1=>∃ z,x=.str z/\R (Itv (fun i=>.str ⟨#[z.cps.getD i 0]⟩) z.cps.size) H1
theorem jAg{l:Expr}{tl:TE}(hl:PE X l tl):PI X tg l (iStr tl):=by
 intro pins s σ H R I h;refine thn (hl pins s σ H _ I h) fun v s1 hzz=>?_
 obtain⟨x,H1,I1,r1,q1⟩:=hzz;obtain⟨z,e,q⟩:=q1;subst e;obtain⟨t,rfl⟩:=r1;have fp1:∀ b∈[s1.heap.objs.size],FpOk X pins H1 b:=fun b hb=>by
  have e:b=s1.heap.objs.size:=by simpa using hb
  subst e;exact I1.fpOk (zac _) (I1.hok.fresh (zac _))
 have wk:∀ i v,SignAt z i v->RelV (.str ⟨#[z.cps.getD i 0]⟩) v:=fun i v ⟨c,u,q1,q2⟩=>⟨u,by rw[q2,Array.getD_eq_getD_getElem?,q1];rfl⟩
 cases ha:z.cps.all (·<128)
 ·exact wpAny_pyIter_wide ha ⟨_,[_],_,_,H1,rfl,I1.kept (t':=s1.toks) fun b o e=>zaz _ e,jgz _ _ _ _ (fun A hA=>(Walks.strWide hA _ z t).weaken wk) (fun i h ⟨o,q1,q2,q3⟩=>⟨o,_,_,q1,q2,q3,rfl⟩) (fun A i s Q E e h=>wpAny_pyIter_striter_wide e h),⟨_,zbz _ rfl,rfl,rfl⟩,fp1,q⟩
 ·exact wpAny_pyIter_ascii ha ⟨_,[_],_,_,H1,rfl,I1.kept (t':=s1.toks) fun b o e=>zaz _ e,jgz _ _ _ _ (fun A hA=>(Walks.strAscii hA _ z t).weaken wk) (fun i h ⟨o,q1,q2,q3⟩=>⟨o,_,_,q1,q2,q3,rfl⟩) (fun A i s Q E e h=>wpAny_pyIter_striter_ascii e h),⟨_,zbz _ rfl,rfl,rfl⟩,fp1,q⟩
end
end L2
namespace DL
open PySem PySem.Spec L2
noncomputable def seqD:D->Option (List D)
 | .lst ds=>some ds
 | .tup ds=>some ds
 | _=>none
noncomputable def jj9(f:DSt->M D):DSt->M (List D):=fun δ=>(f δ).b fun d=>M.o (seqD d)
noncomputable def jbi(lo:Int)(n:Nat):List D:=(List.range n).map fun i=>.int (lo+(i:Nat))
noncomputable def jb3:List D->Option (List D)
 | [.int j]=>some (jbi 0 j.toNat)
 | [.int i,.int j]=>some (jbi i (j-i).toNat)
 | _=>none
noncomputable def zipD:List D->List D->List D
 | x::xs,y::ys=>.tup [x,y]::zipD xs ys
 | _,_=>[]
noncomputable def jfs:List D->Option (List D)
 | [x,y]=>match seqD x,seqD y with
  | some xs,some ys=>some (zipD xs ys)
  | _,_=>none
 | _=>none
noncomputable def je4:Int->List D->List D
 | _,[]=>[]
 | k,d::ds=>.tup [.int k,d]::je4 (k+1) ds
noncomputable def jev:List D->Option (List D)
 | [.lst xs]=>some (je4 0 xs)
 | _=>none
noncomputable def je6(k:List D->Option (List D))(f:DSt->M (List D)):DSt->M (List D):=fun δ=>(f δ).b fun ds=>M.o (k ds)
theorem jn6:∀ {xs ys:List D} {i:Nat} {d:D},(zipD xs ys)[i]? = some d->∃ x y,xs[i]? = some x/\ys[i]? = some y/\d=.tup [x,y]
 | [],_,_,_,h=>by simp[zipD] at h
 | _::_,[],_,_,h=>by simp[zipD] at h
 | x::xs,y::ys,0,d,h=>by simp[zipD] at h;exact⟨x,y,rfl,rfl,h.symm⟩
 | x::xs,y::ys,i+1,d,h=>by
  obtain⟨a,b,q1,q2,q3⟩:=jn6 (xs:=xs) (ys:=ys) (i:=i) (d:=d) (by simpa[zipD] using h);exact⟨a,b,by simpa using q1,by simpa using q2,q3⟩
theorem jn7:∀ (xs ys:List D),(zipD xs ys).length=min xs.length ys.length
 | [],_=>by simp[zipD]
 | _::_,[]=>by simp[zipD]
 | x::xs,y::ys=>by simp[zipD,jn7 xs ys]
theorem jk1:∀ {xs:List D} {k:Int} {i:Nat} {d:D},(je4 k xs)[i]? = some d->∃ x,xs[i]? = some x/\d=.tup [.int (k+i),x]
 | [],_,_,_,h=>by simp[je4] at h
 | x::xs,k,0,d,h=>by simp[je4] at h;exact⟨x,rfl,by rw[<- h];simp⟩
 | x::xs,k,i+1,d,h=>by
  obtain⟨a,q1,q2⟩:=jk1 (xs:=xs) (k:=k+1) (i:=i) (d:=d) (by simpa[je4] using h);refine⟨a,by simpa using q1,?_⟩;have:k+1+(i:Int)=k+((i+1:Nat):Int):=by push_cast;omega
  rw[q2,this]
theorem jk2:∀ (xs:List D) (k:Int),(je4 k xs).length=xs.length
 | [],_=>rfl
 | _::xs,k=>by simp[je4,jk2 xs]
section
variable {ρ:Rho}{X:Cx}{O:List Nat}{E:XK}{a b tg iter e elt:Expr}{es:List Expr}{fa:DSt->M D}{fl:DSt->M (List D)}{pos p:Pos}
theorem jls{k:Bool}{K:W.Frag}{H H':Hp}{l:Addr}{xs:List V}(e:Same H H')(h:SqV k K H l xs):SqV k K H' l xs:=by
 cases k with
 | true=>exact jc1 (H:=H) e h
 | false=>exact jcm (H:=H) e h
theorem jy6{ρ:Rho}{K:W.Frag}{ds:List D}{Hv:Hp}{l:Addr}{xs:List V}(h:SqL K Hv l xs)(hr:Reps ρ K Hv ds xs):ItD ρ K (Itl K l) ds Hv:=by
 intro H' G' i f hG;have h':SqL K H' l xs:=jcm (f.trans jaj) h;refine⟨fun hi=>?_,fun hi=>⟨xs,h',by rw[hr.length,hi];exact zac _⟩⟩;obtain⟨v,hv,rv⟩:=hr.get (zax hi);refine⟨⟨xs,v,h',hv⟩,fun x H2 y=>?_⟩;obtain⟨rfl,y⟩:=y;refine⟨Same.refl _,_,zax hi,?_⟩;have:=y xs h';rw[hv] at this;cases this
 exact rv.mono f
theorem jy9{ρ:Rho}{K:W.Frag}{ds:List D}{Hv:Hp}{l:Addr}{xs:List V}(h:SqT K Hv l xs)(hr:Reps ρ K Hv ds xs):ItD ρ K (Itt K l) ds Hv:=by
 intro H' G' i f hG;have h':SqT K H' l xs:=jc1 (f.trans jaj) h;refine⟨fun hi=>?_,fun hi=>⟨xs,h',by rw[hr.length,hi];exact zac _⟩⟩;obtain⟨v,hv,rv⟩:=hr.get (zax hi);refine⟨⟨xs,v,h',hv⟩,fun x H2 y=>?_⟩;obtain⟨rfl,y⟩:=y;refine⟨Same.refl _,_,zax hi,?_⟩;have:=y xs h';rw[hv] at this;cases this
 exact rv.mono f
theorem jqc{ρ:Rho}{K:W.Frag}{Hv:Hp}{val:Nat->V}{ds:List D}{n:Nat}(hl:ds.length=n)(hv:∀ i d,ds[i]? = some d->∀ H,Rep ρ K H d (val i)):ItD ρ K (Itv val n) ds Hv:=by
 intro H' G' i f hG;subst hl;refine⟨fun hi=>⟨hi,fun x H2 y=>?_⟩,fun hi=>hi⟩;obtain⟨rfl,rfl⟩:=y;exact⟨Same.refl _,_,zax hi,hv i _ (zax hi) _⟩
theorem jza{ρ:Rho}{K:W.Frag}{k1 k2:Bool}{ds es:List D}{Hv:Hp}{l1 l2:Addr}{xs ys:List V}(h1:SqV k1 K Hv l1 xs)(r1:Reps ρ K Hv ds xs)(h2:SqV k2 K Hv l2 ys)(r2:Reps ρ K Hv es ys):ItD ρ K (Itz k1 k2 K l1 l2) (zipD ds es) Hv:=by
 intro H' G' i f hG;have h1':SqV k1 K H' l1 xs:=jls (f.trans jaj) h1;have h2':SqV k2 K H' l2 ys:=jls (f.trans jaj) h2;refine⟨fun hi=>?_,fun hi=>⟨xs,ys,h1',h2',?_⟩⟩
 ·obtain⟨d1,d2,q1,q2,q3⟩:=jn6 (zax hi);obtain⟨v,hv,rv⟩:=r1.get q1;obtain⟨u,hu,ru⟩:=r2.get q2;refine⟨⟨xs,ys,v,u,h1',h2',hv,hu⟩,fun x H2 y=>?_⟩;obtain⟨T,x1,x2,hT,rfl,rfl,y1,y2⟩:=y;have e1:=y1 xs h1';have e2:=y2 ys h2';rw[hv] at e1;cases e1
  rw[hu] at e2;cases e2
  refine⟨ja1 hT,_,zax hi,?_⟩;rw[q3];exact jby hT (hG T hT) (Reps.cons (rv.mono f) (Reps.cons (ru.mono f) Reps.nil))
 ·rw[jn7] at hi;rw[r1.length,r2.length];omega
theorem jy5{ρ:Rho}{K:W.Frag}{ds:List D}{Hv:Hp}{l:Addr}{xs:List V}(h:SqL K Hv l xs)(hr:Reps ρ K Hv ds xs):ItD ρ K (Ite K l) (je4 0 ds) Hv:=by
 intro H' G' i f hG;have h':SqL K H' l xs:=jcm (f.trans jaj) h;refine⟨fun hi=>?_,fun hi=>⟨xs,h',by rw[hr.length,hi,jk2];exact zac _⟩⟩;obtain⟨d,q1,q2⟩:=jk1 (zax hi);obtain⟨v,hv,rv⟩:=hr.get q1;refine⟨⟨xs,v,h',hv⟩,fun x H2 y=>?_⟩;obtain⟨T,x1,hT,rfl,rfl,y1⟩:=y;have e1:=y1 xs h';rw[hv] at e1;cases e1
 refine⟨ja1 hT,_,zax hi,?_⟩;rw[q2,Int.zero_add];exact jby hT (hG T hT) (Reps.cons (rep_int.mpr rfl) (Reps.cons (rv.mono f) Reps.nil))
theorem jkz(h:DE X O E iter fa):DI X O E tg iter (jj9 fa):=by
 rintro pins s σ H R I ⟨ρ,Hz,F,δ,r,RS0,hf,k⟩;refine jAf h pins s σ H R I ?_;rcases M.b_inv hf with ⟨d,e1,hf⟩|⟨y,e1,rfl⟩
 ·refine⟨ρ,Hz,F,δ,.ok d,RS0,e1,fun v H1 s1 r1=>?_⟩;obtain⟨ds,hd,rfl⟩:=M.o_inv hf
  cases d with
  | lst es =>
   cases hd;obtain⟨q,xs,rfl,q2,q3⟩:=rep_lst.mp r1;exact .inl ⟨q,rfl,⟨xs,jcm jaj q2⟩,k _ H1 s1 (jy6 q2 q3)⟩
  | tup es =>
   cases hd;obtain⟨q,xs,rfl,q2,q3⟩:=rep_tup.mp r1;exact .inr ⟨q,rfl,⟨xs,jc1 jaj q2⟩,k _ H1 s1 (jy9 q2 q3)⟩
  | _=>cases hd
 ·exact⟨ρ,Hz,F,δ,.error y,RS0,e1,k⟩
theorem range_len(lo hi:Int):(Builtin.Range.rangeSize lo hi 1).toNat=(hi-lo).toNat:=by
 rw[rangeSize_one];split<;>omega
theorem jfu(hg:Gl X "range")(hm:X.mg "range"=none)(ha:DA X O E (a::es) fl)(hs:autoParam (starEach (a::es) X.env=(false,eval a X.env)::starEach es X.env) zau2._auto_1)(hp:autoParam ((backTo pos (starEach es X.env)).any (·.1)=false) zau2._auto_1) :
  DI X O E tg (.Call (.Name "range" p) (a::es) [] pos) (je6 jb3 fl):=by
 rintro pins s σ H R I ⟨ρ,Hz,F,δ,r,RS0,hf,k⟩;refine jtn hg hm ha hs hp pins s σ H R I ?_;rcases M.b_inv hf with ⟨d,e1,hf⟩|⟨y,e1,rfl⟩
 ·refine⟨ρ,Hz,F,δ,.ok d,RS0,e1,fun vs H1 s1 r1=>?_⟩;obtain⟨ds,hd,rfl⟩:=M.o_inv hf;unfold jb3 at hd
  split at hd
  ·rename_i j;cases hd;obtain⟨v,r',rfl,q1,q2⟩:=reps_cons.mp r1;cases reps_nil.mp q2;cases rep_int.mp q1;refine .inl ⟨j,rfl,k _ H1 s1 ?_⟩;refine jqc (by unfold jbi;rw[range_len];simp) fun i d hd H=>?_
   unfold jbi at hd;rw[zba] at hd
   cases q:(List.range j.toNat)[i]? with
   | none=>rw[q] at hd;cases hd
   | some m =>
    rw[q] at hd;have:m=i:=by
     have:=(zbb.mp q).2;simpa using this.symm
    subst this;cases hd;exact rep_int.mpr (by rw[Int.mul_one])
  ·rename_i i0 j;cases hd;obtain⟨v,r',rfl,q1,q2⟩:=reps_cons.mp r1;obtain⟨v2,r2,rfl,q3,q4⟩:=reps_cons.mp q2;cases reps_nil.mp q4;cases rep_int.mp q1;cases rep_int.mp q3;refine .inr ⟨i0,j,rfl,k _ H1 s1 ?_⟩;refine jqc (by unfold jbi;rw[range_len];simp) fun i d hd H=>?_
   unfold jbi at hd;rw[zba] at hd
   cases q:(List.range (j-i0).toNat)[i]? with
   | none=>rw[q] at hd;cases hd
   | some m =>
    rw[q] at hd;have:m=i:=by
     have:=(zbb.mp q).2;simpa using this.symm
    subst this;cases hd;exact rep_int.mpr (by rw[Int.mul_one])
  ·cases hd
 ·exact⟨ρ,Hz,F,δ,.error y,RS0,e1,k⟩
theorem jrq{ρ:Rho}{K:W.Frag}{H:Hp}{d:D}{ds:List D}{v:V}(hd:seqD d=some ds)(h:Rep ρ K H d v):∃ k l xs,v=.ref l/\SqV k K H l xs/\Reps ρ K H ds xs:=by
 cases d with
 | lst es=>cases hd;obtain⟨q,xs,rfl,q2,q3⟩:=rep_lst.mp h;exact⟨false,q,xs,rfl,q2,q3⟩
 | tup es=>cases hd;obtain⟨q,xs,rfl,q2,q3⟩:=rep_tup.mp h;exact⟨true,q,xs,rfl,q2,q3⟩
 | _=>cases hd
theorem jue{ts:List Expr}{kk:Nat}{tp:Pos}(hg:Gl X "zip")(hm:X.mg "zip"=none)(ha:DA X O E [a,b] fl)(hs:autoParam (starEach [a,b] X.env=[(false,eval a X.env),(false,eval b X.env)]) zau2._auto_1)(hs2:autoParam (starEach [b] X.env=[(false,eval b X.env)]) zau2._auto_1) :
  DI X O E (.Tuple ts kk tp) (.Call (.Name "zip" p) [a,b] [] pos) (je6 jfs fl):=by
 rintro pins s σ H R I ⟨ρ,Hz,F,δ,r,RS0,hf,k⟩;refine jAh hg hm ha hs hs2 pins s σ H R I ?_;rcases M.b_inv hf with ⟨d,e1,hf⟩|⟨y,e1,rfl⟩
 ·refine⟨ρ,Hz,F,δ,.ok d,RS0,e1,fun vs H1 s1 r1=>?_⟩;obtain⟨ds,hd,rfl⟩:=M.o_inv hf;unfold jfs at hd
  split at hd
  ·rename_i x y
   split at hd
   ·rename_i xs ys ex ey;cases hd;obtain⟨v,r',rfl,q1,q2⟩:=reps_cons.mp r1;obtain⟨v2,r2,rfl,q3,q4⟩:=reps_cons.mp q2;cases reps_nil.mp q4;obtain⟨k1,l1,us,rfl,z1,z2⟩:=jrq ex q1;obtain⟨k2,l2,ws,rfl,z3,z4⟩:=jrq ey q3;exact⟨k1,k2,l1,l2,us,ws,rfl,jls jaj z1,jls jaj z3,k _ H1 s1 (jza z1 z2 z3 z4)⟩
   ·cases hd
  ·cases hd
 ·exact⟨ρ,Hz,F,δ,.error y,RS0,e1,k⟩
theorem jpu{ts:List Expr}{kk:Nat}{tp:Pos}(hg:Gl X "enumerate")(hm:X.mg "enumerate"=none)(ha:DA X O E [a] fl)(hs:autoParam (starEach [a] X.env=[(false,eval a X.env)]) zau2._auto_1) :
  DI X O E (.Tuple ts kk tp) (.Call (.Name "enumerate" p) [a] [] pos) (je6 jev fl):=by
 rintro pins s σ H R I ⟨ρ,Hz,F,δ,r,RS0,hf,k⟩;refine jw8 hg hm ha hs pins s σ H R I ?_;rcases M.b_inv hf with ⟨d,e1,hf⟩|⟨y,e1,rfl⟩
 ·refine⟨ρ,Hz,F,δ,.ok d,RS0,e1,fun vs H1 s1 r1=>?_⟩;obtain⟨ds,hd,rfl⟩:=M.o_inv hf;unfold jev at hd
  split at hd
  ·rename_i xs;cases hd;obtain⟨v,r',rfl,q1,q2⟩:=reps_cons.mp r1;cases reps_nil.mp q2;obtain⟨l,us,rfl,z1,z2⟩:=rep_lst.mp q1;exact⟨l,us,rfl,jcm jaj z1,k _ H1 s1 (jy5 z1 z2)⟩
  ·cases hd
 ·exact⟨ρ,Hz,F,δ,.error y,RS0,e1,k⟩
noncomputable def jet(h:D->DSt->Option DSt)(tc:DSt->M Bool)(fe:DSt->M D):List D->DSt->Option (List D)
 | [],_=>some []
 | d::ds,δ=>match h d δ with
  | none=>none
  | some δ1=>match tc δ1 with
   | some (.ok true)=>(match fe δ1 with
    | some (.ok y)=>(jet h tc fe ds δ1).map (y::·)
    | _=>none)
   | some (.ok false)=>jet h tc fe ds δ1
   | _=>none
noncomputable def jf3(own:Nat)(caps:List (Str×Nat))(δ:DSt):DSt:=List.replicate own none++caps.map fun p=>(δ[p.2]?).join
noncomputable def jf1(own:Nat)(caps:List (Str×Nat))(fi:DSt->M (List D))(h:D->DSt->Option DSt)(tc:DSt->M Bool)(fe:DSt->M D):DSt->M D:=fun δ=>(fi δ).b fun ds=>M.o ((jet h tc fe ds (jf3 own caps δ)).bind jb0)
noncomputable def tYes:DSt->M Bool:=fun _=>M.p true
noncomputable def DC(X:Cx)(O:List Nat)(E:XK)(ifs:List Expr)(f:DSt->M Bool):Prop:=PC0 X ifs (tB X.K O E f)
theorem jeu:DC X O E [] tYes:=by
 rintro pins s σ H Q I ⟨ρ,Hz,F,δ,r,R,hf,h⟩;cases hf;exact jw2 pins s σ H Q I (h H (Same.refl H))
theorem jyh{f:DSt->M Bool}(h:DT X O E a f):DC X O E [a] f:=jz8 h
theorem jog{own:Nat}{caps:List (Str×Nat)}{δ:DSt}{i:Nat}{d:D}(h:(jf3 own caps δ)[i]? = some (some d)):∃ p,caps[i-own]? = some p/\own<=i/\δ[p.2]? = some (some d):=by
 unfold jf3 at h
 by_cases hi:i<own
 ·rw[List.getElem?_append_left (by simpa using hi),List.getElem?_replicate,if_pos hi] at h;cases h
 ·rw[List.getElem?_append_right (by simpa using hi),List.length_replicate,zba] at h
  cases e:caps[i-own]? with
  | none=>rw[e] at h;cases h
  | some p =>
   rw[e] at h;exact⟨p,rfl,by omega,join_some (zby h)⟩
theorem jp5{own:Nat}{caps:List (Str×Nat)}{σ:St}{i:Nat}{p:Str×Nat}{v:V}(h:caps[i-own]? = some p)(hi:own<=i)(hv:σ[p.2]? = some (some v)):(jek own caps σ)[i]? = some (some v):=by
 unfold jek;rw[List.getElem?_append_right (by simpa using hi),List.length_replicate,zba,h];show some ((σ[p.2]?).join)=_;rw[hv];rfl
noncomputable def jsc(O:List Nat)(caps:List (Str×Nat)):Bool:=caps.all fun p=>!O.contains p.2
inductive CInv(ρ:Rho)(K:W.Frag)(H1:Hp)(F:Addr->Bool)(Dd:Addr)(tot:List D)(cd:DSt->Option (List D))(σ:St)(H:Hp):Prop
 | mk (δ:DSt) (done:List D) (zs:List V) (rest:List D) (hR:RS ρ K H1 H F [] σ δ) (hD:H Dd=some (.lst zs)) (hz:Reps ρ K (hid H F) done zs) (hr:cd δ=some rest) (ht:done++rest=tot)
theorem jej{ifs:List Expr}{scope:Scope}{own:List Str}{caps:List (Str×Nat)}{fi:DSt->M (List D)}{h:D->DSt->Option DSt}{tc:DSt->M Bool}{fe:DSt->M D}(hc:X.calm=true)(ck:CapsOk X scope caps)(hi:DI X O E tg iter fi)
  (hg:∀ C s0 H0 ex,DG (jeb X scope (own++caps.map (·.1)) C s0 H0 ex) [] tg h) (ht:∀ C s0 H0 ex,DC (jeb X scope (own++caps.map (·.1)) C s0 H0 ex) [] E0 ifs tc)
  (he:∀ C s0 H0 ex,DE (jeb X scope (own++caps.map (·.1)) C s0 H0 ex) [] E0 elt fe) (hcf:autoParam (jsc O caps=true) zau2._auto_1) (hs:autoParam (∀ x,foldedSetIterable iter X.env x=pure x) zau3._auto_1) :
  DE X O E (.ListComp elt [⟨tg,iter,ifs,0⟩] scope pos) (jf1 own.length caps fi h tc fe):=by
 rintro pins s σ H Q I ⟨ρ,Hz,F,δ,r,R,hf,k⟩;refine jw4 (own:=own) (g:=tG X.K [] h) (tc:=tB X.K [] E0 tc) (te:=tD X.K [] E0 fe) hc ck hi hg ht he hs pins s σ H Q I ?_;rcases M.b_inv hf with ⟨ds,e1,hf⟩|⟨y,e1,rfl⟩
 ·refine⟨ρ,Hz,F,δ,.ok ds,R,e1,fun J H1 s1 it Dd hD=>?_⟩;obtain⟨dd,hd,rfl⟩:=M.o_inv hf
  cases hcd:jet h tc fe ds (jf3 own.length caps δ) with
  | none=>rw[hcd] at hd;cases hd
  | some tot =>
   rw[hcd] at hd;have hd':jb0 tot=some dd:=hd;unfold jb0 at hd'
   split at hd'
   ·rename_i hz;cases hd';have R1:=R.mono s1;have pf:=R1.fresh hD
    let F':Addr->Bool:=fun b=>fob F σ O b || b == Dd
    have F't:∀ b,F' b=true↔fob F σ O b=true\/b=Dd:=fun b=>by show (_ || _)=true↔_;rw[Bool.or_eq_true,beq_iff_eq]
    have vis:∀ {H2:Hp},Same H1 H2->Same (hid H1 (fob F σ O)) (hid H2 F'):=fun {H2} e b o q=>by
     obtain⟨q1,q2⟩:=hid_some.mp q;refine hid_some.mpr ⟨?_,e b o q2⟩
     cases z:F' b with
     | false=>rfl
     | true =>
      rcases (F't b).mp z with z|z
      ·rw[q1] at z;cases z
      ·rw[z,hD] at q2;cases q2
    have R0:RS ρ X.K H1 (upd H1 Dd (.lst [])) F' [] (jek own.length caps σ) (jf3 own.length caps δ):=by
     refine⟨by simp[jek,jf3],ja1 hD,fun b hb=>?_,fun i d hd _=>?_,fun i hi=>absurd hi (by simp),fun i hi=>absurd hi (by simp)⟩
     ·rcases (F't b).mp hb with z|z
      ·refine jjp fun q=>?_
       rw[R1.fresh q] at z;cases z
      ·rw[z,jao];exact fun q=>nomatch q
     ·obtain⟨p,p1,p2,p3⟩:=jog hd;have hO:p.2∉O:=fun z=>by
       have:=List.all_eq_true.mp hcf p (List.mem_of_getElem? p1);rw[zbc.mpr z] at this;cases this
      obtain⟨v,q1,q2⟩:=R1.val p.2 d p3 hO;exact⟨v,jp5 p1 p2 q1,by rw[jdo];exact q2.mono (vis (ja1 hD))⟩
    refine⟨fun i m σ' H'=>m=ds.length-i/\i<=ds.length/\CInv ρ X.K H1 F' Dd tot (jet h tc fe (ds.drop i)) σ' H',
     ⟨ds.length,by simp,Nat.zero_le _,_,[],[],tot,R0,jao,Reps.nil,hcd,rfl⟩,?_⟩
    rintro i m σ' H' ⟨rfl,hil,δ',done,zs,rest,R',hDd,rz,hr,htot⟩;have fv:Same (hid H1 (fob F σ O)) (hid H' (fob F' σ' [])):=by rw[jdo];exact vis R'.same
    obtain⟨j1,j2⟩:=it H' (fob F' σ' []) i fv fun p hp=>R'.fresh hp
    by_cases hlt:i<ds.length
    ·obtain⟨go,yld⟩:=j1 hlt;refine .inr ⟨go,CInv ρ X.K H1 F' Dd tot (jet h tc fe (ds.drop (i+1))),
      fun σ2 H2 q=>⟨ds.length-(i+1),by omega,rfl,hlt,q⟩,fun x H2 y=>?_⟩
     obtain⟨s2,d,hd,rd⟩:=yld x H2 y;have hdr:ds.drop i=d::ds.drop (i+1):=by
      rw[List.drop_eq_getElem_cons hlt];have:ds[i]=d:=by rw[zax hlt] at hd;exact zby hd
      rw[this]
     rw[hdr] at hr;unfold jet at hr
     cases e2:h d δ' with
     | none=>rw[e2] at hr;cases hr
     | some δ1 =>
      rw[e2] at hr;dsimp only at hr;refine⟨ρ,H1,F',δ',d,δ1,R'.mono s2,rd,e2,fun σ3 ef R3=>?_⟩;have keepD:∀ {H5:Hp},Same H2 H5->H5 Dd=some (.lst zs)/\Reps ρ X.K (hid H5 F') done zs:=fun {H5} e=>⟨e _ _ (s2 _ _ hDd),rz.mono (jap (s2.trans e))⟩
      split at hr
      ·rename_i e3;refine⟨ρ,H1,F',δ1,.ok true,R3,e3,fun H4 s4=>iteT ?_⟩
       split at hr
       ·rename_i yv e4;refine⟨ρ,H1,F',δ1,.ok yv,R3.mono s4,e4,fun v H5 s5 r5=>?_⟩;rw[jdo] at r5;obtain⟨k1,k2⟩:=keepD (s4.trans s5)
        cases e5:jet h tc fe (ds.drop (i+1)) δ1 with
        | none=>rw[e5] at hr;cases hr
        | some rest' =>
         rw[e5] at hr;have hr':yv::rest'=rest:=zby hr;have hFD:F' Dd=true:=(F't Dd).mpr (.inr rfl);have hh:hid (upd H5 Dd (.lst (zs++[v]))) F'=hid H5 F':=jgf hFD;refine⟨zs,k1,?_,δ1,done++[yv],zs++[v],rest',?_,jao,?_,e5,by rw[List.append_assoc,<- htot,<- hr'];rfl⟩
         ·have l1:=k2.length;have l2:=congrArg List.length htot;rw[zca,<- hr',List.length_cons] at l2;omega
         ·have R5:=R3.mono (s4.trans s5);refine⟨R5.len,jiv R5.same hD,fun b hb=>jjp (R5.fin b hb),fun j d' hj hO=>?_,fun j hj=>absurd hj (by simp),fun j hj=>absurd hj (by simp)⟩;obtain⟨v',w1,w2⟩:=R5.val j d' hj hO;refine⟨v',w1,?_⟩;rw[jdo] at w2 |-
          rw[hh];exact w2
         ·rw[hh];exact k2.append (Reps.cons r5 Reps.nil)
       ·cases hr
      ·rename_i e3;refine⟨ρ,H1,F',δ1,.ok false,R3,e3,fun H4 s4=>iteF ?_⟩;obtain⟨k1,k2⟩:=keepD s4;exact⟨δ1,done,zs,rest,R3.mono s4,k1,k2,hr,htot⟩
      ·cases hr
    ·have ei:i=ds.length:=by omega
     subst ei;rw[List.drop_length] at hr;cases hr;rw[List.append_nil] at htot;subst htot;refine .inl ⟨j2 rfl,k _ H' (s1.trans R'.same) ?_⟩;exact rep_lst.mpr ⟨Dd,zs,rfl,SqL.of (hid_some.mpr ⟨pf,hDd⟩),rz.mono (jee fun b q=>(F't b).mpr (.inl q))⟩
   ·cases hd'
 ·exact⟨ρ,Hz,F,δ,.error y,R,e1,k⟩
end
mutual
noncomputable def okD:D->Bool
 | .ty _=>false
 | .obj _=>false
 | .tup ds=>okDs ds
 | .lst ds=>okDs ds
 | _=>true
noncomputable def okDs:List D->Bool
 | []=>true
 | d::ds=>okD d&&okDs ds
end
mutual
noncomputable def depD:D->Nat
 | .tup ds=>depDs ds+1
 | .lst ds=>depDs ds+1
 | _=>0
noncomputable def depDs:List D->Nat
 | []=>0
 | d::ds=>max (depD d) (depDs ds)
end
mutual
noncomputable def eqB:D->D->Bool
 | .non,.non=>true
 | .bl a,.bl b=>a == b
 | .bl a,.int b=>(if a then 1 else 0) == b
 | .int a,.bl b=>a == (if b then 1 else 0)
 | .int a,.int b=>a == b
 | .str a,.str b=>a == b
 | .tup a,.tup b=>eqBs a b
 | .lst a,.lst b=>eqBs a b
 | _,_=>false
noncomputable def eqBs:List D->List D->Bool
 | [],[]=>true
 | a::as,b::bs=>eqB a b&&eqBs as bs
 | _,_=>false
end
mutual
theorem jhw:∀ d:D,okD d=true->eqB d d=true
 | .non,_=>by unfold eqB;rfl
 | .bl _,_=>by unfold eqB;simp
 | .int _,_=>by unfold eqB;simp
 | .str _,_=>by unfold eqB;simp
 | .ty _,h=>by unfold okD at h;cases h
 | .obj _,h=>by unfold okD at h;cases h
 | .tup ds,h=>by unfold okD at h;unfold eqB;exact eqBs_refl ds h
 | .lst ds,h=>by unfold okD at h;unfold eqB;exact eqBs_refl ds h
theorem eqBs_refl:∀ ds:List D,okDs ds=true->eqBs ds ds=true
 | [],_=>by unfold eqBs;rfl
 | d::ds,h=>by
  unfold okDs at h;rw[Bool.and_eq_true] at h;unfold eqBs;rw[jhw d h.1,eqBs_refl ds h.2];rfl
end
theorem jgs:∀ {as bs:List D},eqBs as bs=true->as.length=bs.length
 | [],[],_=>rfl
 | [],_::_,h=>by unfold eqBs at h;cases h
 | _::_,[],h=>by unfold eqBs at h;cases h
 | a::as,b::bs,h=>by
  unfold eqBs at h;rw[Bool.and_eq_true] at h;simp[jgs h.2]
theorem jgr:∀ {as bs:List D},as.length=bs.length->∀ (k:Nat->Bool),(∀ j a b,as[j]? = some a->bs[j]? = some b->k j=eqB a b)->(List.range as.length).all k=eqBs as bs
 | [],[],_,k,_=>by unfold eqBs;rfl
 | [],_::_,h,_,_=>by simp at h
 | _::_,[],h,_,_=>by simp at h
 | a::as,b::bs,h,k,hk=>by
  unfold eqBs;rw[List.length_cons,List.range_succ_eq_map,List.all_cons,List.all_map,hk 0 a b rfl rfl];congr 1;exact jgr (by simpa using h) (k ∘ Nat.succ) fun j x y e1 e2=>hk (j+1) x y (by simpa using e1) (by simpa using e2)
theorem jdt:∀ {ds:List D} {i:Nat} {d:D},okDs ds=true->ds[i]? = some d->okD d=true
 | [],_,_,_,e=>by simp at e
 | d::ds,0,x,h,e=>by unfold okDs at h;rw[Bool.and_eq_true] at h;simp at e;subst e;exact h.1
 | d::ds,i+1,x,h,e=>by unfold okDs at h;rw[Bool.and_eq_true] at h;exact jdt h.2 (by simpa using e)
theorem jff:∀ {ds:List D} {i:Nat} {d:D},ds[i]? = some d->depD d<=depDs ds
 | [],_,_,e=>by simp at e
 | d::ds,0,x,e=>by simp at e;subst e;unfold depDs;omega
 | d::ds,i+1,x,e=>by have:=jff (ds:=ds) (i:=i) (d:=x) (by simpa using e);unfold depDs;omega
section
variable {ρ:Rho}{X:Cx}{pins:List (Addr×Obj)}{σ:St}{H:Hp}{s:Shared}
theorem jzk{l:Addr}{xs ys:List V}(I:Inv X pins σ H s)(h1:SqT X.K H l xs)(h2:SqL X.K H l ys):False:=by
 obtain⟨i1,_,p1,_⟩:=I.tuple h1;obtain⟨i2,_,p2,_⟩:=I.list h2;exact SeqAt.ne_of_list_tuple p2.isList p1 rfl
mutual
theorem jms(I:Inv X pins σ H s):∀ {d e:D} {v:V},okD d=true->okD e=true->Rep ρ X.K H d v->Rep ρ X.K H e v->d=e
 | .non,e,v,_,oe,h,k=>by
  cases rep_non.mp h
  cases e with
  | non=>rfl
  | bl _=>exact nomatch rep_bl.mp k
  | int _=>exact nomatch rep_int.mp k
  | str _=>exact nomatch rep_str.mp k
  | ty _=>unfold okD at oe;cases oe
  | obj _=>unfold okD at oe;cases oe
  | tup _=>obtain⟨_,_,z,_⟩:=rep_tup.mp k;cases z
  | lst _=>obtain⟨_,_,z,_⟩:=rep_lst.mp k;cases z
 | .bl b,e,v,_,oe,h,k=>by
  cases rep_bl.mp h
  cases e with
  | non=>exact nomatch rep_non.mp k
  | bl _=>cases rep_bl.mp k;rfl
  | int _=>exact nomatch rep_int.mp k
  | str _=>exact nomatch rep_str.mp k
  | ty _=>unfold okD at oe;cases oe
  | obj _=>unfold okD at oe;cases oe
  | tup _=>obtain⟨_,_,z,_⟩:=rep_tup.mp k;cases z
  | lst _=>obtain⟨_,_,z,_⟩:=rep_lst.mp k;cases z
 | .int b,e,v,_,oe,h,k=>by
  cases rep_int.mp h
  cases e with
  | non=>exact nomatch rep_non.mp k
  | bl _=>exact nomatch rep_bl.mp k
  | int _=>cases rep_int.mp k;rfl
  | str _=>exact nomatch rep_str.mp k
  | ty _=>unfold okD at oe;cases oe
  | obj _=>unfold okD at oe;cases oe
  | tup _=>obtain⟨_,_,z,_⟩:=rep_tup.mp k;cases z
  | lst _=>obtain⟨_,_,z,_⟩:=rep_lst.mp k;cases z
 | .str b,e,v,_,oe,h,k=>by
  cases rep_str.mp h
  cases e with
  | non=>exact nomatch rep_non.mp k
  | bl _=>exact nomatch rep_bl.mp k
  | int _=>exact nomatch rep_int.mp k
  | str _=>cases rep_str.mp k;rfl
  | ty _=>unfold okD at oe;cases oe
  | obj _=>unfold okD at oe;cases oe
  | tup _=>obtain⟨_,_,z,_⟩:=rep_tup.mp k;cases z
  | lst _=>obtain⟨_,_,z,_⟩:=rep_lst.mp k;cases z
 | .ty _,_,_,od,_,_,_=>by unfold okD at od;cases od
 | .obj _,_,_,od,_,_,_=>by unfold okD at od;cases od
 | .tup ds,e,v,od,oe,h,k=>by
  obtain⟨a,xs,rfl,q1,q2⟩:=rep_tup.mp h
  cases e with
  | non=>exact nomatch rep_non.mp k
  | bl _=>exact nomatch rep_bl.mp k
  | int _=>exact nomatch rep_int.mp k
  | str _=>exact nomatch rep_str.mp k
  | ty _=>unfold okD at oe;cases oe
  | obj _=>unfold okD at oe;cases oe
  | tup es =>
   obtain⟨b,ys,z,p1,p2⟩:=rep_tup.mp k;cases z;rw[I.tuple_inj q1 p1] at q2;unfold okD at od oe;rw[reps_inj I od oe q2 p2]
  | lst es =>
   obtain⟨b,ys,z,p1,p2⟩:=rep_lst.mp k;cases z;exact (jzk I q1 p1).elim
 | .lst ds,e,v,od,oe,h,k=>by
  obtain⟨a,xs,rfl,q1,q2⟩:=rep_lst.mp h
  cases e with
  | non=>exact nomatch rep_non.mp k
  | bl _=>exact nomatch rep_bl.mp k
  | int _=>exact nomatch rep_int.mp k
  | str _=>exact nomatch rep_str.mp k
  | ty _=>unfold okD at oe;cases oe
  | obj _=>unfold okD at oe;cases oe
  | tup es =>
   obtain⟨b,ys,z,p1,p2⟩:=rep_tup.mp k;cases z;exact (jzk I p1 q1).elim
  | lst es =>
   obtain⟨b,ys,z,p1,p2⟩:=rep_lst.mp k;cases z;rw[I.list_inj q1 p1] at q2;unfold okD at od oe;rw[reps_inj I od oe q2 p2]
theorem reps_inj(I:Inv X pins σ H s):∀ {ds es:List D} {vs:List V},okDs ds=true->okDs es=true->Reps ρ X.K H ds vs->Reps ρ X.K H es vs->ds=es
 | [],[],_,_,_,_,_=>rfl
 | [],_::_,_,_,_,h,k=>by cases reps_nil.mp h;obtain⟨_,_,z,_⟩:=reps_cons.mp k;cases z
 | _::_,[],_,_,_,h,k=>by cases reps_nil.mp k;obtain⟨_,_,z,_⟩:=reps_cons.mp h;cases z
 | d::ds,e::es,vs,od,oe,h,k=>by
  obtain⟨v,r,rfl,h1,h2⟩:=reps_cons.mp h;obtain⟨v',r',z,k1,k2⟩:=reps_cons.mp k;cases z;unfold okDs at od oe;rw[Bool.and_eq_true] at od oe;rw[jms I od.1 oe.1 h1 k1,reps_inj I od.2 oe.2 h2 k2]
end
theorem jl7(I:Inv X pins σ H s):∀ (n:Nat) (A:Around) (d e:D) (v u:V) (a b:Value),depD d<=n->A.units+n+1<cLine->okD d=true->okD e=true->Rep ρ X.K H d v->Rep ρ X.K H e u->RelV v a->RelV u b ->
  SeqAt.RcAt A s a b (eqB d e)/\SeqAt.EqAt A s a b (eqB d e):=by
 intro n
 induction n with
 | zero =>
  intro A d e v u a b hd hu od oe rd re ra rb;have hu':A.units<cLine:=by omega
  have seqT:∀ {es:List D},Rep ρ X.K H (.tup es) u->∃ l its,b=.ref l/\s.heap.IsTuple l its:=fun h=>by
   obtain⟨l,xs,rfl,q1,_⟩:=rep_tup.mp h;obtain⟨its,_,p,_⟩:=I.tuple q1;exact⟨l,_,rb,p⟩
  have seqL:∀ {es:List D},Rep ρ X.K H (.lst es) u->∃ l its,b=.ref l/\s.heap.IsList l its:=fun h=>by
   obtain⟨l,xs,rfl,q1,_⟩:=rep_lst.mp h;obtain⟨its,_,p,_⟩:=I.list q1;exact⟨l,_,rb,p.isList⟩
  cases d with
  | ty _=>unfold okD at od;cases od
  | obj _=>unfold okD at od;cases od
  | tup _=>unfold depD at hd;omega
  | lst _=>unfold depD at hd;omega
  | non =>
   cases rep_non.mp rd;cases ra
   cases e with
   | ty _=>unfold okD at oe;cases oe
   | obj _=>unfold okD at oe;cases oe
   | non=>cases rep_non.mp re;cases rb;exact⟨SeqAt.RcAt.none_none,SeqAt.EqAt.same _⟩
   | bl y=>cases rep_bl.mp re;cases rb;exact⟨SeqAt.RcAt.none_bool _,SeqAt.EqAt.none_bool _⟩
   | int y=>cases rep_int.mp re;obtain⟨t,rfl⟩:=rb;exact⟨SeqAt.RcAt.none_int _ _,SeqAt.EqAt.none_int _ _⟩
   | str y=>cases rep_str.mp re;obtain⟨t,rfl⟩:=rb;exact⟨SeqAt.RcAt.none_str _ _,SeqAt.EqAt.none_str _ _⟩
   | tup es=>obtain⟨l,its,rfl,p⟩:=seqT re;exact⟨SeqAt.RcAt.none_tuple p hu',SeqAt.EqAt.none_tuple p hu'⟩
   | lst es=>obtain⟨l,its,rfl,p⟩:=seqL re;exact⟨SeqAt.RcAt.none_list p hu',SeqAt.EqAt.none_list p hu'⟩
  | bl x =>
   cases rep_bl.mp rd;cases ra
   cases e with
   | ty _=>unfold okD at oe;cases oe
   | obj _=>unfold okD at oe;cases oe
   | non=>cases rep_non.mp re;cases rb;exact⟨SeqAt.RcAt.bool_none _,SeqAt.EqAt.bool_none _⟩
   | bl y=>cases rep_bl.mp re;cases rb;exact⟨SeqAt.RcAt.bool_bool _ _,SeqAt.EqAt.bool_bool _ _⟩
   | int y=>cases rep_int.mp re;obtain⟨t,rfl⟩:=rb;exact⟨SeqAt.RcAt.bool_int _ _ _,SeqAt.EqAt.bool_int _ _ _⟩
   | str y=>cases rep_str.mp re;obtain⟨t,rfl⟩:=rb;exact⟨SeqAt.RcAt.bool_str _ _ _,SeqAt.EqAt.bool_str _ _ _⟩
   | tup es=>obtain⟨l,its,rfl,p⟩:=seqT re;exact⟨SeqAt.RcAt.bool_tuple _ p hu',SeqAt.EqAt.bool_tuple _ p hu'⟩
   | lst es=>obtain⟨l,its,rfl,p⟩:=seqL re;exact⟨SeqAt.RcAt.bool_list _ p hu',SeqAt.EqAt.bool_list _ p hu'⟩
  | int x =>
   cases rep_int.mp rd;obtain⟨ta,rfl⟩:=ra
   cases e with
   | ty _=>unfold okD at oe;cases oe
   | obj _=>unfold okD at oe;cases oe
   | non=>cases rep_non.mp re;cases rb;exact⟨SeqAt.RcAt.int_none _ _,SeqAt.EqAt.int_none _ _⟩
   | bl y=>cases rep_bl.mp re;cases rb;exact⟨SeqAt.RcAt.int_bool _ _ _,SeqAt.EqAt.int_bool _ _ _⟩
   | int y=>cases rep_int.mp re;obtain⟨t,rfl⟩:=rb;exact⟨SeqAt.RcAt.int_int _ _ _ _,SeqAt.EqAt.int_int _ _ _ _⟩
   | str y=>cases rep_str.mp re;obtain⟨t,rfl⟩:=rb;exact⟨SeqAt.RcAt.int_str _ _ _ _,SeqAt.EqAt.int_str _ _ _ _⟩
   | tup es=>obtain⟨l,its,rfl,p⟩:=seqT re;exact⟨SeqAt.RcAt.int_tuple _ _ p hu',SeqAt.EqAt.int_tuple _ _ p hu'⟩
   | lst es=>obtain⟨l,its,rfl,p⟩:=seqL re;exact⟨SeqAt.RcAt.int_list _ _ p hu',SeqAt.EqAt.int_list _ _ p hu'⟩
  | str x =>
   cases rep_str.mp rd;obtain⟨ta,rfl⟩:=ra
   cases e with
   | ty _=>unfold okD at oe;cases oe
   | obj _=>unfold okD at oe;cases oe
   | non=>cases rep_non.mp re;cases rb;exact⟨SeqAt.RcAt.str_none _ _,SeqAt.EqAt.str_none _ _⟩
   | bl y=>cases rep_bl.mp re;cases rb;exact⟨SeqAt.RcAt.str_bool _ _ _,SeqAt.EqAt.str_bool _ _ _⟩
   | int y=>cases rep_int.mp re;obtain⟨t,rfl⟩:=rb;exact⟨SeqAt.RcAt.str_int _ _ _ _,SeqAt.EqAt.str_int _ _ _ _⟩
   | str y=>cases rep_str.mp re;obtain⟨t,rfl⟩:=rb;exact⟨SeqAt.RcAt.str_str _ _ _ _,SeqAt.EqAt.str_str _ _ _ _⟩
   | tup es=>obtain⟨l,its,rfl,p⟩:=seqT re;exact⟨SeqAt.RcAt.str_tuple _ _ p hu',SeqAt.EqAt.str_tuple _ _ p hu'⟩
   | lst es=>obtain⟨l,its,rfl,p⟩:=seqL re;exact⟨SeqAt.RcAt.str_list _ _ p hu',SeqAt.EqAt.str_list _ _ p hu'⟩
 | succ n ih =>
  intro A d e v u a b hd hu od oe rd re ra rb;have hu':A.units<cLine:=by omega
  have hin:A.in1.units+n+1<cLine:=by show A.units+1+n+1<cLine;omega
  by_cases small:depD d<=n
  ·exact ih A d e v u a b small (by omega) od oe rd re ra rb
  ·-- the two are refs: the same,or apart
   have both:∀ {l m:Addr},v=.ref l->u=.ref m->a=.ref l->b=.ref m->SeqAt.RcAt A s a b (eqB d e)->SeqAt.RcAt A s a b (eqB d e)/\SeqAt.EqAt A s a b (eqB d e):=fun {l m} ev eu ea eb r=>by
    refine⟨r,?_⟩;subst ev eu ea eb
    by_cases z:l=m
    ·subst z;have:d=e:=jms I od oe rd re;subst this;rw[jhw d od];exact SeqAt.EqAt.same _
    ·exact SeqAt.EqAt.of_refs z r
   cases d with
   | ty _=>unfold okD at od;cases od
   | obj _=>unfold okD at od;cases od
   | non=>unfold depD at small;omega
   | bl _=>unfold depD at small;omega
   | int _=>unfold depD at small;omega
   | str _=>unfold depD at small;omega
   | tup ds =>
    obtain⟨l,xs,rfl,q1,q2⟩:=rep_tup.mp rd;cases ra;obtain⟨ix,rx,px,_⟩:=I.tuple q1;have px':s.heap.IsTuple l ix.toArray:=px;unfold okD at od;unfold depD at hd
    cases e with
    | ty _=>unfold okD at oe;cases oe
    | obj _=>unfold okD at oe;cases oe
    | non=>cases rep_non.mp re;cases rb;exact⟨SeqAt.RcAt.tuple_none px' hu',SeqAt.EqAt.tuple_none px' hu'⟩
    | bl y=>cases rep_bl.mp re;cases rb;exact⟨SeqAt.RcAt.tuple_bool _ px' hu',SeqAt.EqAt.tuple_bool _ px' hu'⟩
    | int y=>cases rep_int.mp re;obtain⟨t,rfl⟩:=rb;exact⟨SeqAt.RcAt.tuple_int _ _ px' hu',SeqAt.EqAt.tuple_int _ _ px' hu'⟩
    | str y=>cases rep_str.mp re;obtain⟨t,rfl⟩:=rb;exact⟨SeqAt.RcAt.tuple_str _ _ px' hu',SeqAt.EqAt.tuple_str _ _ px' hu'⟩
    | lst es =>
     obtain⟨m,ys,rfl,p1,p2⟩:=rep_lst.mp re;cases rb;obtain⟨iy,ry,py,_⟩:=I.list p1;unfold eqB;exact⟨SeqAt.RcAt.tuple_list px' py.isList hu',SeqAt.EqAt.tuple_list px' py.isList hu'⟩
    | tup es =>
     obtain⟨m,ys,rfl,p1,p2⟩:=rep_tup.mp re;cases rb;obtain⟨iy,ry,py,_⟩:=I.tuple p1;unfold okD at oe;refine both rfl rfl rfl rfl ?_;have lx:=rx.length;have ly:=ry.length;have mx:=q2.length;have my:=p2.length;have R:=SeqAt.RcAt.tuples (e:=fun j=>match ds[j]?,es[j]? with|some x,some y=>eqB x y|_,_=>false) px' (show s.heap.IsTuple m iy.toArray from py) hu' fun j h1 h2=>by
      have h1':j<ix.length:=by simpa using h1
      have h2':j<iy.length:=by simpa using h2
      have hj1:j<ds.length:=by omega
      have hj2:j<es.length:=by omega
      obtain⟨v1,e1,r1⟩:=q2.get (zax hj1);obtain⟨v2,e2,r2⟩:=p2.get (zax hj2);obtain⟨u1,f1,s1⟩:=rx.get e1;obtain⟨u2,f2,s2⟩:=ry.get e2;have g1:ix.toArray[j]=u1:=by rw[zax h1'] at f1;simpa using zby f1
      have g2:iy.toArray[j]=u2:=by rw[zax h2'] at f2;simpa using zby f2
      rw[g1,g2,zax hj1,zax hj2];have dd:=jff (zax hj1);exact (ih A.in1 _ _ v1 v2 u1 u2 (by omega) hin (jdt od (zax hj1)) (jdt oe (zax hj2)) r1 r2 s1 s2).2
     unfold eqB;have fin:((List.range (min ix.toArray.size iy.toArray.size)).all (fun j=>match ds[j]?,es[j]? with|some x,some y=>eqB x y|_,_=>false)&&ix.toArray.size == iy.toArray.size)=eqBs ds es:=by
      simp only[zbx]
      by_cases hl:ds.length=es.length
      ·have e1:min ix.length iy.length=ds.length:=by omega
       have e2:(ix.length == iy.length)=true:=by simp;omega
       rw[e1,e2,Bool.and_true];exact jgr hl _ fun j x y z1 z2=>by rw[z1,z2]
      ·have e2:(ix.length == iy.length)=false:=by simp;omega
       rw[e2,Bool.and_false]
       cases z:eqBs ds es with
       | false=>rfl
       | true=>exact absurd (jgs z) hl
     rw[fin] at R;exact R
   | lst ds =>
    obtain⟨l,xs,rfl,q1,q2⟩:=rep_lst.mp rd;cases ra;obtain⟨ix,rx,px,_⟩:=I.list q1;have px':s.heap.IsList l ix.toArray:=px.isList;unfold okD at od;unfold depD at hd
    cases e with
    | ty _=>unfold okD at oe;cases oe
    | obj _=>unfold okD at oe;cases oe
    | non=>cases rep_non.mp re;cases rb;exact⟨SeqAt.RcAt.list_none px' hu',SeqAt.EqAt.list_none px' hu'⟩
    | bl y=>cases rep_bl.mp re;cases rb;exact⟨SeqAt.RcAt.list_bool _ px' hu',SeqAt.EqAt.list_bool _ px' hu'⟩
    | int y=>cases rep_int.mp re;obtain⟨t,rfl⟩:=rb;exact⟨SeqAt.RcAt.list_int _ _ px' hu',SeqAt.EqAt.list_int _ _ px' hu'⟩
    | str y=>cases rep_str.mp re;obtain⟨t,rfl⟩:=rb;exact⟨SeqAt.RcAt.list_str _ _ px' hu',SeqAt.EqAt.list_str _ _ px' hu'⟩
    | tup es =>
     obtain⟨m,ys,rfl,p1,p2⟩:=rep_tup.mp re;cases rb;obtain⟨iy,ry,py,_⟩:=I.tuple p1;unfold eqB;exact⟨SeqAt.RcAt.list_tuple px' py hu',SeqAt.EqAt.list_tuple px' py hu'⟩
    | lst es =>
     obtain⟨m,ys,rfl,p1,p2⟩:=rep_lst.mp re;cases rb;obtain⟨iy,ry,py,_⟩:=I.list p1;unfold okD at oe;refine both rfl rfl rfl rfl ?_;have lx:=rx.length;have ly:=ry.length;have mx:=q2.length;have my:=p2.length;unfold eqB
     by_cases hl:ds.length=es.length
     ·have hsz:ix.toArray.size=iy.toArray.size:=by simp only[zbx];omega
      have R:=SeqAt.RcAt.lists (e:=fun j=>match ds[j]?,es[j]? with|some x,some y=>eqB x y|_,_=>false) px' py.isList hsz hu' fun j h1 h2=>by
       have h1':j<ix.length:=by simpa using h1
       have h2':j<iy.length:=by simpa using h2
       have hj1:j<ds.length:=by omega
       have hj2:j<es.length:=by omega
       obtain⟨v1,e1,r1⟩:=q2.get (zax hj1);obtain⟨v2,e2,r2⟩:=p2.get (zax hj2);obtain⟨u1,f1,s1⟩:=rx.get e1;obtain⟨u2,f2,s2⟩:=ry.get e2;have g1:ix.toArray[j]=u1:=by rw[zax h1'] at f1;simpa using zby f1
       have g2:iy.toArray[j]=u2:=by rw[zax h2'] at f2;simpa using zby f2
       rw[g1,g2,zax hj1,zax hj2];have dd:=jff (zax hj1);exact (ih A.in1 _ _ v1 v2 u1 u2 (by omega) hin (jdt od (zax hj1)) (jdt oe (zax hj2)) r1 r2 s1 s2).2
      have e1:ix.toArray.size=ds.length:=by simp only[zbx];omega
      rw[e1,jgr hl _ fun j x y z1 z2=>by rw[z1,z2]] at R;exact R
     ·have R:=SeqAt.RcAt.lists_lengths (s:=s) (A:=A) px' py.isList (by simp only[zbx];simp;omega) hu'
      cases z:eqBs ds es with
      | false=>exact R
      | true=>exact absurd (jgs z) hl
end
noncomputable def BIGN:Nat:=Classical.choose (⟨2 ^ 100000,rfl⟩:∃ n:Nat,n=2 ^ 100000)
theorem jo4:BIGN=2 ^ 100000:=Classical.choose_spec (⟨2 ^ 100000,rfl⟩:∃ n:Nat,n=2 ^ 100000)
noncomputable def BIG:Int:=(BIGN:Int)
noncomputable def DIVN:Nat:=Classical.choose (⟨2 ^ 9000,rfl⟩:∃ n:Nat,n=2 ^ 9000)
theorem jo6:DIVN=2 ^ 9000:=Classical.choose_spec (⟨2 ^ 9000,rfl⟩:∃ n:Nat,n=2 ^ 9000)
noncomputable def DIVB:Int:=(DIVN:Int)
noncomputable def jf2(i:Int):Bool:=decide (-BIG<i)&&decide (i<BIG)
noncomputable def gAdd:D->D->Option D
 | .int i,.int j=>some (.int (i+j))
 | .str x,.str y=>if x.length+y.length<=sizeLine then some (.str (x++y)) else none
 | _,_=>none
noncomputable def gSub:D->D->Option D
 | .int i,.int j=>some (.int (i-j))
 | _,_=>none
noncomputable def gMul:D->D->Option D
 | .int i,.int j=>if (jf2 i&&jf2 j)=true then some (.int (i*j)) else none
 | .str x,.int n=>if x.length<=4096/\-4096<=n/\n<=4096 then some (.str (Txt.mul x n)) else none
 | _,_=>none
noncomputable def gMod:D->D->Option D
 | .int i,.int j=>if 0<j then some (.int (i % j)) else none
 | _,_=>none
noncomputable def jbn:D->D->Option D
 | .int i,.int j=>if 0<j/\j<DIVB then some (.int (i / j)) else none
 | _,_=>none
noncomputable def gPow:D->D->Option D
 | .int i,.int j=>if 0<=j/\j<=1000/\-(2 ^ 60)<i/\i<2 ^ 60 then some (.int (i ^ j.toNat)) else none
 | _,_=>none
noncomputable def gCmp(p:Int->Int->Bool)(q:Str->Str->Bool):D->D->Option D
 | .int i,.int j=>some (.bl (p i j))
 | .str x,.str y=>some (.bl (q x y))
 | _,_=>none
noncomputable def gLt:=gCmp (fun i j=>decide (i<j)) (fun x y=>decide (x.cps.toList<y.cps.toList))
noncomputable def gLe:=gCmp (fun i j=>decide (i<=j)) (fun x y=>!decide (y.cps.toList<x.cps.toList))
noncomputable def gGt:=gCmp (fun i j=>decide (j<i)) (fun x y=>decide (y.cps.toList<x.cps.toList))
noncomputable def gGe:=gCmp (fun i j=>decide (j<=i)) (fun x y=>!decide (x.cps.toList<y.cps.toList))
noncomputable def gEq:D->D->Option D:=fun x y=>if (okD x&&okD y&&decide (depD x<=20))=true then some (.bl (eqB x y)) else none
noncomputable def gNe:D->D->Option D:=fun x y=>if (okD x&&okD y&&decide (depD x<=20))=true then some (.bl !(eqB x y)) else none
noncomputable def juh:D->Bool
 | .non=>true
 | _=>false
noncomputable def jni:D->D->Option D
 | x,.non=>some (.bl !(juh x))
 | _,_=>none
noncomputable def gNeg:D->Option D
 | .int i=>some (.int (-i))
 | _=>none
noncomputable def gIx:D->D->Option D
 | .lst ds,.int i=>atI ds i
 | .tup ds,.int i=>atI ds i
 | .str z,.int i=>if z.length<=sizeLine then (atI z.cps.toList i).map fun c=>.str ⟨#[c]⟩ else none
 | _,_=>none
theorem jm5{i:Int}(h:jf2 i=true):Builtin.Int.intBits i<=100001:=by
 unfold jf2 at h;rw[Bool.and_eq_true,decide_eq_true_eq,decide_eq_true_eq] at h;unfold Builtin.Int.intBits
 split
 ·omega
 ·have hn:i.natAbs≠0:=by
   intro z;have:i=0:=by omega
   subst this;simp at *
  have hlt:i.natAbs<BIGN:=by
   unfold BIG at h;omega
  rw[jo4] at hlt;have:=(Nat.log2_lt (k:=100000) hn).mpr hlt;omega
theorem jvf{i j:Int}(h1:jf2 i=true)(h2:jf2 j=true):IntMulOk i j:=by
 have b1:=jm5 h1;have b2:=jm5 h2;unfold IntMulOk;have:Builtin.Int.intTooBig ((Builtin.Int.intBits i:Int)+(Builtin.Int.intBits j:Int))=false:=by
  unfold Builtin.Int.intTooBig bitsLine;simp;omega
 intro h;rw[Bool.and_eq_true] at h;have h2:=h.2
 first
  | (rw[this] at h2;cases h2)
  | (push_cast at h2;rw[this] at h2;cases h2)
section
variable {X:Cx}
theorem op_addD:OpR X (binaryOp .Add) (fun x y H Q=>rI0 (fun i j=>.int (i+j)) x y H Q\/∃ i j,x=.str i/\y=.str j/\i.length+j.length<=sizeLine/\Q (.str (i++j)) H):=op_add.or joq
theorem jha:OpD X.K gSub (rI0 fun i j=>.int (i-j)):=by
 intro x y d hd ρ H G u v Q hG ru rv k;unfold gSub at hd
 split at hd
 ·cases hd;exact⟨_,_,rep_int.mp ru,rep_int.mp rv,k _ H (Same.refl H) (rep_int.mpr rfl)⟩
 ·cases hd
theorem op_mulD:OpR X (binaryOp .Mult) (fun x y H Q=>rI (fun i j=>(jf2 i&&jf2 j)=true) (fun i j=>.int (i*j)) x y H Q\/∃ z n,x=.str z/\y=.int n/\(z.length<=4096/\-4096<=n/\n<=4096)/\Q (.str (Txt.mul z n)) H):=by
 refine OpR.or (opI fun i j t u s E Q hc q=>PyProof.Rows.mul_int q (by rw[Bool.and_eq_true] at hc;exact jvf hc.1 hc.2)) ?_;intro pins s σ H x y v u Q I rx ry h;obtain⟨z,n,rfl,rfl,⟨h1,h2,h3⟩,q⟩:=h;obtain⟨t,rfl⟩:=rx;obtain⟨t',rfl⟩:=ry;refine SB.mul (PyProof.Rows.mulOk_of 4096 4096 h1 h3 (by omega) (by decide) (by decide)) fun t' k=>⟨.str (Txt.mul z n),H,I.tok _,⟨_,rfl⟩,q⟩
theorem jw1:OpD X.K gMul (fun x y H Q=>rI (fun i j=>(jf2 i&&jf2 j)=true) (fun i j=>.int (i*j)) x y H Q\/∃ z n,x=.str z/\y=.int n/\(z.length<=4096/\-4096<=n/\n<=4096)/\Q (.str (Txt.mul z n)) H):=by
 intro x y d hd ρ H G u v Q hG ru rv k;unfold gMul at hd
 split at hd
 ·split at hd
  ·rename_i hz;cases hd;exact .inl ⟨_,_,rep_int.mp ru,rep_int.mp rv,hz,k _ H (Same.refl H) (rep_int.mpr rfl)⟩
  ·cases hd
 ·split at hd
  ·rename_i hz;cases hd;exact .inr ⟨_,_,rep_str.mp ru,rep_int.mp rv,hz,k _ H (Same.refl H) (rep_str.mpr rfl)⟩
  ·cases hd
 ·cases hd
theorem jav:OpD X.K gMod (rI (fun _ j=>0<j) fun i j=>.int (i % j)):=by
 intro x y d hd ρ H G u v Q hG ru rv k;unfold gMod at hd
 split at hd
 ·split at hd
  ·rename_i hz;cases hd;exact⟨_,_,rep_int.mp ru,rep_int.mp rv,hz,k _ H (Same.refl H) (rep_int.mpr rfl)⟩
  ·cases hd
 ·cases hd
theorem ja7:OpR X (binaryOp .FloorDiv) (rI (fun _ j=>0<j/\j<DIVB) fun i j=>.int (i / j)):=opI fun i j t u s E Q hc q=>by
 have e:i.fdiv j=i / j:=Int.fdiv_eq_ediv_of_nonneg i (Int.le_of_lt hc.1);refine PyProof.Rows.floordiv_int (by omega) (by rw[e];exact q) (.inl (PyProof.noPylong_of_log2 ?_));have hn:j.natAbs≠0:=by omega
 have hlt:j.natAbs<DIVN:=by
  have:=hc.2;unfold DIVB at this;omega
 rw[jo6] at hlt;exact (Nat.log2_lt (k:=9000) hn).mpr hlt
theorem ja8:OpD X.K jbn (rI (fun _ j=>0<j/\j<DIVB) fun i j=>.int (i / j)):=by
 intro x y d hd ρ H G u v Q hG ru rv k;unfold jbn at hd
 split at hd
 ·split at hd
  ·rename_i hz;cases hd;exact⟨_,_,rep_int.mp ru,rep_int.mp rv,hz,k _ H (Same.refl H) (rep_int.mpr rfl)⟩
  ·cases hd
 ·cases hd
theorem jg9:OpD X.K gPow (rI CPow fun i j=>.int (i ^ j.toNat)):=by
 intro x y d hd ρ H G u v Q hG ru rv k;unfold gPow at hd
 split at hd
 ·split at hd
  ·rename_i hz;cases hd;exact⟨_,_,rep_int.mp ru,rep_int.mp rv,⟨hz.1,by omega,by omega⟩,k _ H (Same.refl H) (rep_int.mpr rfl)⟩
  ·cases hd
 ·cases hd
theorem jdq{p:Int->Int->Bool}{q:Str->Str->Bool}:OpD X.K (gCmp p q) (fun x y H Q=>rI0 (fun i j=>.bl (p i j)) x y H Q\/∃ i j,x=.str i/\y=.str j/\Q (.bl (q i j)) H):=by
 intro x y d hd ρ H G u v Q hG ru rv k;unfold gCmp at hd
 split at hd
 ·cases hd;exact .inl ⟨_,_,rep_int.mp ru,rep_int.mp rv,k _ H (Same.refl H) (rep_bl.mpr rfl)⟩
 ·cases hd;exact .inr ⟨_,_,rep_str.mp ru,rep_str.mp rv,k _ H (Same.refl H) (rep_bl.mpr rfl)⟩
 ·cases hd
theorem jq2{op:CmpOp}{q:Str->Str->Bool}(h:∀ {prog:Program} {w:World} {A:Around} {E:Value->Shared->Prop} {s:Shared} {Q:Value->Shared->Prop} (x y:Str) (t u:Tok),Q (.bool (q x y)) s->wpAny (model prog w) A (compareOp op (.str x t) (.str y u)) Q E s) :
  OpR X (compareOp op) (fun x y H Q=>∃ i j,x=.str i/\y=.str j/\Q (.bl (q i j)) H):=by
 intro pins s σ H x y v u Q I rx ry k;obtain⟨i,j,rfl,rfl,k⟩:=k;obtain⟨t,rfl⟩:=rx;obtain⟨t',rfl⟩:=ry;exact h i j t t' ⟨.bl (q i j),H,I,rfl,k⟩
theorem jq0:OpR X (compareOp .Lt) (fun x y H Q=>rI0 (fun i j=>.bl (decide (i<j))) x y H Q\/∃ i j,x=.str i/\y=.str j/\Q (.bl (decide (i.cps.toList<j.cps.toList))) H):=op_lt.or jq1
theorem jir:OpR X (compareOp .LtE) (fun x y H Q=>rI0 (fun i j=>.bl (decide (i<=j))) x y H Q\/∃ i j,x=.str i/\y=.str j/\Q (.bl (!decide (j.cps.toList<i.cps.toList))) H):=op_le.or (jq2 fun x y t u h=>P.le_str h)
theorem jux:OpR X (compareOp .Gt) (fun x y H Q=>rI0 (fun i j=>.bl (decide (j<i))) x y H Q\/∃ i j,x=.str i/\y=.str j/\Q (.bl (decide (j.cps.toList<i.cps.toList))) H):=op_gt.or (jq2 fun x y t u h=>P.gt_str h)
noncomputable def rEqD(K:W.Frag)(neg:Bool):R2:=fun u v H Q=>∃ ρ x y,okD x=true/\okD y=true/\depD x<=20/\Rep ρ K H x u/\Rep ρ K H y v/\Q (.bl (if neg then !eqB x y else eqB x y)) H
theorem jdr(hu:X.A.units+30<cLine):OpR X (compareOp .Eq) (rEqD X.K false):=by
 intro pins s σ H x y v u Q I rx ry h;obtain⟨ρ,d,e,o1,o2,hd,r1,r2,q⟩:=h;exact (jl7 I 20 X.A d e x y v u hd (by omega) o1 o2 r1 r2 rx ry).1 _ _ _ _ ⟨.bl (eqB d e),H,I,rfl,q⟩
theorem jd5:OpD X.K gEq (rEqD X.K false):=by
 intro x y d hd ρ H G u v Q hG ru rv k;unfold gEq at hd
 split at hd
 ·rename_i h;rw[Bool.and_eq_true,Bool.and_eq_true,decide_eq_true_eq] at h;cases hd;exact⟨ρ,x,y,h.1.1,h.1.2,h.2,ru.mono jaj,rv.mono jaj,k _ H (Same.refl H) (rep_bl.mpr rfl)⟩
 ·cases hd
theorem jq4:OpD X.K gNe (rEqD X.K true):=by
 intro x y d hd ρ H G u v Q hG ru rv k;unfold gNe at hd
 split at hd
 ·rename_i h;rw[Bool.and_eq_true,Bool.and_eq_true,decide_eq_true_eq] at h;cases hd;exact⟨ρ,x,y,h.1.1,h.1.2,h.2,ru.mono jaj,rv.mono jaj,k _ H (Same.refl H) (rep_bl.mpr rfl)⟩
 ·cases hd
theorem jqv{ρ:Rho}{pins:List (Addr×Obj)}{σ:St}{H:Hp}{s:Shared}(I:Inv X pins σ H s)(A:Around){ds es:List D}{v u:V}{a b:Value}(hd:depD (.tup ds)<=20)(hu:A.units+24<cLine)(od:okD (.tup ds)=true)(oe:okD (.tup es)=true)
  (rd:Rep ρ X.K H (.tup ds) v) (re:Rep ρ X.K H (.tup es) u) (ra:RelV v a) (rb:RelV u b):SeqAt.RcNeAt A s a b (!eqB (.tup ds) (.tup es)):=by
 have hu':A.units<cLine:=by omega
 obtain⟨l,xs,rfl,q1,q2⟩:=rep_tup.mp rd;obtain⟨m,ys,rfl,p1,p2⟩:=rep_tup.mp re;cases ra;cases rb;obtain⟨ix,rx,px,_⟩:=I.tuple q1;obtain⟨iy,ry,py,_⟩:=I.tuple p1;unfold okD at od oe;unfold depD at hd;have lx:=rx.length;have ly:=ry.length;have mx:=q2.length;have my:=p2.length;have R:=SeqAt.RcNeAt.tuples (A:=A) (e:=fun j=>match ds[j]?,es[j]? with|some x,some y=>eqB x y|_,_=>false) (show s.heap.IsTuple l ix.toArray from px) (show s.heap.IsTuple m iy.toArray from py) hu' fun j h1 h2=>by
  have h1':j<ix.length:=by simpa using h1
  have h2':j<iy.length:=by simpa using h2
  have hj1:j<ds.length:=by omega
  have hj2:j<es.length:=by omega
  obtain⟨v1,e1,r1⟩:=q2.get (zax hj1);obtain⟨v2,e2,r2⟩:=p2.get (zax hj2);obtain⟨u1,f1,s1⟩:=rx.get e1;obtain⟨u2,f2,s2⟩:=ry.get e2;have g1:ix.toArray[j]=u1:=by rw[zax h1'] at f1;simpa using zby f1
  have g2:iy.toArray[j]=u2:=by rw[zax h2'] at f2;simpa using zby f2
  rw[g1,g2,zax hj1,zax hj2];have dd:=jff (zax hj1);exact (jl7 I 20 A.in1 _ _ v1 v2 u1 u2 (by omega) (by show A.units+1+20+1<cLine;omega) (jdt od (zax hj1)) (jdt oe (zax hj2)) r1 r2 s1 s2).2
 unfold eqB;have fin:((List.range (min ix.toArray.size iy.toArray.size)).all (fun j=>match ds[j]?,es[j]? with|some x,some y=>eqB x y|_,_=>false)&&ix.toArray.size == iy.toArray.size)=eqBs ds es:=by
  simp only[zbx]
  by_cases hl:ds.length=es.length
  ·have e1:min ix.length iy.length=ds.length:=by omega
   have e2:(ix.length == iy.length)=true:=by simp;omega
   rw[e1,e2,Bool.and_true];exact jgr hl _ fun j x y z1 z2=>by rw[z1,z2]
  ·have e2:(ix.length == iy.length)=false:=by simp;omega
   rw[e2,Bool.and_false]
   cases z:eqBs ds es with
   | false=>rfl
   | true=>exact absurd (jgs z) hl
 rw[fin] at R;exact R
theorem jtf{ρ:Rho}{pins:List (Addr×Obj)}{σ:St}{H:Hp}{s:Shared}(I:Inv X pins σ H s)(A:Around){ds es:List D}{v u:V}{a b:Value}(hd:depD (.lst ds)<=20)(hu:A.units+24<cLine)(od:okD (.lst ds)=true)(oe:okD (.lst es)=true)
  (rd:Rep ρ X.K H (.lst ds) v) (re:Rep ρ X.K H (.lst es) u) (ra:RelV v a) (rb:RelV u b):SeqAt.RcNeAt A s a b (!eqB (.lst ds) (.lst es)):=by
 have hu':A.units<cLine:=by omega
 obtain⟨l,xs,rfl,q1,q2⟩:=rep_lst.mp rd;obtain⟨m,ys,rfl,p1,p2⟩:=rep_lst.mp re;cases ra;cases rb;obtain⟨ix,rx,px,_⟩:=I.list q1;obtain⟨iy,ry,py,_⟩:=I.list p1;unfold okD at od oe;unfold depD at hd;have lx:=rx.length;have ly:=ry.length;have mx:=q2.length;have my:=p2.length;unfold eqB
 by_cases hl:ds.length=es.length
 ·have hsz:ix.toArray.size=iy.toArray.size:=by simp only[zbx];omega
  have R:=SeqAt.RcNeAt.lists (A:=A) (e:=fun j=>match ds[j]?,es[j]? with|some x,some y=>eqB x y|_,_=>false) px.isList py.isList hsz hu' fun j h1 h2=>by
   have h1':j<ix.length:=by simpa using h1
   have h2':j<iy.length:=by simpa using h2
   have hj1:j<ds.length:=by omega
   have hj2:j<es.length:=by omega
   obtain⟨v1,e1,r1⟩:=q2.get (zax hj1);obtain⟨v2,e2,r2⟩:=p2.get (zax hj2);obtain⟨u1,f1,s1⟩:=rx.get e1;obtain⟨u2,f2,s2⟩:=ry.get e2;have g1:ix.toArray[j]=u1:=by rw[zax h1'] at f1;simpa using zby f1
   have g2:iy.toArray[j]=u2:=by rw[zax h2'] at f2;simpa using zby f2
   rw[g1,g2,zax hj1,zax hj2];have dd:=jff (zax hj1);exact (jl7 I 20 A.in1 _ _ v1 v2 u1 u2 (by omega) (by show A.units+1+20+1<cLine;omega) (jdt od (zax hj1)) (jdt oe (zax hj2)) r1 r2 s1 s2).2
  have e1:ix.toArray.size=ds.length:=by simp only[zbx];omega
  rw[e1,jgr hl _ fun j x y z1 z2=>by rw[z1,z2]] at R;exact R
 ·have R:=SeqAt.RcNeAt.lists_lengths (s:=s) (A:=A) px.isList py.isList (by simp only[zbx];simp;omega) hu'
  cases z:eqBs ds es with
  | false=>exact R
  | true=>exact absurd (jgs z) hl
theorem jz4{ρ:Rho}{pins:List (Addr×Obj)}{σ:St}{H:Hp}{s:Shared}(I:Inv X pins σ H s)(A:Around)(d e:D)(v u:V)(a b:Value)(hd:depD d<=20)(hu:A.units+24<cLine)(od:okD d=true)(oe:okD e=true)(rd:Rep ρ X.K H d v)(re:Rep ρ X.K H e u)(ra:RelV v a)(rb:RelV u b) :
  SeqAt.RcNeAt A s a b (!eqB d e):=by
 have hu':A.units<cLine:=by omega
 have seqT:∀ {es:List D} {w:V} {c:Value},Rep ρ X.K H (.tup es) w->RelV w c->∃ l its,c=.ref l/\s.heap.IsTuple l its:=fun h rc=>by
  obtain⟨l,xs,rfl,q1,_⟩:=rep_tup.mp h;obtain⟨its,_,p,_⟩:=I.tuple q1;exact⟨l,_,rc,p⟩
 have seqL:∀ {es:List D} {w:V} {c:Value},Rep ρ X.K H (.lst es) w->RelV w c->∃ l its,c=.ref l/\s.heap.IsList l its:=fun h rc=>by
  obtain⟨l,xs,rfl,q1,_⟩:=rep_lst.mp h;obtain⟨its,_,p,_⟩:=I.list q1;exact⟨l,_,rc,p.isList⟩
 cases d with
 | ty _=>unfold okD at od;cases od
 | obj _=>unfold okD at od;cases od
 | non =>
  cases e with
  | ty _=>unfold okD at oe;cases oe
  | obj _=>unfold okD at oe;cases oe
  | non=>cases rep_non.mp rd;cases ra;cases rep_non.mp re;cases rb;unfold eqB;exact SeqAt.RcNeAt.none_none
  | bl y=>cases rep_non.mp rd;cases ra;cases rep_bl.mp re;cases rb;unfold eqB;exact SeqAt.RcNeAt.none_bool _
  | int y=>cases rep_non.mp rd;cases ra;cases rep_int.mp re;obtain⟨t2,rfl⟩:=rb;unfold eqB;exact SeqAt.RcNeAt.none_int _ _
  | str y=>cases rep_non.mp rd;cases ra;cases rep_str.mp re;obtain⟨t2,rfl⟩:=rb;unfold eqB;exact SeqAt.RcNeAt.none_str _ _
  | tup y=>cases rep_non.mp rd;cases ra;obtain⟨l2,i2,rfl,p2⟩:=seqT re rb;unfold eqB;exact SeqAt.RcNeAt.none_tuple p2 hu'
  | lst y=>cases rep_non.mp rd;cases ra;obtain⟨l2,i2,rfl,p2⟩:=seqL re rb;unfold eqB;exact SeqAt.RcNeAt.none_list p2 hu'
 | bl x =>
  cases e with
  | ty _=>unfold okD at oe;cases oe
  | obj _=>unfold okD at oe;cases oe
  | non=>cases rep_bl.mp rd;cases ra;cases rep_non.mp re;cases rb;unfold eqB;exact SeqAt.RcNeAt.bool_none _
  | bl y=>cases rep_bl.mp rd;cases ra;cases rep_bl.mp re;cases rb;unfold eqB;exact SeqAt.RcNeAt.bool_bool _ _
  | int y=>cases rep_bl.mp rd;cases ra;cases rep_int.mp re;obtain⟨t2,rfl⟩:=rb;unfold eqB;exact SeqAt.RcNeAt.bool_int _ _ _
  | str y=>cases rep_bl.mp rd;cases ra;cases rep_str.mp re;obtain⟨t2,rfl⟩:=rb;unfold eqB;exact SeqAt.RcNeAt.bool_str _ _ _
  | tup y=>cases rep_bl.mp rd;cases ra;obtain⟨l2,i2,rfl,p2⟩:=seqT re rb;unfold eqB;exact SeqAt.RcNeAt.bool_tuple _ p2 hu'
  | lst y=>cases rep_bl.mp rd;cases ra;obtain⟨l2,i2,rfl,p2⟩:=seqL re rb;unfold eqB;exact SeqAt.RcNeAt.bool_list _ p2 hu'
 | int x =>
  cases e with
  | ty _=>unfold okD at oe;cases oe
  | obj _=>unfold okD at oe;cases oe
  | non=>cases rep_int.mp rd;obtain⟨t1,rfl⟩:=ra;cases rep_non.mp re;cases rb;unfold eqB;exact SeqAt.RcNeAt.int_none _ _
  | bl y=>cases rep_int.mp rd;obtain⟨t1,rfl⟩:=ra;cases rep_bl.mp re;cases rb;unfold eqB;exact SeqAt.RcNeAt.int_bool _ _ _
  | int y=>cases rep_int.mp rd;obtain⟨t1,rfl⟩:=ra;cases rep_int.mp re;obtain⟨t2,rfl⟩:=rb;unfold eqB;exact SeqAt.RcNeAt.int_int _ _ _ _
  | str y=>cases rep_int.mp rd;obtain⟨t1,rfl⟩:=ra;cases rep_str.mp re;obtain⟨t2,rfl⟩:=rb;unfold eqB;exact SeqAt.RcNeAt.int_str _ _ _ _
  | tup y=>cases rep_int.mp rd;obtain⟨t1,rfl⟩:=ra;obtain⟨l2,i2,rfl,p2⟩:=seqT re rb;unfold eqB;exact SeqAt.RcNeAt.int_tuple _ _ p2 hu'
  | lst y=>cases rep_int.mp rd;obtain⟨t1,rfl⟩:=ra;obtain⟨l2,i2,rfl,p2⟩:=seqL re rb;unfold eqB;exact SeqAt.RcNeAt.int_list _ _ p2 hu'
 | str x =>
  cases e with
  | ty _=>unfold okD at oe;cases oe
  | obj _=>unfold okD at oe;cases oe
  | non=>cases rep_str.mp rd;obtain⟨t1,rfl⟩:=ra;cases rep_non.mp re;cases rb;unfold eqB;exact SeqAt.RcNeAt.str_none _ _
  | bl y=>cases rep_str.mp rd;obtain⟨t1,rfl⟩:=ra;cases rep_bl.mp re;cases rb;unfold eqB;exact SeqAt.RcNeAt.str_bool _ _ _
  | int y=>cases rep_str.mp rd;obtain⟨t1,rfl⟩:=ra;cases rep_int.mp re;obtain⟨t2,rfl⟩:=rb;unfold eqB;exact SeqAt.RcNeAt.str_int _ _ _ _
  | str y=>cases rep_str.mp rd;obtain⟨t1,rfl⟩:=ra;cases rep_str.mp re;obtain⟨t2,rfl⟩:=rb;unfold eqB;exact SeqAt.RcNeAt.str_str _ _ _ _
  | tup y=>cases rep_str.mp rd;obtain⟨t1,rfl⟩:=ra;obtain⟨l2,i2,rfl,p2⟩:=seqT re rb;unfold eqB;exact SeqAt.RcNeAt.str_tuple _ _ p2 hu'
  | lst y=>cases rep_str.mp rd;obtain⟨t1,rfl⟩:=ra;obtain⟨l2,i2,rfl,p2⟩:=seqL re rb;unfold eqB;exact SeqAt.RcNeAt.str_list _ _ p2 hu'
 | tup x =>
  cases e with
  | ty _=>unfold okD at oe;cases oe
  | obj _=>unfold okD at oe;cases oe
  | non=>obtain⟨l1,i1,rfl,p1⟩:=seqT rd ra;cases rep_non.mp re;cases rb;unfold eqB;exact SeqAt.RcNeAt.tuple_none p1 hu'
  | bl y=>obtain⟨l1,i1,rfl,p1⟩:=seqT rd ra;cases rep_bl.mp re;cases rb;unfold eqB;exact SeqAt.RcNeAt.tuple_bool _ p1 hu'
  | int y=>obtain⟨l1,i1,rfl,p1⟩:=seqT rd ra;cases rep_int.mp re;obtain⟨t2,rfl⟩:=rb;unfold eqB;exact SeqAt.RcNeAt.tuple_int _ _ p1 hu'
  | str y=>obtain⟨l1,i1,rfl,p1⟩:=seqT rd ra;cases rep_str.mp re;obtain⟨t2,rfl⟩:=rb;unfold eqB;exact SeqAt.RcNeAt.tuple_str _ _ p1 hu'
  | tup y=>exact jqv I A hd hu od oe rd re ra rb
  | lst y=>obtain⟨l1,i1,rfl,p1⟩:=seqT rd ra;obtain⟨l2,i2,rfl,p2⟩:=seqL re rb;unfold eqB;exact SeqAt.RcNeAt.tuple_list p1 p2 hu'
 | lst x =>
  cases e with
  | ty _=>unfold okD at oe;cases oe
  | obj _=>unfold okD at oe;cases oe
  | non=>obtain⟨l1,i1,rfl,p1⟩:=seqL rd ra;cases rep_non.mp re;cases rb;unfold eqB;exact SeqAt.RcNeAt.list_none p1 hu'
  | bl y=>obtain⟨l1,i1,rfl,p1⟩:=seqL rd ra;cases rep_bl.mp re;cases rb;unfold eqB;exact SeqAt.RcNeAt.list_bool _ p1 hu'
  | int y=>obtain⟨l1,i1,rfl,p1⟩:=seqL rd ra;cases rep_int.mp re;obtain⟨t2,rfl⟩:=rb;unfold eqB;exact SeqAt.RcNeAt.list_int _ _ p1 hu'
  | str y=>obtain⟨l1,i1,rfl,p1⟩:=seqL rd ra;cases rep_str.mp re;obtain⟨t2,rfl⟩:=rb;unfold eqB;exact SeqAt.RcNeAt.list_str _ _ p1 hu'
  | tup y=>obtain⟨l1,i1,rfl,p1⟩:=seqL rd ra;obtain⟨l2,i2,rfl,p2⟩:=seqT re rb;unfold eqB;exact SeqAt.RcNeAt.list_tuple p1 p2 hu'
  | lst y=>exact jtf I A hd hu od oe rd re ra rb
theorem jnq(hu:X.A.units+30<cLine):OpR X (compareOp .NotEq) (rEqD X.K true):=by
 intro pins s σ H x y v u Q I rx ry h;obtain⟨ρ,d,e,o1,o2,hd,r1,r2,q⟩:=h;exact jz4 I X.A d e x y v u hd (by omega) o1 o2 r1 r2 rx ry _ _ _ _ ⟨.bl (!eqB d e),H,I,rfl,q⟩
theorem jxt:UnD X.K gNeg (rU fun i=>.int (-i)):=by
 intro x d hd ρ H G u Q hG ru k
 cases x with
 | int i=>cases hd;exact⟨i,rep_int.mp ru,k _ H (Same.refl H) (rep_int.mpr rfl)⟩
 | _=>cases hd
theorem jmt{ρ:Rho}{K:W.Frag}{H:Hp}{ds:List D}{xs:List V}{i:Int}{d:D}(h:Reps ρ K H ds xs)(e:atI ds i=some d):∃ v,atI xs i=some v/\Rep ρ K H d v:=by
 unfold atI at e |-
 rw[h.length]
 cases z:ixN ds.length i with
 | none=>rw[z] at e;cases e
 | some j=>rw[z] at e;exact h.get e
theorem jam:OpD X.K gIx (rIx X.K):=by
 intro x y d hd ρ H G u v Q hG ru rv k;unfold gIx at hd
 split at hd
 ·obtain⟨a,xs,rfl,q1,q2⟩:=rep_lst.mp ru;obtain⟨w,e,r⟩:=jmt q2 hd;exact .inl ⟨a,xs,_,w,rfl,rep_int.mp rv,jcm jaj q1,e,k w H (Same.refl H) r⟩
 ·obtain⟨a,xs,rfl,q1,q2⟩:=rep_tup.mp ru;obtain⟨w,e,r⟩:=jmt q2 hd;exact .inr (.inl ⟨a,xs,_,w,rfl,rep_int.mp rv,jc1 jaj q1,e,k w H (Same.refl H) r⟩)
 ·split at hd
  ·rename_i z i hz
   cases e:atI z.cps.toList i with
   | none=>rw[e] at hd;cases hd
   | some c =>
    rw[e] at hd;cases hd;exact .inr (.inr ⟨z,i,c,rep_str.mp ru,rep_int.mp rv,hz,e,k _ H (Same.refl H) (rep_str.mpr rfl)⟩)
  ·cases hd
 ·cases hd
noncomputable def kLen:List D->Option D
 | [.lst ds]=>some (.int ds.length)
 | [.tup ds]=>some (.int ds.length)
 | [.str z]=>if z.length<=sizeLine then some (.int z.length) else none
 | _=>none
theorem jgk{ρ:Rho}{K:W.Frag}{H:Hp}{d:D}{vs:List V}(h:Reps ρ K H [d] vs):∃ v,vs=[v]/\Rep ρ K H d v:=by
 obtain⟨v,r,rfl,q1,q2⟩:=reps_cons.mp h;cases reps_nil.mp q2;exact⟨v,rfl,q1⟩
theorem jbc:CallR X (.builtin "len") (fun xs H Q=>(∃ p ys,xs=[.ref p]/\(SqL X.K H p ys\/SqT X.K H p ys)/\Q (.int ys.length) H)\/∃ z,xs=[.str z]/\z.length<=sizeLine/\Q (.int z.length) H):=call_len_seq.or jkw
theorem jcj:CaD X.K kLen (fun xs H Q=>(∃ p ys,xs=[.ref p]/\(SqL X.K H p ys\/SqT X.K H p ys)/\Q (.int ys.length) H)\/∃ z,xs=[.str z]/\z.length<=sizeLine/\Q (.int z.length) H):=by
 intro xs d hd ρ H G us Q hG ru k;unfold kLen at hd
 split at hd
 ·cases hd;obtain⟨v,rfl,q⟩:=jgk ru;obtain⟨a,ys,rfl,q1,q2⟩:=rep_lst.mp q;exact .inl ⟨a,ys,rfl,.inl (jcm jaj q1),k _ H (Same.refl H) (rep_int.mpr (by rw[q2.length]))⟩
 ·cases hd;obtain⟨v,rfl,q⟩:=jgk ru;obtain⟨a,ys,rfl,q1,q2⟩:=rep_tup.mp q;exact .inl ⟨a,ys,rfl,.inr (jc1 jaj q1),k _ H (Same.refl H) (rep_int.mpr (by rw[q2.length]))⟩
 ·split at hd
  ·rename_i z hz;cases hd;obtain⟨v,rfl,q⟩:=jgk ru;cases rep_str.mp q;exact .inr ⟨z,rfl,hz,k _ H (Same.refl H) (rep_int.mpr rfl)⟩
  ·cases hd
 ·cases hd
noncomputable def kTuple:List D->Option D
 | [.lst ds]=>some (.tup ds)
 | [.tup ds]=>some (.tup ds)
 | _=>none
theorem jh6:CaD X.K kTuple (fun xs H Q=>∃ p ys,xs=[.ref p]/\((SqL X.K H p ys/\∀ l,H l=none->Q (.ref l) (upd H l (.tup ys)))\/(SqT X.K H p ys/\Q (.ref p) H))):=by
 intro xs d hd ρ H G us Q hG ru k;unfold kTuple at hd
 split at hd
 ·cases hd;obtain⟨v,rfl,q⟩:=jgk ru;obtain⟨a,ys,rfl,q1,q2⟩:=rep_lst.mp q;exact⟨a,ys,rfl,.inl ⟨jcm jaj q1,fun l hl=>k _ _ (ja1 hl) (jby hl (hG l hl) q2)⟩⟩
 ·cases hd;obtain⟨v,rfl,q⟩:=jgk ru;obtain⟨a,ys,rfl,q1,q2⟩:=rep_tup.mp q;exact⟨a,ys,rfl,.inr ⟨jc1 jaj q1,k _ H (Same.refl H) q⟩⟩
 ·cases hd
noncomputable def kList:List D->Option D
 | [.lst ds]=>some (.lst ds)
 | [.tup ds]=>some (.lst ds)
 | _=>none
theorem jj2:CaD X.K kList (fun xs H Q=>∃ p ys,xs=[.ref p]/\(SqL X.K H p ys\/SqT X.K H p ys)/\∀ l,H l=none->Q (.ref l) (upd H l (.lst ys))):=by
 intro xs d hd ρ H G us Q hG ru k;unfold kList at hd
 split at hd
 ·cases hd;obtain⟨v,rfl,q⟩:=jgk ru;obtain⟨a,ys,rfl,q1,q2⟩:=rep_lst.mp q;exact⟨a,ys,rfl,.inl (jcm jaj q1),fun l hl=>k _ _ (ja1 hl) (jcq hl (hG l hl) q2)⟩
 ·cases hd;obtain⟨v,rfl,q⟩:=jgk ru;obtain⟨a,ys,rfl,q1,q2⟩:=rep_tup.mp q;exact⟨a,ys,rfl,.inr (jc1 jaj q1),fun l hl=>k _ _ (ja1 hl) (jcq hl (hG l hl) q2)⟩
 ·cases hd
noncomputable def kMin:List D->Option D
 | [.int i,.int j]=>some (.int (if j<i then j else i))
 | _=>none
noncomputable def kInt:List D->Option D
 | [.int i]=>some (.int i)
 | [.bl k]=>some (.int (if k then 1 else 0))
 | _=>none
noncomputable def ji7:List D->Option (List Int)
 | []=>some []
 | .int i::ds=>(ji7 ds).map (i::·)
 | _::_=>none
theorem jnk:∀ {ds:List D} {ns:List Int},ji7 ds=some ns->ds=ns.map .int
 | [],_,h=>by cases h;rfl
 | .int i::ds,ns,h=>by
  unfold ji7 at h
  cases e:ji7 ds with
  | none=>rw[e] at h;cases h
  | some ms=>rw[e] at h;cases h;rw[jnk e];rfl
 | .non::_,_,h=>by cases h
 | .bl _::_,_,h=>by cases h
 | .str _::_,_,h=>by cases h
 | .ty _::_,_,h=>by cases h
 | .obj _::_,_,h=>by cases h
 | .tup _::_,_,h=>by cases h
 | .lst _::_,_,h=>by cases h
theorem jp6(ns:List Int):ji7 (ns.map .int)=some ns:=by
 induction ns with
 | nil=>rfl
 | cons n ns ih=>rw[List.map_cons];unfold ji7;rw[ih];rfl
noncomputable def kSum:List D->Option D
 | [d]=>match seqD d with
  | some ds=>(ji7 ds).map fun ns=>.int ns.sum
  | none=>none
 | _=>none
theorem jrb(ns:List Int):∀ k,k<=ns.length->preSum (fun i=>ns.getD i 0) k=(ns.take k).sum:=by
 intro k
 induction k with
 | zero=>intro _;rfl
 | succ k ih =>
  intro h;show preSum _ k+ns.getD k 0=_;rw[ih (by omega),List.take_succ,List.sum_append];congr 1;rw[List.getD_eq_getElem?_getD,zax (by omega)];simp
theorem jpm(hc:X.calm=true):CallR X (.builtin "sum") (fun xs H Q=>∃ k p,∃ ns:List Int,xs=[.ref p]/\SqV k X.K H p (ns.map V.int)/\Q (.int ns.sum) H):=by
 intro pins s σ H xs us Q I r h;obtain⟨k,p,ns,rfl,hq,q⟩:=h;obtain⟨u,rfl,rx⟩:=r.one;cases rx;obtain⟨its,rv,src,hz⟩:=I.src hq;have hl:=rv.length;rw[zav] at hl;have hh:X.A.in1.handled=none:=I.ok.hd hc;have val:∀ (i:Nat) v,its.toArray[i]? = some v->∃ t,v=.int (ns.getD i 0) t:=fun i v e=>by
  have hi:i<ns.length:=by rw[hl];have:=(Array.getElem?_eq_some_iff.mp e).1;simpa using this
  obtain⟨v',e1,r1⟩:=rv.get (i:=i) (x:=.int ns[i]) (by rw[zba,zax hi];rfl);have:v=v':=by
   have e':its[i]? = some v:=by simpa using e
   rw[e'] at e1;exact zby e1
  subst this;rw[List.getD_eq_getElem?_getD,zax hi];exact r1
 have fin:∀ {it:Addr} {s2:Shared} {h':Heap} {tk:Nat} {t':Tok},s.heap.objs.size=it->(∀ b o,s.heap.get? b=some o->s2.heap.get? b=some o)->s2={ s with heap:=s2.heap }->(∀ b o,b∉[it]->s2.heap.get? b=some o->h'.get? b=some o) ->
   EP X pins σ Q (.int (preSum (fun i=>ns.getD i 0) its.toArray.size) t') { s2 with heap:=h',toks:=tk }:=fun {it s2 h' tk t'} e1 e2 e3 e4=>by
  have ep:preSum (fun i=>ns.getD i 0) its.toArray.size=ns.sum:=by
   rw[zbx,<- hl,jrb ns _ (zac _),List.take_length]
  rw[ep,e3];refine⟨.int ns.sum,H,I.kept fun b o e=>e4 b o ?_ (e2 b o e),⟨_,rfl⟩,q⟩;intro z;have:b=it:=by simpa using z
  rw[this,<- e1] at e;exact absurd (zbv e) (Nat.lt_irrefl _)
 refine call_sum_walkG ?_
 cases k with
 | true =>
  have src':s.heap.IsTuple p its.toArray:=src;have hp:p<s.heap.objs.size:=by obtain⟨o,e,_⟩:=src';exact zbv e
  refine wpAny_pyIter_tuple src' ?_;refine⟨_,_,_,_,_,_,_,rfl,Walks.tuple hh s.heap.objs.size p (zcv hp) its.toArray,⟨⟨_,zbz _ rfl,rfl,rfl⟩,src'.at fun o e=>zaz _ e⟩,fun b hb=>?_,val,fun h' tk t' kp=>fin rfl (fun b o e=>zaz _ e) rfl kp⟩;rw[Heap.size_push];simp only[List.mem_cons,List.not_mem_nil,or_false] at hb;rcases hb with rfl|rfl
  ·exact Nat.lt_succ_self _
  ·exact Nat.lt_succ_of_lt hp
 | false =>
  have src':s.heap.IsList p its.toArray:=src;have hp:p<s.heap.objs.size:=by obtain⟨o,e,_⟩:=src';exact zbv e
  refine wpAny_pyIter_list src' ?_;refine⟨_,_,_,_,_,_,_,rfl,Walks.list hh s.heap.objs.size p (zcv hp) its.toArray,⟨⟨_,zbz _ rfl,rfl,rfl⟩,src'.at fun o e=>zaz _ e⟩,fun b hb=>?_,val,fun h' tk t' kp=>fin rfl (fun b o e=>zaz _ e) rfl kp⟩;rw[Heap.size_push];simp only[List.mem_cons,List.not_mem_nil,or_false] at hb;rcases hb with rfl|rfl
  ·exact Nat.lt_succ_self _
  ·exact Nat.lt_succ_of_lt hp
theorem jvh:CaD X.K kSum (fun xs H Q=>∃ k p,∃ ns:List Int,xs=[.ref p]/\SqV k X.K H p (ns.map V.int)/\Q (.int ns.sum) H):=by
 intro xs d hd ρ H G us Q hG ru k;unfold kSum at hd
 split at hd
 ·rename_i d0
  split at hd
  ·rename_i ds es
   cases e:ji7 ds with
   | none=>rw[e] at hd;cases hd
   | some ns =>
    rw[e] at hd;cases hd;obtain⟨v,rfl,q⟩:=jgk ru;obtain⟨kk,l,ys,rfl,q1,q2⟩:=jrq es q;rw[jnk e] at q2;rw[reps_ints.mp q2] at q1;exact⟨kk,l,ns,rfl,jls jaj q1,k _ H (Same.refl H) (rep_int.mpr rfl)⟩
  ·cases hd
 ·cases hd
noncomputable def isiD(T:String):D->Option Bool
 | .non=>some (T == "NoneType")
 | .bl _=>some (T == "bool" || T == "int")
 | .int _=>some (T == "int")
 | .str _=>some (T == "str")
 | .tup _=>some (T == "tuple")
 | .lst _=>some (T == "list")
 | _=>none
noncomputable def kIsi:List D->Option D
 | [d,.ty T]=>if T="int"\/T="bool"\/T="tuple"\/T="list"\/T="str" then (isiD T d).map .bl else none
 | _=>none
end
section
variable {X:Cx}
theorem jhv{O:List Nat}{E:XK}{x:Str}{i:Int}{t:Tok}{pos:Pos}(hg:Gl X x)(hm:X.mg x=some (.int i t))(hd:autoParam ((x == ("__debug__":Str))=false) zau1._auto_1):DE X O E (.Name x pos) (fC (.int i)) :=
 jky (t:=tC (.int i)) (v:=.int i) (jmn (v:=.int i) hg hm ⟨t,rfl⟩ hd) fun _ _=>rep_int.mpr rfl
end
inductive spD(K:W.Frag)(n:Nat)(m:List D->M D)(vs:List V)(H:Hp)(Q:VK)(E:XK):Prop
 | mk (hn:vs.length=n) (ρ:Rho) (ds:List D) (r:Except XD D) (F:Addr->Bool) (hF:∀ b,F b=true->H b≠none) (hr:Reps ρ K (hid H F) ds vs) (hf:m ds=some r) (k:match (generalizing:=false) r with
  | .ok d=>∀ v H',Same H H'->Rep ρ K (hid H' F) d v->Q v H'
  | .error x=>okX K H E x)
inductive CalX(P:Program)(w:World)(K:W.Frag)(mg:Str->Option Value)(base:Heap)(k:Nat)(x:Str)(n:Nat)(sp:Sp):Prop
 | mk (f:Addr) (fd:FuncData) (ps:List Str) (h1:ps.length=n) (h2:mg x=some (.ref f)) (h3:W.keepIn K (.ref f)=true) (h4:Binds K fd ps []) (h5:FnOk P w K mg base CX0 k f fd ps sp)
structure Cal(P:Program)(w:World)(K:W.Frag)(mg:Str->Option Value)(base:Heap)(k:Nat)(x:Str)(n:Nat)(m:List D->M D):Prop where
 ex:CalX P w K mg base k x n (spD K n m)
 ar:∀ ds r,m ds=some r->ds.length=n
noncomputable def jb7(K:W.Frag)(mg:Str->Option Value)(x:Str)(st:Stmt)(ps:List Str):Prop:=∃ f fd,mg x=some (.ref f)/\Fun K x x st f fd/\Binds K fd ps []
noncomputable def startD(n:Nat)(ds:List D):DSt:=ds.map some++List.replicate (n-ds.length) none
noncomputable def outD:Out->M D
 | .rt d=>M.p d
 | .nx _=>M.p .non
 | _=>none
noncomputable def mir(n N:Nat)(g:DSt->M Out):List D->M D:=fun ds=>if ds.length=n then (g (startD N ds)).b outD else none
theorem jf0{N:Nat}{ds:List D}{i:Nat}{d:D}(h:(startD N ds)[i]? = some (some d)):ds[i]? = some d:=by
 unfold startD at h
 by_cases hi:i<ds.length
 ·rw[List.getElem?_append_left (by simpa using hi),zba] at h
  cases e:ds[i]? with
  | none=>rw[e] at h;cases h
  | some a=>rw[e] at h;cases h;rfl
 ·rw[List.getElem?_append_right (by simpa using hi),List.getElem?_replicate] at h
  split at h<;>cases h
theorem jgy{N:List Str}{vs:List V}{i:Nat}{v:V}(h:vs[i]? = some v):(L2.start N vs)[i]? = some (some v):=by
 unfold L2.start;have hi:i<vs.length:=(zbb.mp h).1;rw[List.getElem?_append_left (by simpa using hi),zba,h];rfl
section
variable {P:Program}{w:World}{K:W.Frag}{mg:Str->Option Value}{base:Heap}
theorem fn_D{x:Str}{st:Stmt}{N ps:List Str}{k:Nat}{O':List Nat}{g:DSt->M Out}{f:Addr}{fd:FuncData}(F:Fun K x x st f fd)(S:FnScope N ps (jae st))
  (hbody:∀ (f:Addr) (cdv:Value) (A:Around) (outer:List Env) (s:Shared) (H:Hp) (E:XK),Room k (A.deeper (PyProof.Rows.envOfC x (jae st) s.heap.objs.size f cdv)) ->
   DSs (cxOf CX0 P w K mg base N x (jae st) f cdv A outer s H E).nox [] O' [] E (jak st) g):FnOk P w K mg base CX0 (k+1) f fd ps (spD K ps.length (mir ps.length N.length g)):=by
 refine F.ok S (fun vs H Q E h=>h.1) fun cdv A outer s H vs Q E hr h=>?_
 obtain⟨hl,ρ,ds,r,F',fin,rp,hmr,k0⟩:=h;refine⟨_,hbody f cdv A outer s H E hr,?_⟩;have hpl:ps.length<=N.length:=by have:=congrArg List.length S.pre;rw[List.length_take] at this;omega
 have hdl:ds.length=ps.length:=by rw[<- rp.length];exact hl
 unfold mir at hmr;rw[if_pos hdl] at hmr;have R:RS ρ K H H F' [] (L2.start N vs) (startD N.length ds):=by
  refine⟨?_,Same.refl H,fin,fun i d hd _=>?_,fun i hi=>absurd hi (by simp),fun i hi=>absurd hi (by simp)⟩
  ·simp[L2.start,startD,rp.length]
  ·obtain⟨v,e,rv⟩:=rp.get (jf0 hd);exact⟨v,jgy e,by rw[jdo];exact rv⟩
 rcases M.b_inv hmr with ⟨o,e1,hmr⟩|⟨y,e1,rfl⟩
 ·refine⟨ρ,H,F',_,.ok o,R,e1,?_⟩
  cases o with
  | rt d=>cases hmr;exact fun v H' s' rv=>k0 v H' s' rv
  | nx δ=>cases hmr;exact fun σ' H' f' R'=>k0 .non H' R'.same (rep_non.mpr rfl)
  | bk δ=>cases hmr
  | ct δ=>cases hmr
 ·exact⟨ρ,H,F',_,.error y,R,e1,k0⟩
theorem jb8{x:Str}{st:Stmt}{N ps:List Str}{k:Nat}{O':List Nat}{g:DSt->M Out}(hf:jb7 K mg x st ps)(S:FnScope N ps (jae st))
  (hbody:∀ (f:Addr) (cdv:Value) (A:Around) (outer:List Env) (s:Shared) (H:Hp) (E:XK),Room k (A.deeper (PyProof.Rows.envOfC x (jae st) s.heap.objs.size f cdv)) ->
   DSs (cxOf CX0 P w K mg base N x (jae st) f cdv A outer s H E).nox [] O' [] E (jak st) g):Cal P w K mg base (k+1) x ps.length (mir ps.length N.length g):=by
 obtain⟨f,fd,hm,F,hb⟩:=hf;refine⟨⟨f,fd,ps,rfl,hm,F.kp,hb,fn_D F S hbody⟩,fun ds r h=>?_⟩;unfold mir at h
 split at h
 ·assumption
 ·cases h
theorem jaw{h:Heap}{x:Str}{st:Stmt}{ps:List Str}{f:Addr}{oc:Value}{od an:Option Addr}{osl:Array (Option Value)}{kV doc pm cdv ct:Value}(X:K.In h)(G:h.Ns mainGlobals mg)
  (hb:∀ (kV doc pm:Value) (an:Option Addr) (cdv ct:Value) (us:List Value),us.length=ps.length->bindArgs (W.fnOf x x (jat st) (jak st) (jae st) .none kV doc pm an cdv ct) ⟨us,[]⟩=pure (ps.zip us))
  (a:W.nsIn K mainGlobals x=some (some (.ref f))) (l:K.lookup f=some ⟨oc,od,.func (W.fnOf x x (jat st) (jak st) (jae st) .none kV doc pm an cdv ct),osl⟩)
  (c:W.codeIn K cdv x=true) (k:W.keepIn K (.ref f)=true):jb7 K mg x st ps:=by
 have F:=jug (st:=st) l c k;exact⟨f,_,W.mg_of X G a,F,F.binds hb⟩
theorem jp1{st:Stmt}{x:Str}{f:Addr}(hf:jb7 K mg "law" st [x])(hm:mg "law"=some (.ref f))
  (hb:∀ (kV doc pm:Value) (an:Option Addr) (cdv ct:Value) (s:Shared) (u:Value),BindsTo s (W.fnOf "law" "law" (jat st) (jak st) (jae st) .none kV doc pm an cdv ct) ⟨[u],[]⟩ [(x,u)]) :
  ∃ fd,Fun K "law" "law" st f fd/\∀ (s:Shared) (u:Value),BindsTo s fd ⟨[u],[]⟩ [(x,u)]:=by
 obtain⟨f',fd,hm',F,_⟩:=hf;rw[hm] at hm';cases hm';refine⟨fd,F,fun s u=>?_⟩;obtain⟨oc,od,kV,doc,pm,an,cdv,ct,osl,rfl,lk,hcd⟩:=F.ex;exact hb kV doc pm an cdv ct s u
end
noncomputable def jax(m:List D->M D)(fl:DSt->M (List D)):DSt->M D:=fun δ=>(fl δ).b m
section
variable {X:Cx}{O:List Nat}{E:XK}{e:Expr}{es:List Expr}{fl:DSt->M (List D)}{pos p:Pos}{x:Str}{k n:Nat}{m:List D->M D}
theorem jan(C:Cal X.prog X.w X.K X.mg X.base k x n m)(hr:Room k X.A)(ha:DA X O E (e::es) fl)(hg:autoParam (Gl X x) zau2._auto_1)(hdb:autoParam ((x == ("__debug__":Str))=false) zau1._auto_1)(he:autoParam (starEach (e::es) X.env=(false,eval e X.env)::starEach es X.env) zau2._auto_1)
  (hpl:autoParam ((backTo pos (starEach es X.env)).any (·.1)=false) zau2._auto_1):DE X O E (.Call (.Name x p) (e::es) [] pos) (jax m fl):=by
 obtain⟨f,fd,ps,hl,hm,hk,hb,F⟩:=C.ex;rintro pins s σ H Q I ⟨ρ,Hz,G,δ,r,R,hf,h⟩;refine jhb F hr hg hm hk hb .nil (fun _ _ _ _ _ _ _ z=>z.elim) ha hdb he hpl pins s σ H Q I (E:=E) ?_;rcases M.b_inv hf with ⟨ds,e1,hf⟩|⟨y,e1,rfl⟩
 ·refine⟨ρ,Hz,G,δ,.ok ds,R,e1,fun vs H1 s1 r1=>?_⟩;show spD X.K n m (vs++[]) H1 Q E;rw[List.append_nil];refine⟨by rw[r1.length];exact C.ar ds r hf,ρ,ds,r,fob G σ O,fun b hb z=>?_,r1,hf,?_⟩
  ·rw[(R.mono s1).fresh z] at hb;cases hb
  ·cases r with
   | ok d=>exact fun v H' s' rv=>h v H' (s1.trans s') rv
   | error y=>exact fun c dx H' s' xr=>h c dx H' (R.same.trans (s1.trans s')) xr
 ·exact⟨ρ,Hz,G,δ,.error y,R,e1,h⟩
end
theorem hu30{A:Around}{k:Nat}(hr:Room k A):A.units+30<cLine:=Nat.lt_of_le_of_lt (Nat.add_le_add_left (by decide:30<=64) _) hr.units
theorem jdj:bootBuiltins "len"=some (.builtin "len"):=by decide +kernel
theorem jyc:bootBuiltins "sum"=some (.builtin "sum"):=by decide +kernel
theorem jgn:bootBuiltins "isinstance"=some (.builtin "isinstance"):=by decide +kernel
theorem jj0:bootBuiltins "tuple"=some (.type "tuple"):=by decide +kernel
theorem jg0:bootBuiltins "list"=some (.type "list"):=by decide +kernel
theorem jt9:bootBuiltins "int"=some (.type "int"):=by decide +kernel
theorem jm7:bootBuiltins "all"=some (.builtin "all"):=by decide +kernel
theorem jyb:bootBuiltins "set"=some (.type "set"):=by decide +kernel
noncomputable def gCat:D->D->Option D
 | .int i,.int j=>some (.int (i+j))
 | .str x,.str y=>if x.length+y.length<=sizeLine then some (.str (x++y)) else none
 | .lst xs,.lst ys=>if xs.length+ys.length<=sizeLine then some (.lst (xs++ys)) else none
 | .tup xs,.tup ys=>if xs.length+ys.length<=sizeLine/\xs≠[]/\ys≠[] then some (.tup (xs++ys)) else none
 | _,_=>none
noncomputable def jxj(K:W.Frag):R2:=fun x y H Q=>∃ l b xs zs,x=.ref l/\y=.ref b/\SqL K H l xs/\SqL K H b zs/\xs.length+zs.length<=sizeLine/\∀ p,H p=none->Q (.ref p) (upd H p (.lst (xs++zs)))
section
variable {X:Cx}{O:List Nat}{E:XK}{b e:Expr}{fa:DSt->M D}{fl:DSt->M (List D)}{pos:Pos}
theorem op_catQ:OpR X (binaryOp .Add) (jxj X.K):=by
 intro pins s σ H x y v u Q I rx ry h;obtain⟨l,b,xs,zs,rfl,rfl,hH,hB,hz,q⟩:=h;cases rx;cases ry;obtain⟨its,r,⟨⟨cls,dd,data,sl⟩,n,ho,hc,_,hd⟩,_⟩:=I.list hH;obtain⟨its2,r2,⟨⟨cls2,dd2,data2,sl2⟩,n2,ho2,hc2,_,hd2⟩,_⟩:=I.list hB;simp only at hc hd hc2 hd2;subst hc hd hc2 hd2;have l1:=r.length;have l2:=r2.length;have ea:its.toArray++its2.toArray=(its++its2).toArray:=by simp
 refine concat_meets ⟨_,ho,rfl⟩ ⟨_,ho2,rfl⟩ noFill_list_add seq_list_add PySem.F.slot_list_add PySem.F.entry_list_add (PySem.F.args_list_add_2 _ _) (PyProof.Rows.list_addW l b its.toArray its2.toArray n n2 dd dd2 sl sl2 (by simp only[zbx];omega)) ⟨ho,ho2,?_⟩;rw[ea];exact⟨.ref _,_,I.lnew (t':=s.toks) (r.append r2) (by rw[zca];omega),rfl,q _ I.fresh⟩
theorem jaq:OpR X (binaryOp .Add) (fun x y H Q=>(rI0 (fun i j=>.int (i+j)) x y H Q\/∃ i j,x=.str i/\y=.str j/\i.length+j.length<=sizeLine/\Q (.str (i++j)) H)\/jxj X.K x y H Q\/jrg X.K x y H Q):=op_addD.or (op_catQ.or jqz)
theorem jar:OpD X.K gCat (fun x y H Q=>(rI0 (fun i j=>.int (i+j)) x y H Q\/∃ i j,x=.str i/\y=.str j/\i.length+j.length<=sizeLine/\Q (.str (i++j)) H)\/jxj X.K x y H Q\/jrg X.K x y H Q):=by
 intro x y d hd ρ H G u v Q hG ru rv k;unfold gCat at hd
 split at hd
 ·cases hd;exact .inl (.inl ⟨_,_,rep_int.mp ru,rep_int.mp rv,k _ H (Same.refl H) (rep_int.mpr rfl)⟩)
 ·split at hd
  ·rename_i hz;cases hd;exact .inl (.inr ⟨_,_,rep_str.mp ru,rep_str.mp rv,hz,k _ H (Same.refl H) (rep_str.mpr rfl)⟩)
  ·cases hd
 ·split at hd
  ·rename_i hz;cases hd;obtain⟨l,xs,rfl,q1,q2⟩:=rep_lst.mp ru;obtain⟨m,ys,rfl,p1,p2⟩:=rep_lst.mp rv;exact .inr (.inl ⟨l,m,xs,ys,rfl,rfl,jcm jaj q1,jcm jaj p1,by rw[q2.length,p2.length];exact hz,fun p hp=>k _ _ (ja1 hp) (jcq hp (hG p hp) (q2.append p2))⟩)
  ·cases hd
 ·split at hd
  ·rename_i hz;cases hd;obtain⟨l,xs,rfl,q1,q2⟩:=rep_tup.mp ru;obtain⟨m,ys,rfl,p1,p2⟩:=rep_tup.mp rv;have n1:xs≠[]:=fun z=>by have:=q2.length;rw[z] at this;exact hz.2.1 (List.length_eq_zero_iff.mp this.symm)
   have n2:ys≠[]:=fun z=>by have:=p2.length;rw[z] at this;exact hz.2.2 (List.length_eq_zero_iff.mp this.symm)
   exact .inr (.inr ⟨l,m,xs,ys,rfl,rfl,jc1 jaj q1,jc1 jaj p1,n1,by rw[q2.length,p2.length];exact hz.1,fun z=>absurd z n2,fun _ p hp=>k _ _ (ja1 hp) (jby hp (hG p hp) (q2.append p2))⟩)
  ·cases hd
 ·cases hd
theorem Reps.rep{ρ:Rho}{K:W.Frag}{H:Hp}{ds:List D}{vs:List V}(h:Reps ρ K H ds vs):∀ k:Nat,Reps ρ K H (List.replicate k ds).flatten (List.replicate k vs).flatten
 | 0=>Reps.nil
 | k+1=>by rw[List.replicate_succ,List.flatten_cons,List.replicate_succ,List.flatten_cons];exact h.append (Reps.rep h k)
inductive tOD(K:W.Frag)(O:List Nat)(E:XK)(f:DSt->M (Option Int))(σ:St)(H:Hp)(Q:Option Int->Hp->Prop):Prop
 | mk (ρ:Rho) (Hz:Hp) (F:Addr->Bool) (δ:DSt) (r:Except XD (Option Int)) (R:RS ρ K Hz H F O σ δ) (hf:f δ=some r) (k:match (generalizing:=false) r with
  | .ok o=>∀ H',Same H H'->Q o H'
  | .error x=>okX K Hz E x)
noncomputable def DO(X:Cx)(O:List Nat)(E:XK)(e:Option Expr)(f:DSt->M (Option Int)):Prop:=PO X e (tOD X.K O E f)
noncomputable def jgj:DSt->M (Option Int):=fun _=>M.p none
noncomputable def intD:D->Option (Option Int)
 | .int i=>some (some i)
 | _=>none
noncomputable def jfm(f:DSt->M D):DSt->M (Option Int):=fun δ=>(f δ).b fun d=>M.o (intD d)
theorem jf7:DO X O E none jgj:=by
 rintro pins s σ H Q I ⟨ρ,Hz,F,δ,r,R,hf,k⟩;cases hf;exact jxa pins s σ H Q I (k H (Same.refl H))
theorem jf8(h:DE X O E e fa):DO X O E (some e) (jfm fa):=by
 rintro pins s σ H Q I ⟨ρ,Hz,F,δ,r,R,hf,k⟩;refine jxb h pins s σ H Q I ?_;rcases M.b_inv hf with ⟨x,e1,hf⟩|⟨x,e1,rfl⟩
 ·refine⟨ρ,Hz,F,δ,.ok x,R,e1,fun v H1 s1 r1=>?_⟩;obtain⟨o,ho,rfl⟩:=M.o_inv hf
  cases x with
  | int i=>cases ho;exact⟨i,rep_int.mp r1,k H1 s1⟩
  | _=>cases ho
 ·exact⟨ρ,Hz,F,δ,.error x,R,e1,k⟩
noncomputable def cutL{α:Type}(xs:List α)(lo hi:Option Int):List α:=(xs.drop (HT.sIx xs.length 0 lo)).take (HT.sIx xs.length xs.length hi-HT.sIx xs.length 0 lo)
noncomputable def cutD:D->Option Int->Option Int->Option D
 | .lst ds,lo,hi=>some (.lst (cutL ds lo hi))
 | .tup ds,lo,hi=>if HT.sIx ds.length 0 lo=0/\HT.sIx ds.length ds.length hi=ds.length then none else some (.tup (cutL ds lo hi))
 | .str x,lo,hi=>if x.length<=sizeLine then some (.str (Txt.slice x lo hi)) else none
 | _,_,_=>none
noncomputable def rSlS:V->Option Int->Option Int->Hp->VK->Prop:=fun x lo hi H Q=>∃ z,x=.str z/\z.length<=sizeLine/\Q (.str (Txt.slice z lo hi)) H
theorem jAv:SlR X rSlS:=by
 intro pins s σ H x v vl vu lo hi sl Q I rx hs pl pu h;obtain⟨z,rfl,hz,q⟩:=h;obtain⟨t,rfl⟩:=rx;have fin:∀ {l u:Option (Int×Tok)},l.map (·.1)=lo->u.map (·.1)=hi->s.heap.IsSlice sl l u none->wpAny (model X.prog X.w) X.A (getItem (.str z t) (.ref sl)) (EP X pins σ Q) X.xe s:=fun {l u} e1 e2 h=>by
  refine wpAny_getItem_str_slice (l:=l) (u:=u) (st:=none) h rfl ?_;have hw:∀ t' k,EP X pins σ Q (.str (Txt.slice z lo hi) t') { s with toks:=k }:=fun t' k=>⟨.str (Txt.slice z lo hi),H,I.tok _,⟨_,rfl⟩,q⟩
  rw[<- e1,<- e2] at hw;exact post_val_or_str ⟨zcc (Txt.slice_le z _ _) hz,hw⟩
 obtain⟨os,ho,hc,hd⟩:=hs;refine⟨"str",_,PySem.F.slot_str_getitem.lookup,typeIs_str _ _ _,?_⟩
 cases pl with
 | none=>cases pu with
  | none=>exact fin (l:=none) (u:=none) rfl rfl ⟨os,ho,hc,hd⟩
  | int j tj=>exact fin (l:=none) (u:=some (j,tj)) rfl rfl ⟨os,ho,hc,hd⟩
 | int i ti=>cases pu with
  | none=>exact fin (l:=some (i,ti)) (u:=none) rfl rfl ⟨os,ho,hc,hd⟩
  | int j tj=>exact fin (l:=some (i,ti)) (u:=some (j,tj)) rfl rfl ⟨os,ho,hc,hd⟩
theorem Reps.take{ρ:Rho}{K:W.Frag}{H:Hp}:∀ {ds:List D} {vs:List V} (n:Nat),Reps ρ K H ds vs->Reps ρ K H (ds.take n) (vs.take n)
 | _,_,0,_=>by simp;exact Reps.nil
 | [],_,n+1,h=>by rw[reps_nil.mp h];exact Reps.nil
 | d::ds,_,n+1,h=>by
  obtain⟨v,r,rfl,q,t⟩:=reps_cons.mp h;exact Reps.cons q (Reps.take n t)
theorem Reps.drop{ρ:Rho}{K:W.Frag}{H:Hp}:∀ {ds:List D} {vs:List V} (n:Nat),Reps ρ K H ds vs->Reps ρ K H (ds.drop n) (vs.drop n)
 | _,_,0,h=>h
 | [],_,n+1,h=>by rw[reps_nil.mp h];exact Reps.nil
 | d::ds,_,n+1,h=>by
  obtain⟨v,r,rfl,q,t⟩:=reps_cons.mp h;exact Reps.drop n t
theorem Reps.cut{ρ:Rho}{K:W.Frag}{H:Hp}{ds:List D}{vs:List V}(h:Reps ρ K H ds vs)(lo hi:Option Int):Reps ρ K H (cutL ds lo hi) (cutV vs lo hi):=by
 unfold cutL cutV;rw[h.length];exact (h.drop _).take _
noncomputable def fSl(fa:DSt->M D)(fl fh:DSt->M (Option Int)):DSt->M D:=fun δ=>(fa δ).b fun x=>(fl δ).b fun lo=>(fh δ).b fun hi=>M.o (cutD x lo hi)
theorem jft{lo hi:Option Expr}{fl fh:DSt->M (Option Int)}{p2:Pos}(ha:DE X O E e fa)(hl:DO X O E lo fl)(hh:DO X O E hi fh):DE X O E (.Subscript e (.Slice lo hi none p2) pos) (fSl fa fl fh):=by
 rintro pins s σ H Q I ⟨ρ,Hz,F,δ,r,R,hf,k⟩;refine jns (sl_list.or (sl_tup.or jAv)) ha hl hh pins s σ H Q I ?_;rcases M.b_inv hf with ⟨x,e1,hf⟩|⟨x,e1,rfl⟩
 ·refine⟨ρ,Hz,F,δ,.ok x,R,e1,fun v H1 s1 r1=>?_⟩;rcases M.b_inv hf with ⟨l,e2,hf⟩|⟨y,e2,rfl⟩
  ·refine⟨ρ,Hz,F,δ,.ok l,R.mono s1,e2,fun H2 s2=>?_⟩;rcases M.b_inv hf with ⟨h,e3,hf⟩|⟨y,e3,rfl⟩
   ·refine⟨ρ,Hz,F,δ,.ok h,R.mono (s1.trans s2),e3,fun H3 s3=>?_⟩;obtain⟨d,hd,rfl⟩:=M.o_inv hf;have r3:=r1.mono (jap (s2.trans s3));have R3:=R.mono (s1.trans (s2.trans s3));have sm:=s1.trans (s2.trans s3)
    cases x with
    | lst ds =>
     cases hd;obtain⟨q,xs,rfl,q2,q3⟩:=rep_lst.mp r3;exact .inl ⟨q,xs,rfl,jcm jaj q2,fun p hp=>k _ _ (sm.trans (ja1 hp)) (jcq hp (R3.fresh hp) (q3.cut l h))⟩
    | tup ds =>
     have hd':(if HT.sIx ds.length 0 l=0/\HT.sIx ds.length ds.length h=ds.length then none else some (D.tup (cutL ds l h)))=some d:=hd
     split at hd'
     ·cases hd'
     ·rename_i hn;cases hd';obtain⟨q,xs,rfl,q2,q3⟩:=rep_tup.mp r3;exact .inr (.inl ⟨q,xs,rfl,jc1 jaj q2,by rw[q3.length];exact hn,fun p hp=>k _ _ (sm.trans (ja1 hp)) (jby hp (R3.fresh hp) (q3.cut l h))⟩)
    | str z =>
     have hd':(if z.length<=sizeLine then some (D.str (Txt.slice z l h)) else none)=some d:=hd
     split at hd'
     ·rename_i hz;cases hd';exact .inr (.inr ⟨z,rep_str.mp r3,hz,k _ _ sm (rep_str.mpr rfl)⟩)
     ·cases hd'
    | _=>cases hd
   ·exact⟨ρ,Hz,F,δ,.error y,R.mono (s1.trans s2),e3,k⟩
  ·exact⟨ρ,Hz,F,δ,.error y,R.mono s1,e2,k⟩
 ·exact⟨ρ,Hz,F,δ,.error x,R,e1,k⟩
noncomputable def jmy:D->Bool
 | .non=>true
 | .bl _=>true
 | .int _=>true
 | .str _=>true
 | .ty _=>true
 | .obj _=>true
 | _=>false
theorem jn0{ρ:Rho}{K:W.Frag}{H H':Hp}{d:D}{v:V}(h:jmy d=true)(r:Rep ρ K H d v):Rep ρ K H' d v:=by
 cases d with
 | non=>exact rep_non.mpr (rep_non.mp r)
 | bl _=>exact rep_bl.mpr (rep_bl.mp r)
 | int _=>exact rep_int.mpr (rep_int.mp r)
 | str _=>exact rep_str.mpr (rep_str.mp r)
 | ty _=>exact rep_ty.mpr (rep_ty.mp r)
 | obj _=>exact rep_obj.mpr (rep_obj.mp r)
 | _=>cases h
noncomputable def gAug(i:Nat)(g:D->D->Option D)(f:DSt->M D):DSt->M Out:=fun δ=>(M.o (δ[i]?).join).b fun x=>(f δ).b fun y=>(M.o (g x y)).b fun d=>M.p (.nx (δ.set i (some d)))
end
theorem Reps.set{ρ:Rho}{K:W.Frag}{H:Hp}{d:D}{v:V}(hr:Rep ρ K H d v):∀ {ds:List D} {vs:List V} (j:Nat),Reps ρ K H ds vs->Reps ρ K H (ds.set j d) (vs.set j v)
 | [],_,j,h=>by rw[reps_nil.mp h];exact Reps.nil
 | e::ds,_,0,h=>by
  obtain⟨u,r,rfl,q,t⟩:=reps_cons.mp h;exact Reps.cons hr t
 | e::ds,_,j+1,h=>by
  obtain⟨u,r,rfl,q,t⟩:=reps_cons.mp h;exact Reps.cons q (Reps.set hr j t)
section
variable {X:Cx}{O B:List Nat}{E:XK}{b e:Expr}{fa fb:DSt->M D}{pos:Pos}
noncomputable def jnj(i:Nat)(fi fv:DSt->M D):DSt->M Out:=fun δ=>(fv δ).b fun d=>(fi δ).b fun k=>match (δ[i]?).join,k with
 | some (.lst ds),.int k=>match ixN ds.length k with
  | some j=>M.p (.nx (δ.set i (some (.lst (ds.set j d)))))
  | none=>none
 | _,_=>none
theorem jsi{i:Nat}{x:Str}{ix:Expr}{p1 p2:Pos}(ho:O.contains i=true)(hix:DE X O E ix fb)(he:DE X O E e fa)(hi:autoParam (X.N[i]? = some x) zau2._auto_1)(hv:autoParam (Vis X.env.scope x) zau5._auto_1)
  (hd:autoParam ((x == ("__debug__":Str))=false) zau1._auto_1) (hcd:autoParam ((x == ("__classdict__":Str))=false) zau1._auto_1)
  (ha:∀ v,assign (.Subscript (.Name x p1) ix p2) X.env v=(do
   let ov <- holding [v] (eval (.Name x p1) X.env)
   let iv <- holding [v,ov] (eval ix X.env)
   standAt p2
   holding [v,ov,iv] (setItem ov iv v)
   release [v,ov,iv] []):=by intro _;rfl)
  (hs:autoParam (swapsWithSole [.Subscript (.Name x p1) ix p2] e pos.line X.env=pure false) zau2._auto_1) (hw:autoParam (swappedStores [.Subscript (.Name x p1) ix p2] e X.env=pure none) zau2._auto_1)
  (h1:autoParam ((assignEach [.Subscript (.Name x p1) ix p2] X.env).map (·.2)=[assign (.Subscript (.Name x p1) ix p2) X.env]) zau2._auto_1):DS X O O B E (.Assign [.Subscript (.Name x p1) ix p2] e pos) (jnj i fb fa):=by
 rintro pins s σ H Dn I ⟨ρ,Hz,F,δ,r,R,hg,k⟩;have ho':i∈O:=zbc.mp ho;refine ju1 he (ju0 (jnt hi hv hd hcd) hix jn1 ha) hs hw h1 pins s σ H Dn I ?_;rcases M.b_inv hg with ⟨d,e1,hg⟩|⟨y,e1,rfl⟩
 ·refine⟨ρ,Hz,F,δ,.ok d,R,e1,fun v H1 s1 r1=>?_⟩;obtain⟨l,xs0,ds0,q1,q2,q3,q4,q5⟩:=(R.mono s1).own i ho';refine⟨.ref l,q2,?_⟩;rcases M.b_inv hg with ⟨kk,e2,hg⟩|⟨y,e2,rfl⟩
  ·refine⟨ρ,Hz,F,δ,.ok kk,R.mono s1,e2,fun w H2 s2 r2=>?_⟩;have R2:=R.mono (s1.trans s2);obtain⟨l',xs,ds,p1,p2,p3,p4,p5⟩:=R2.own i ho';rw[q2] at p2;cases p2
   rw[q1] at p1;cases p1
   have hj:(δ[i]?).join=some (.lst ds0):=by rw[q1];rfl
   rw[hj] at hg
   cases kk with
   | int n =>
    dsimp only at hg
    cases hjx:ixN ds0.length n with
    | none=>rw[hjx] at hg;cases hg
    | some j =>
     rw[hjx] at hg;cases hg;refine⟨l,xs,n,j,rfl,rep_int.mp r2,p3,by rw[p5.length];exact hjx,?_⟩;refine k σ _ ?_ (R2.write ho' q2 (p5.set (r1.mono (jap s2)) j));rw[jgf (fob_t.mpr (.inr ⟨i,ho',q2⟩))];exact jap (s1.trans s2)
   | _=>cases hg
  ·exact⟨ρ,Hz,F,δ,.error y,R.mono s1,e2,k⟩
 ·exact⟨ρ,Hz,F,δ,.error y,R,e1,k⟩
noncomputable def gAsg(h:D->DSt->Option DSt)(f:DSt->M D):DSt->M Out:=fun δ=>(f δ).b fun d=>match h d δ with
 | some δ'=>M.p (.nx δ')
 | none=>none
noncomputable def jB2(i j l:Nat):D->DSt->Option DSt:=fun d δ=>match d with
 | .tup [x,y,z]=>some (((δ.set i (some x)).set j (some y)).set l (some z))
 | _=>none
noncomputable def joi:List D->Option D
 | [.int i]=>some (.int i)
 | [.bl k]=>some (.int (if k then 1 else 0))
 | [.str x]=>if x.length<=640 then (PySem.intText? x).map .int else none
 | _=>none
theorem jkv:CallR X (.type "int") (fun xs H Q=>((∃ i,xs=[.int i]/\Q (.int i) H)\/∃ k,xs=[.bl k]/\Q (.int (if k then 1 else 0)) H)\/∃ x n,xs=[.str x]/\x.length<=640/\PySem.intText? x=some n/\Q (.int n) H) :=
 call_int1.or (by
  intro pins s σ H xs us Q I r h;obtain⟨x,n,rfl,hl,hn,q⟩:=h;obtain⟨u,rfl,t,rfl⟩:=r.one;exact W.KIN.call_text hn hl ⟨.int n,H,I.tok _,⟨_,rfl⟩,q⟩)
theorem jm8:CaD X.K joi (fun xs H Q=>((∃ i,xs=[.int i]/\Q (.int i) H)\/∃ k,xs=[.bl k]/\Q (.int (if k then 1 else 0)) H)\/∃ x n,xs=[.str x]/\x.length<=640/\PySem.intText? x=some n/\Q (.int n) H):=by
 intro xs d hd ρ H G us Q hG ru k;unfold joi at hd
 split at hd
 ·cases hd;obtain⟨v,rfl,q1⟩:=jgk ru;cases rep_int.mp q1;exact .inl (.inl ⟨_,rfl,k _ H (Same.refl H) (rep_int.mpr rfl)⟩)
 ·cases hd;obtain⟨v,rfl,q1⟩:=jgk ru;cases rep_bl.mp q1;exact .inl (.inr ⟨_,rfl,k _ H (Same.refl H) (rep_int.mpr rfl)⟩)
 ·split at hd
  ·rename_i x hz;obtain⟨v,rfl,q1⟩:=jgk ru;cases rep_str.mp q1
   cases e:PySem.intText? x with
   | none=>rw[e] at hd;cases hd
   | some n =>
    rw[e] at hd;cases hd;exact .inr ⟨x,n,rfl,hz,e,k _ H (Same.refl H) (rep_int.mpr rfl)⟩
  ·cases hd
 ·cases hd
end
end DL
namespace L2
open PySem PySem.Spec PyProof.Rows
section
end
end L2
namespace DL
open PySem PySem.Spec L2
section
variable {X:Cx}{b e o:Expr}{p:Pos}
noncomputable def blsD:List D->Option (List Bool)
 | []=>some []
 | .bl b::ds=>(blsD ds).map (b::·)
 | _::_=>none
theorem jpc:∀ {ds:List D} {ns:List Bool},blsD ds=some ns->ds=ns.map .bl
 | [],_,h=>by cases h;rfl
 | .bl i::ds,ns,h=>by
  unfold blsD at h
  cases e:blsD ds with
  | none=>rw[e] at h;cases h
  | some ms=>rw[e] at h;cases h;rw[jpc e];rfl
 | .non::_,_,h=>by cases h
 | .int _::_,_,h=>by cases h
 | .str _::_,_,h=>by cases h
 | .ty _::_,_,h=>by cases h
 | .obj _::_,_,h=>by cases h
 | .tup _::_,_,h=>by cases h
 | .lst _::_,_,h=>by cases h
theorem reps_bls{ρ:Rho}{K:W.Frag}{H:Hp}:∀ {ns:List Bool} {vs:List V},Reps ρ K H (ns.map .bl) vs↔vs=ns.map V.bl
 | [],vs=>reps_nil
 | n::ns,vs=>by
  rw[List.map_cons,reps_cons];constructor
  ·rintro⟨v,r,rfl,h1,h2⟩;rw[rep_bl.mp h1,reps_bls.mp h2];rfl
  ·rintro rfl;exact⟨_,_,rfl,rep_bl.mpr rfl,reps_bls.mpr rfl⟩
noncomputable def kAll:List D->Option D
 | [.lst ds]=>(blsD ds).map fun ns=>.bl (ns.all id)
 | _=>none
theorem jo8(ns:List Bool):(List.range ns.length).all (fun i=>ns.getD i true)=ns.all id:=by
 induction ns with
 | nil=>rfl
 | cons n ns ih =>
  rw[List.length_cons,List.range_succ_eq_map,List.all_cons,List.all_map,List.all_cons];congr 1
theorem jgo(hc:X.calm=true):CallR X (.builtin "all") (fun xs H Q=>∃ p,∃ ns:List Bool,xs=[.ref p]/\SqL X.K H p (ns.map V.bl)/\Q (.bl (ns.all id)) H):=by
 intro pins s σ H xs us Q I r h;obtain⟨p,ns,rfl,hq,q⟩:=h;obtain⟨u,rfl,rx⟩:=r.one;cases rx;obtain⟨its,rv,src,hz⟩:=I.list hq;have hl:=rv.length;rw[zav] at hl;have hh:X.A.in1.handled=none:=I.ok.hd hc;have src':s.heap.IsList p its.toArray:=src.isList;have hp:p<s.heap.objs.size:=by obtain⟨o,e,_⟩:=src';exact zbv e
 refine call_all_walk ?_;refine wpAny_pyIter_list src' ?_;refine⟨_,_,_,_,_,_,(fun i=>ns.getD i true),rfl,Walks.list hh s.heap.objs.size p (zcv hp) its.toArray,⟨⟨_,zbz _ rfl,rfl,rfl⟩,src'.at fun o e=>zaz _ e⟩,fun i v s' Q' E' hP hQ=>?_,fun h' tk kp=>?_⟩
 ·have e:its.toArray[i]? = some v:=hP;have hi:i<ns.length:=by rw[hl];have:=(Array.getElem?_eq_some_iff.mp e).1;simpa using this
  obtain⟨v',e1,r1⟩:=rv.get (i:=i) (x:=.bl ns[i]) (by rw[zba,zax hi];rfl);have:v=v':=by
   have e':its[i]? = some v:=by simpa using e
   rw[e'] at e1;exact zby e1
  subst this;have r1':v=.bool ns[i]:=r1;subst r1';refine wpAny_truthy_bool ?_;dsimp only at hQ;rw[List.getD_eq_getElem?_getD,zax hi] at hQ;exact hQ
 ·refine⟨.bl (ns.all id),H,I.kept fun b o e=>kp b o ?_ (zaz _ e),?_,q⟩
  ·intro z;have:b=s.heap.objs.size:=by simpa using z
   rw[this] at e;exact absurd (zbv e) (Nat.lt_irrefl _)
  ·have:its.toArray.size=ns.length:=by rw[zbx];omega
   rw[this,jo8];rfl
theorem jj1:CaD X.K kAll (fun xs H Q=>∃ p,∃ ns:List Bool,xs=[.ref p]/\SqL X.K H p (ns.map V.bl)/\Q (.bl (ns.all id)) H):=by
 intro xs d hd ρ H G us Q hG ru k;unfold kAll at hd
 split at hd
 ·rename_i ds
  cases e:blsD ds with
  | none=>rw[e] at hd;cases hd
  | some ns =>
   rw[e] at hd;cases hd;obtain⟨v,rfl,q⟩:=jgk ru;obtain⟨l,ys,rfl,q1,q2⟩:=rep_lst.mp q;rw[jpc e] at q2;rw[reps_bls.mp q2] at q1;exact⟨l,ns,rfl,jcm jaj q1,k _ H (Same.refl H) (rep_bl.mpr rfl)⟩
 ·cases hd
end
end DL
namespace L2
open PySem PySem.Spec PyProof.Rows
theorem jhq:fillsNumberSlot (.type "tuple") "mul"=pure false :=
 PySem.fillsNumberSlot_seq (id:="tuple.__mul__") (r:=some (.builtin "tuple.__rmul__")) PySem.F.slot_tuple_mul.lookup (by decide +kernel) PySem.F.slot_tuple_rmul.lookup (by decide +kernel)
theorem jlr:seqRepeat? (.type "tuple")=pure (some (.builtin "tuple.__mul__")):=by
 unfold seqRepeat?;rw[PySem.seqSlot_of (T:="tuple") (name:="__mul__") (id:="tuple.__mul__") PySem.F.slot_tuple_mul.lookup (by decide +kernel),PySem.seqSlot_of (T:="tuple") (name:="__rmul__") (id:="tuple.__rmul__") PySem.F.slot_tuple_rmul.lookup (by decide +kernel)];rfl
theorem jjd(a:Int)(t:Tok)(l:Addr)(items:Array Value)(n:Nat)(dd:Option Addr)(sl:Array (Option Value)) :
  Meets (Builtin.«int.__rmul__» ⟨[.int a t,.ref l],[]⟩) (fun _ R s=>s.heap.get? l=some { cls:=.type "tuple",dict:=dd,data:=.seq items n,slots:=sl }/\R (.ok (.ret Value.notImplemented)) s) :=
 .of_wp fun prog w A R s h=>by obtain⟨hp,g,d,tk,os⟩:=s;obtain⟨hl,h⟩:=h;wp_walk;exact⟨_,rfl,h⟩
theorem jo0(l:Addr)(items:Array Value)(n:Nat)(u:Tok)(dd:Option Addr)(sl:Array (Option Value))(hne:items.isEmpty=false) :
  Meets (Builtin.«tuple.__mul__» ⟨[.ref l,.int 1 u],[]⟩) (fun _ R s=>s.heap.get? l=some { cls:=.type "tuple",dict:=dd,data:=.seq items n,slots:=sl }/\R (.ok (.ret (.ref l))) s) :=
 .of_wp fun prog w A R s h=>by
  obtain⟨hp,g,d,tk,os⟩:=s;obtain⟨hl,h⟩:=h
  have f1:=AutoSeq1.idx_int
  wp_walk
  exact⟨_,rfl,h⟩
theorem jo1(l:Addr)(items:Array Value)(n:Nat)(k:Int)(u:Tok)(dd:Option Addr)(sl:Array (Option Value))(hne:items.isEmpty=false)(h2:2<=k)(h3:k<=1000)(hsz:items.size*k.toNat<=100000) :
  Meets (Builtin.«tuple.__mul__» ⟨[.ref l,.int k u],[]⟩) (fun _ R s=>s.heap.get? l=some { cls:=.type "tuple",dict:=dd,data:=.seq items n,slots:=sl }/\R (.ok (.ret (.ref s.heap.objs.size))) { s with heap:=s.heap.push { cls:=.type "tuple",data:=.seq (List.foldl (fun x1 x2=>x1++x2) #[] (List.replicate k.toNat items)) } }) :=
 .of_wp fun prog w A R s h=>by
  obtain⟨hp,g,d,tk,os⟩:=s;obtain⟨hl,h⟩:=h
  have f1:=AutoSeq1.idx_int;have c1:(decide (k < -(2 ^ 63)) || decide (k >= 2 ^ 63))=false:=by simp;omega
  have c2:(items.isEmpty || k == 1)=false:=by rw[hne];simp;omega
  have c3:(decide (k<=0) || items.isEmpty)=false:=by rw[hne];simp;omega
  obtain⟨m,rfl⟩:=Int.eq_ofNat_of_zero_le (show 0<=k by omega);have hs:(items.size:Int)*(m:Int)=((items.size*m:Nat):Int):=by push_cast;rfl
  have hsz':items.size*m<=100000:=by simpa using hsz
  have c4:¬ ((items.size:Int)*(m:Int) > (2 ^ 63-1) / 8):=by rw[hs];omega
  have c5:Builtin.Tuple.tupleTooMany ((items.size:Int)*(m:Int))=false:=by
   rw[hs];unfold Builtin.Tuple.tupleTooMany;simp[sizeLine];omega
  wp_walk
  refine wpAny_ite_false (decide_eq_false (by rw[c1];decide)) ?_
  wp_walk
  refine wpAny_ite_false (decide_eq_false (by rw[c2];decide)) ?_
  wp_walk
  refine wpAny_ite_false (decide_eq_false (by rw[c3];decide)) ?_
  try dsimp only
  refine wpAny_ite_false (decide_eq_false c4) ?_
  try dsimp only
  refine wpAny_ite_false (decide_eq_false (by rw[c5];decide)) ?_
  try dsimp only
  refine zay ?_;unfold Builtin.Tuple.tupleExact;refine wpAny_newObj_type ?_ ?_
  ·exact zab ⟨_,rfl,h⟩
  ·show (List.foldl (fun x1 x2=>x1++x2) #[] (List.replicate ((m:Nat):Int).toNat items)).size<=sizeLine;rw[AutoListH.size_joined];have:100000<=sizeLine:=by decide
   rw[Nat.mul_comm] at hsz';simp;omega
end L2
namespace DL
open PySem PySem.Spec L2
noncomputable def jAn(K:W.Frag):R2:=fun x y H Q=>∃ l k xs,x=.ref l/\y=.int k/\SqT K H l xs/\xs≠[]/\1<=k/\k<=1000/\xs.length*k.toNat<=100000/\(k=1->Q (.ref l) H)/\(k≠1->∀ p,H p=none->Q (.ref p) (upd H p (.tup (List.replicate k.toNat xs).flatten)))
section
variable {X:Cx}{b e:Expr}
theorem jw0:OpR X (binaryOp .Mult) (jAn X.K):=by
 intro pins s σ H x y v u Q I rx ry h;obtain⟨l,k,xs,rfl,rfl,hH,hne,h1,h2,hz,q1,q2⟩:=h;cases rx;obtain⟨t,rfl⟩:=ry;obtain⟨its,r,⟨⟨cls,dd,data,sl⟩,e,hc,n,hd⟩,_⟩:=I.tuple hH;simp only at hc hd;subst hc hd;have l1:=r.length;have hne':its.toArray.isEmpty=false:=by
  cases its with
  | nil=>exact absurd (List.length_eq_zero_iff.mp l1) hne
  | cons _ _=>rfl
 have hlen:its.toArray.size*k.toNat<=100000:=by rw[zbx,<- l1];exact hz
 have hnew:List.foldl (fun x1 x2=>x1++x2) #[] (List.replicate k.toNat its.toArray)=(List.replicate k.toNat its).flatten.toArray:=by
  have:=jk4 its k.toNat [];rw[List.nil_append] at this;exact this
 refine wpAny_binaryOp_repeat_ref (T:="tuple") (U:="int") (by decide) ⟨_,e,rfl⟩ (fun s'=>typeIs_int s' k t) jhq F.fills_int_mul F.slot_int_rmul jlr F.slot_int_index.lookup
  (call_meets F.slot_int_rmul (typeIs_int s k t) F.entry_int_rmul (F.args_int_rmul_2 _ _) (jjd k t l its.toArray n dd sl)
   ⟨e,rfl,⟨_,e,rfl⟩,?_⟩)
 by_cases hk:k=1
 ·subst hk;exact call_meets F.slot_tuple_mul ⟨_,e,rfl⟩ F.entry_tuple_mul (F.args_tuple_mul_2 _ _) (jo0 l its.toArray n t dd sl hne') ⟨e,.ref l,H,I,rfl,q1 rfl⟩
 ·refine call_meets F.slot_tuple_mul ⟨_,e,rfl⟩ F.entry_tuple_mul (F.args_tuple_mul_2 _ _) (jo1 l its.toArray n k t dd sl hne' (by omega) h2 hlen) ⟨e,?_⟩;rw[hnew];refine⟨.ref s.heap.objs.size,_,I.laid (t':=s.toks) (o:=.tup (List.replicate k.toNat xs).flatten) (fun b ob q=>zaz _ q) (zac _) ?_,rfl,q2 hk _ (I.hok.fresh (zac _))⟩;refine⟨?_,_,r.rep k.toNat,PyProof.Rows.IsTup.new _ _⟩;rw[jwb,Nat.mul_comm];have:100000<=sizeLine:=by decide
  omega
noncomputable def jck:D->D->Option D
 | .tup xs,.int k=>if xs≠[]/\1<=k/\k<=1000/\xs.length*k.toNat<=100000 then some (.tup (List.replicate k.toNat xs).flatten) else none
 | x,y=>gMul x y
noncomputable def jAm(K:W.Frag):R2:=fun x y H Q=>(rI (fun i j=>(jf2 i&&jf2 j)=true) (fun i j=>.int (i*j)) x y H Q\/∃ z n,x=.str z/\y=.int n/\(z.length<=4096/\-4096<=n/\n<=4096)/\Q (.str (Txt.mul z n)) H)\/jAn K x y H Q
theorem jb5:OpR X (binaryOp .Mult) (jAm X.K):=op_mulD.or jw0
theorem jbh:OpD X.K jck (jAm X.K):=by
 intro x y d hd ρ H G u v Q hG ru rv k;unfold jck at hd
 split at hd
 ·split at hd
  ·rename_i hz;cases hd;obtain⟨l,xs,rfl,q1,q2⟩:=rep_tup.mp ru;have n1:xs≠[]:=fun z=>by have:=q2.length;rw[z] at this;exact hz.1 (List.length_eq_zero_iff.mp this.symm)
   refine .inr ⟨l,_,xs,rfl,rep_int.mp rv,jc1 jaj q1,n1,hz.2.1,hz.2.2.1,by rw[q2.length];exact hz.2.2.2,fun e=>?_,fun _ p hp=>k _ _ (ja1 hp) (jby hp (hG p hp) (q2.rep _))⟩;subst e;refine k _ H (Same.refl H) ?_;simpa using ru
  ·cases hd
 ·exact .inl (jw1 (X:=X) x y d hd ρ H G u v Q hG ru rv k)
end
end DL
namespace L2
open PySem PySem.Spec PyProof.Rows
noncomputable abbrev xOb(C:Addr)(od:Option Addr)(vs:Array Value)(sl:Array (Option Value)):Obj:=⟨.ref C,od,.fields vs,sl⟩
noncomputable def XO(a C:Addr)(od:Option Addr)(f:Bool):HO:=.ext fun h=>∃ vs sl,h.get? a=some (xOb C od vs sl)/\(f=true->vs[1]? = some .none)
inductive XDv(a:Addr)(fs:List (Str×V))(h:Heap):Prop
 | mk (mA:Str->Option Value) (hn:h.Ns1 a mA) (hr:∀ f,RelO (fs.lookup f) (mA f)) (hw:PySem.Within mA (fs.map (·.1))) (hl:fs.length<=1000)
noncomputable def XDc(a:Addr)(fs:List (Str×V)):HO:=.ext (XDv a fs)
theorem jBd{a C:Addr}{od:Option Addr}{f:Bool}{xs:List V}:XO a C od f≠.tup xs:=fun z=>by unfold XO at z;cases z
theorem jDg{a:Addr}{fs:List (Str×V)}{xs:List V}:XDc a fs≠.tup xs:=fun z=>by unfold XDc at z;cases z
end L2
namespace DL
open PySem PySem.Spec L2
inductive SO where
 | ins (c:Str) (fs:List (Str×D))|lst (ds:List D)|tab (x:Str) (l c:Nat) (q:Str)|dct (kvs:List (List Int×D))|exc (c:Str) (j:Option Nat×Bool)|xd (fs:List (Str×D))
noncomputable abbrev Sto:=List SO
noncomputable abbrev MS(α:Type):=Sto->Option (Except XD α×Sto)
noncomputable def MS.b{α β:Type}(m:MS α)(f:α->MS β):MS β:=fun Ω=>match m Ω with
 | none=>none
 | some (.error x,Ω')=>some (.error x,Ω')
 | some (.ok a,Ω')=>f a Ω'
noncomputable def MS.p{α:Type}(a:α):MS α:=fun Ω=>some (.ok a,Ω)
noncomputable def MS.l{α:Type}(m:M α):MS α:=fun Ω=>m.map fun r=>(r,Ω)
noncomputable def MS.o{α:Type}(m:Option α):MS α:=fun Ω=>m.map fun r=>(.ok r,Ω)
inductive MS.BInv{α β:Type}(m:MS α)(f:α->MS β)(Ω Ω':Sto)(r:Except XD β):Prop
 | ok (a:α) (Ω1:Sto) (h1:m Ω=some (.ok a,Ω1)) (h2:f a Ω1=some (r,Ω'))
 | err (x:XD) (h1:m Ω=some (.error x,Ω')) (h2:r=.error x)
theorem MS.b_inv{α β:Type}{m:MS α}{f:α->MS β}{Ω Ω':Sto}{r:Except XD β}(h:m.b f Ω=some (r,Ω')):MS.BInv m f Ω Ω' r:=by
 unfold MS.b at h
 cases e:m Ω with
 | none=>rw[e] at h;cases h
 | some p =>
  rw[e] at h;obtain⟨q,Ω1⟩:=p
  cases q with
  | error x=>cases h;exact .err x e rfl
  | ok a=>exact .ok a Ω1 e h
theorem MS.l_inv{α:Type}{m:M α}{Ω Ω':Sto}{r:Except XD α}(h:MS.l m Ω=some (r,Ω')):m=some r/\Ω'=Ω:=by
 unfold MS.l at h
 cases e:m with
 | none=>rw[e] at h;cases h
 | some p=>rw[e] at h;cases h;exact⟨rfl,rfl⟩
theorem MS.o_inv{α:Type}{m:Option α}{Ω Ω':Sto}{r:Except XD α}(h:MS.o m Ω=some (r,Ω')):∃ a,m=some a/\r=.ok a/\Ω'=Ω:=by
 unfold MS.o at h
 cases e:m with
 | none=>rw[e] at h;cases h
 | some p=>rw[e] at h;cases h;exact⟨p,rfl,rfl,rfl⟩
@[simp] theorem MS.b_p{α β:Type}(a:α)(f:α->MS β):(MS.p a).b f=f a:=rfl
theorem MS.b_ok{α β:Type}{m:MS α}{f:α->MS β}{Ω Ω1:Sto}{a:α}(h:m Ω=some (.ok a,Ω1)):m.b f Ω=f a Ω1:=by unfold MS.b;rw[h]
noncomputable def RLe(ρ ρ':Rho):Prop:=∀ i a,ρ i=some a->ρ' i=some a
theorem RLe.refl(ρ:Rho):RLe ρ ρ:=fun _ _ h=>h
theorem RLe.trans{ρ ρ' ρ'':Rho}(a:RLe ρ ρ')(b:RLe ρ' ρ''):RLe ρ ρ'':=fun i x h=>b i x (a i x h)
section
variable {ρ ρ':Rho}{K:W.Frag}{H:Hp}
mutual
theorem Rep.rho(e:RLe ρ ρ'):∀ {d:D} {v:V},Rep ρ K H d v->Rep ρ' K H d v
 | .non,_,h=>by unfold Rep at h |-;exact h
 | .bl _,_,h=>by unfold Rep at h |-;exact h
 | .int _,_,h=>by unfold Rep at h |-;exact h
 | .str _,_,h=>by unfold Rep at h |-;exact h
 | .ty _,_,h=>by unfold Rep at h |-;exact h
 | .obj _,_,h=>by
  unfold Rep at h |-
  obtain⟨a,q1,q2⟩:=h;exact⟨a,e _ _ q1,q2⟩
 | .tup _,_,h=>by
  unfold Rep at h |-
  obtain⟨a,xs,q1,q2,q3⟩:=h;exact⟨a,xs,q1,q2,Reps.rho e q3⟩
 | .lst _,_,h=>by
  unfold Rep at h |-
  obtain⟨a,xs,q1,q2,q3⟩:=h;exact⟨a,xs,q1,q2,Reps.rho e q3⟩
theorem Reps.rho(e:RLe ρ ρ'):∀ {ds:List D} {vs:List V},Reps ρ K H ds vs->Reps ρ' K H ds vs
 | [],_,h=>by unfold Reps at h |-;exact h
 | _::_,_,h=>by
  unfold Reps at h |-
  obtain⟨v,vs,q1,q2,q3⟩:=h;exact⟨v,vs,q1,Rep.rho e q2,Reps.rho e q3⟩
end
noncomputable def putD(f:Str)(d:D):List (Str×D)->List (Str×D)
 | []=>[(f,d)]
 | (g,x)::r=>if g=f then (g,d)::r else (g,x)::putD f d r
noncomputable def Flds(ρ:Rho)(K:W.Frag)(H:Hp):List (Str×D)->List (Str×V)->Prop
 | [],vs=>vs=[]
 | (f,d)::fs,vs=>∃ v r,vs=(f,v)::r/\Rep ρ K H d v/\Flds ρ K H fs r
theorem Flds.mono(e:RLe ρ ρ')(s:Same H H'):∀ {fs:List (Str×D)} {vs:List (Str×V)},Flds ρ K H fs vs->Flds ρ' K H' fs vs
 | [],_,h=>h
 | (f,d)::fs,_,⟨v,r,q1,q2,q3⟩=>⟨v,r,q1,(q2.rho e).mono s,Flds.mono e s q3⟩
theorem Flds.length:∀ {fs:List (Str×D)} {vs:List (Str×V)},Flds ρ K H fs vs->vs.length=fs.length
 | [],_,h=>by cases h;rfl
 | (f,d)::fs,_,⟨v,r,q1,q2,q3⟩=>by subst q1;simp[Flds.length q3]
theorem Flds.put{f:Str}{d:D}{v:V}(hr:Rep ρ K H d v):∀ {fs:List (Str×D)} {vs:List (Str×V)},Flds ρ K H fs vs->Flds ρ K H (putD f d fs) (putF f v vs)
 | [],_,h=>by cases h;exact⟨v,[],rfl,hr,rfl⟩
 | (g,x)::fs,_,⟨u,r,q1,q2,q3⟩=>by
  subst q1;unfold putD putF
  by_cases h:g=f
  ·rw[if_pos h,if_pos h];exact⟨v,r,rfl,hr,q3⟩
  ·rw[if_neg h,if_neg h];exact⟨u,_,rfl,q2,Flds.put hr q3⟩
end
inductive InsOk(ρ:Rho)(S:Addr->Bool)(K:W.Frag)(mg:Str->Option Value)(H Hv:Hp)(a:Addr)(c:Str)(fs:List (Str×D)):Prop
 | mk (C dx:Addr) (vfs:List (Str×V)) (h1:mg c=some (.ref C)) (h2:H a=some (.ins C dx vfs)) (h3:H dx=some (.own a)) (h4:S dx=true) (h5:Flds ρ K Hv fs vfs)
inductive TabOf(K:W.Frag)(mg:Str->Option Value)(x:Str)(a:Addr):Prop
 | mk (f c bm:Addr) (oc:Value) (od:Option Addr) (fd:FuncData) (osl:Array (Option Value)) (ob:Obj) (h1:mg x=some (.ref f)) (h2:K.lookup f=some ⟨oc,od,.func fd,osl⟩) (h3:fd.code=.ref c) (h4:W.codeHdIn K c a=true)
   (h5:mg "__builtins__"=some (.ref bm)) (h6:bm≠builtinsNs) (h7:K.lookup bm=some ob) (h8:ob.cls=.type "module") (h9:ob.dict=some builtinsNs) (h10:ob.data=.plain)
inductive TabG(Hv:Hp)(l c:Nat)(q:Str)(ps:Array Value):Prop
 | nil (h:ps=#[])
 | one (c':Addr) (o:Obj) (vs:Array Value) (t:Tok) (h:ps=#[rawInt l,rawInt c,.ref c']) (h1:Hv c'=some (.frz o (.own 0))) (h2:o.data=.fields vs) (h3:vs[1]? = some (.str q t))
theorem TabG.mono{Hv Hv':Hp}{l c:Nat}{q:Str}{ps:Array Value}(s:Same Hv Hv'):TabG Hv l c q ps->TabG Hv' l c q ps
 | .nil h=>.nil h
 | .one c' o vs t h h1 h2 h3=>.one c' o vs t h (s _ _ h1) h2 h3
inductive TabOk(K:W.Frag)(mg:Str->Option Value)(H Hv:Hp)(a:Addr)(x:Str)(l c:Nat)(q:Str):Prop
 | mk (ps:Array Value) (h1:H a=some (.tbl ps)) (h2:TabOf K mg x a) (h3:TabG Hv l c q ps)
inductive ExcOk(ρ:Rho)(mg:Str->Option Value)(H:Hp)(a:Addr)(c:Str):Option Nat×Bool->Prop
 | no (f:Bool) (C:Addr) (h1:mg c=some (.ref C)) (h2:H a=some (XO a C none f)):ExcOk ρ mg H a c (none,f)
 | yes (f:Bool) (j:Nat) (C dx:Addr) (h1:mg c=some (.ref C)) (h2:ρ j=some dx) (h3:H a=some (XO a C (some dx) f)):ExcOk ρ mg H a c (some j,f)
theorem ExcOk.mono{ρ ρ':Rho}{mg:Str->Option Value}{H H':Hp}{a:Addr}{c:Str}{j:Option Nat×Bool}(l:∀ i b,ρ i=some b->ρ' i=some b)(e:H' a=H a)(h:ExcOk ρ mg H a c j):ExcOk ρ' mg H' a c j:=by
 cases h with
 | no f C h1 h2=>exact .no f C h1 (by rw[e];exact h2)
 | yes f j C dx h1 h2 h3=>exact .yes f j C dx h1 (l _ _ h2) (by rw[e];exact h3)
noncomputable def SOk(ρ:Rho)(S:Addr->Bool)(K:W.Frag)(mg:Str->Option Value)(H Hv:Hp)(a:Addr):SO->Prop
 | .ins c fs=>InsOk ρ S K mg H Hv a c fs
 | .lst ds=>∃ xs,H a=some (.lst xs)/\Reps ρ K Hv ds xs
 | .tab x l c q=>TabOk K mg H Hv a x l c q
 | .exc c j=>ExcOk ρ mg H a c j
 | .xd fs=>∃ vfs,H a=some (XDc a vfs)/\Flds ρ K Hv fs vfs
 | .dct kvs=>∃ vk:List (List Key×V),H a=some (.dT vk)/\vk.map (·.1)=kvs.map (fun p=>p.1.map Sum.inl)/\Reps ρ K Hv (kvs.map (·.2)) (vk.map (·.2))
inductive AtOk(ρ:Rho)(S:Addr->Bool)(K:W.Frag)(mg:Str->Option Value)(H Hv:Hp)(i:Nat)(so:SO):Prop
 | mk (a:Addr) (h1:ρ i=some a) (h2:S a=true) (h3:SOk ρ S K mg H Hv a so)
noncomputable def TV(H Hv:Hp):Prop:=∀ b xs,H b=some (.tup xs)->Hv b=some (.tup xs)
theorem jn4{H Hv:Hp}{a:Addr}{o:HO}(t:TV H Hv)(ho:∀ xs,o≠.tup xs):TV (upd H a o) Hv:=fun b xs q=>by
 by_cases hb:b=a
 ·subst hb;rw[jao] at q;cases q;exact absurd rfl (ho xs)
 ·rw[jah hb] at q;exact t b xs q
theorem jtz{H Hv Hv':Hp}(t:TV H Hv)(v:Same Hv Hv'):TV H Hv':=fun b xs q=>v b _ (t b xs q)
theorem jxs{H H':Hp}{F:Addr->Bool}(t:TV H (hid H F))(fr:∀ b,H b=none->F b=false)(e:Same H H'):TV H' (hid H' F):=fun b xs q=>by
 cases z:H b with
 | none=>exact hid_some.mpr ⟨fr b z,q⟩
 | some o =>
  have:=e b o z;rw[q] at this;cases this;exact jap e b _ (t b xs z)
structure StoOk(ρ:Rho)(S:Addr->Bool)(K:W.Frag)(mg:Str->Option Value)(H Hv:Hp)(Ω:Sto):Prop where
 ats:∀ (i:Nat) so,Ω[i]? = some so->AtOk ρ S K mg H Hv i so
 inj:∀ i j a,ρ i=some a->ρ j=some a->i=j
 top:∀ i,Ω.length<=i->ρ i=none
 fin:∀ b,S b=true->H b≠none
 tv:TV H Hv
noncomputable abbrev nof:Addr->Bool:=fun _=>false
noncomputable def un(F S:Addr->Bool):Addr->Bool:=fun b=>F b || S b
theorem un_t{F S:Addr->Bool}{b:Addr}:un F S b=true↔F b=true\/S b=true:=by unfold un;rw[Bool.or_eq_true]
theorem un_f{F S:Addr->Bool}{b:Addr}:un F S b=false↔F b=false/\S b=false:=by unfold un;rw[Bool.or_eq_false_iff]
section
variable {ρ:Rho}{S:Addr->Bool}{K:W.Frag}{mg:Str->Option Value}{H H' Hv Hv':Hp}{Ω:Sto}
theorem SOk.mono{a:Addr}{so:SO}(hs:S a=true)(e:∀ b,S b=true->H' b=H b)(v:Same Hv Hv')(h:SOk ρ S K mg H Hv a so):SOk ρ S K mg H' Hv' a so:=by
 cases so with
 | ins c fs =>
  obtain⟨C,dx,vfs,q1,q2,q3,q4,q5⟩:=h;exact⟨C,dx,vfs,q1,by rw[e a hs];exact q2,by rw[e dx q4];exact q3,q4,q5.mono (RLe.refl _) v⟩
 | lst ds =>
  obtain⟨xs,q1,q2⟩:=h;exact⟨xs,by rw[e a hs];exact q1,q2.mono v⟩
 | tab x l c q =>
  obtain⟨ps,q1,q2,q3⟩:=h;exact⟨ps,by rw[e a hs];exact q1,q2,q3.mono v⟩
 | dct kvs =>
  obtain⟨vk,q1,q2,q3⟩:=h;exact⟨vk,by rw[e a hs];exact q1,q2,q3.mono v⟩
 | exc c j=>exact ExcOk.mono (fun _ _ z=>z) (e a hs) h
 | xd fs =>
  obtain⟨vfs,q1,q2⟩:=h;exact⟨vfs,by rw[e a hs];exact q1,q2.mono (RLe.refl _) v⟩
theorem StoOk.mono(h:StoOk ρ S K mg H Hv Ω)(e:∀ b,S b=true->H' b=H b)(v:Same Hv Hv')(t:TV H' Hv'):StoOk ρ S K mg H' Hv' Ω :=
 ⟨fun i so hi=>let ⟨a,q1,q2,q3⟩:=h.ats i so hi;⟨a,q1,q2,q3.mono q2 e v⟩,h.inj,h.top,fun b hb=>by rw[e b hb];exact h.fin b hb,t⟩
end
structure RM(ρz:Rho)(Sz:Addr->Bool)(Hz:Hp)(F:Addr->Bool)(K:W.Frag)(mg:Str->Option Value)(O:List Nat)(ρ:Rho)(S:Addr->Bool)(H:Hp)(σ:St)(δ:DSt)(Ω:Sto):Prop where
 rs:RS ρ K (hid H (fob nof σ O)) H (un F S) O σ δ
 rho:RLe ρz ρ
 same:∀ b o,Sz b=false->Hz b=some o->H b=some o
 old:∀ b,Sz b=true->S b=true
 new:∀ b,S b=true->Sz b=true\/Hz b=none
 own0:∀ i∈O,∀ a,σ[i]? = some (some (.ref a))->Hz a=none
 ff:∀ b,F b=true->S b=false
 sto:StoOk ρ S K mg H (hid H (fob (un F S) σ O)) Ω
section
variable {ρz ρ:Rho}{Sz S F:Addr->Bool}{Hz H1 H H':Hp}{K:W.Frag}{mg:Str->Option Value}{O O':List Nat}{σ:St}{δ:DSt}{Ω:Sto}
theorem RS.rebase(R:RS ρ K H1 H F O σ δ):RS ρ K (hid H (fob nof σ O)) H F O σ δ :=
 ⟨R.len,jaj,R.fin,R.val,fun i hi=>by
  obtain⟨a,xs,ds,q1,q2,q3,q4,q5⟩:=R.own i hi;refine⟨a,xs,ds,q1,q2,q3,⟨?_,q4.2⟩,q5⟩;unfold hid;rw[if_pos (fob_t.mpr (.inr ⟨i,hi,q2⟩))],R.nd⟩
theorem RM.at_store(R:RM ρz Sz Hz F K mg O ρ S H σ δ Ω)(e:Same H H'):∀ b,S b=true->H' b=H b:=fun b hb=>by
 cases q:H b with
 | none=>exact absurd q (R.sto.fin b hb)
 | some o=>exact e b o q
theorem RM.mono(R:RM ρz Sz Hz F K mg O ρ S H σ δ Ω)(e:Same H H'):RM ρz Sz Hz F K mg O ρ S H' σ δ Ω :=
 ⟨(R.rs.mono e).rebase,R.rho,fun b o h1 h2=>e b o (R.same b o h1 h2),R.old,R.new,R.own0,R.ff,R.sto.mono (R.at_store e) (jap e) (jxs R.sto.tv (fun _ h=>R.rs.fresh h) e)⟩
theorem RM.thaw(R:RM ρz Sz Hz F K mg O ρ S H σ δ Ω)(h:∀ i∈O',i∈O):RM ρz Sz Hz F K mg O' ρ S H σ δ Ω :=
 ⟨(R.rs.thaw h).rebase,R.rho,R.same,R.old,R.new,fun i hi=>R.own0 i (h i hi),R.ff,R.sto.mono (fun _ _=>rfl) (jee (jqg h)) (jtz R.sto.tv (jee (jqg h)))⟩
theorem RM.fresh(R:RM ρz Sz Hz F K mg O ρ S H σ δ Ω){p:Addr}(h:H p=none):fob (un F S) σ O p=false:=R.rs.fresh h
theorem RM.fresh0(R:RM ρz Sz Hz F K mg O ρ S H σ δ Ω){p:Addr}(h:H p=none):Hz p=none\/Sz p=true:=by
 cases e:Sz p with
 | true=>exact .inr rfl
 | false =>
  cases e0:Hz p with
  | none=>exact .inl rfl
  | some o=>rw[R.same p o e e0] at h;cases h
theorem RM.noS(R:RM ρz Sz Hz F K mg O ρ S H σ δ Ω){p:Addr}(h:H p=none):S p=false:=by
 cases e:S p with
 | false=>rfl
 | true=>exact absurd h (R.sto.fin p e)
theorem RM.fresh00(R:RM ρz Sz Hz F K mg O ρ S H σ δ Ω){p:Addr}(h:H p=none):Hz p=none:=by
 rcases R.fresh0 h with q|q
 ·exact q
 ·have:=R.noS h;rw[R.old p q] at this;cases this
theorem RM.set(R:RM ρz Sz Hz F K mg O ρ S H σ δ Ω){i:Nat}{d:D}{v:V}(ho:i∉O)(hr:Rep ρ K (hid H (fob (un F S) σ O)) d v):RM ρz Sz Hz F K mg O ρ S H (σ.set i (some v)) (δ.set i (some d)) Ω:=by
 refine⟨(R.rs.set ho hr).rebase,R.rho,R.same,R.old,R.new,fun j hj a q=>?_,R.ff,by rw[jc5 ho];exact R.sto⟩;rw[zbw (by rintro rfl;exact ho hj)] at q;exact R.own0 j hj a q
theorem RM.write(R:RM ρz Sz Hz F K mg O ρ S H σ δ Ω){i:Nat}{a:Addr}{ds:List D}{xs:List V}(hi:i∈O)(ha:σ[i]? = some (some (.ref a)))(hr:Reps ρ K (hid H (fob (un F S) σ O)) ds xs) :
  RM ρz Sz Hz F K mg O ρ S (upd H a (.lst xs)) σ (δ.set i (some (.lst ds))) Ω:=by
 obtain⟨a',ys,es,q1,q2,q3,q4,q5⟩:=R.rs.own i hi;rw[ha] at q2;cases q2
 have hS:S a=false:=(un_f.mp q4.2).2;have h0:=R.own0 i hi a ha;have hh:hid (upd H a (.lst xs)) (fob (un F S) σ O)=hid H (fob (un F S) σ O):=jgf (fob_t.mpr (.inr ⟨i,hi,ha⟩));refine⟨(R.rs.write hi ha hr).rebase,R.rho,fun b o h1 h2=>?_,R.old,R.new,R.own0,R.ff,?_⟩
 ·rw[jah (jaz h2 h0)];exact R.same b o h1 h2
 ·rw[hh];refine R.sto.mono (fun b hb=>?_) (Same.refl _) (jn4 R.sto.tv fun _ z=>nomatch z);rw[jah];rintro rfl;rw[hS] at hb;cases hb
theorem RM.take(R:RM ρz Sz Hz F K mg O ρ S H σ δ Ω){i:Nat}{ds:List D}{p:Addr}{xs:List V}(ho:i∉O)(hi:i<δ.length)(hp:H p=none)(hr:Reps ρ K (hid H (fob (un F S) σ O)) ds xs) :
  RM ρz Sz Hz F K mg (i::O) ρ S (upd H p (.lst xs)) (σ.set i (some (.ref p))) (δ.set i (some (.lst ds))) Ω/\Same (hid H (fob (un F S) σ O)) (hid (upd H p (.lst xs)) (fob (un F S) (σ.set i (some (.ref p))) (i::O))):=by
 have lσ:i<σ.length:=by rw[R.rs.len];exact hi
 have pf:=R.fresh hp;have vs:Same (hid H (fob (un F S) σ O)) (hid (upd H p (.lst xs)) (fob (un F S) (σ.set i (some (.ref p))) (i::O))):=by
  intro b o q;obtain⟨q1,q2⟩:=hid_some.mp q;have hb:b≠p:=jaz q2 hp;refine hid_some.mpr ⟨?_,by rw[jah hb];exact q2⟩
  cases z:fob (un F S) (σ.set i (some (.ref p))) (i::O) b with
  | false=>rfl
  | true =>
   rcases fob_t.mp z with z|⟨j,hj,z⟩
   ·rw[fob_t.mpr (.inl z)] at q1;cases q1
   ·rcases List.mem_cons.mp hj with rfl|hj
    ·rw[zcz lσ] at z;cases z;exact absurd rfl hb
    ·rw[zbw (by rintro rfl;exact ho hj)] at z;rw[fob_t.mpr (.inr ⟨j,hj,z⟩)] at q1;cases q1
 refine⟨⟨(R.rs.take ho hi (Same.refl H) hp hr).rebase,R.rho,fun b o h1 h2=>?_,R.old,R.new,fun j hj a q=>?_,R.ff,R.sto.mono (fun b hb=>?_) vs (jtz (jn4 R.sto.tv fun _ z=>nomatch z) vs)⟩,vs⟩
 ·have h3:=R.same b o h1 h2;rw[jah (jaz h3 hp)];exact h3
 ·rcases List.mem_cons.mp hj with rfl|hj
  ·rw[zcz lσ] at q;cases q;exact R.fresh00 hp
  ·rw[zbw (by rintro rfl;exact ho hj)] at q;exact R.own0 j hj a q
 ·rw[jah];rintro rfl;rw[R.noS hp] at hb;cases hb
end
inductive tE(K:W.Frag)(mg:Str->Option Value)(O:List Nat)(f:DSt->MS D)(σ:St)(H:Hp)(Q:VK):Prop
 | mk (ρz:Rho) (Sz:Addr->Bool) (Hz:Hp) (F:Addr->Bool) (ρ:Rho) (S:Addr->Bool) (δ:DSt) (Ω:Sto) (R:RM ρz Sz Hz F K mg O ρ S H σ δ Ω) (r:Except XD D) (Ω':Sto) (hf:f δ Ω=some (r,Ω')) (k:match (generalizing:=false) r with
  | .ok d=>∀ v ρ' S' H',RM ρz Sz Hz F K mg O ρ' S' H' σ δ Ω'->RLe ρ ρ'->Same (hid H (fob (un F S) σ O)) (hid H' (fob (un F S') σ O))->Rep ρ' K (hid H' (fob (un F S') σ O)) d v->Q v H'
  | .error _=>True)
noncomputable def ME(X:Cx)(O:List Nat)(e:Expr)(f:DSt->MS D):Prop:=PE X e (tE X.K X.mg O f)
inductive tEB(K:W.Frag)(mg:Str->Option Value)(O:List Nat)(f:DSt->MS Bool)(σ:St)(H:Hp)(Q:Bool->Hp->Prop):Prop
 | mk (ρz:Rho) (Sz:Addr->Bool) (Hz:Hp) (F:Addr->Bool) (ρ:Rho) (S:Addr->Bool) (δ:DSt) (Ω:Sto) (R:RM ρz Sz Hz F K mg O ρ S H σ δ Ω) (r:Except XD Bool) (Ω':Sto) (hf:f δ Ω=some (r,Ω')) (k:match (generalizing:=false) r with
  | .ok d=>∀ ρ' S' H',RM ρz Sz Hz F K mg O ρ' S' H' σ δ Ω'->RLe ρ ρ'->Same (hid H (fob (un F S) σ O)) (hid H' (fob (un F S') σ O))->Q d H'
  | .error _=>True)
noncomputable def MT(X:Cx)(O:List Nat)(e:Expr)(f:DSt->MS Bool):Prop:=PT X e (tEB X.K X.mg O f)
noncomputable def MW(X:Cx)(O:List Nat)(e:Expr)(f:DSt->MS Bool):Prop:=PW X e (tEB X.K X.mg O f)
inductive tEL(K:W.Frag)(mg:Str->Option Value)(O:List Nat)(f:DSt->MS (List D))(σ:St)(H:Hp)(Q:List V->Hp->Prop):Prop
 | mk (ρz:Rho) (Sz:Addr->Bool) (Hz:Hp) (F:Addr->Bool) (ρ:Rho) (S:Addr->Bool) (δ:DSt) (Ω:Sto) (R:RM ρz Sz Hz F K mg O ρ S H σ δ Ω) (r:Except XD (List D)) (Ω':Sto) (hf:f δ Ω=some (r,Ω')) (k:match (generalizing:=false) r with
  | .ok ds=>∀ vs ρ' S' H',RM ρz Sz Hz F K mg O ρ' S' H' σ δ Ω'->RLe ρ ρ'->Same (hid H (fob (un F S) σ O)) (hid H' (fob (un F S') σ O))->Reps ρ' K (hid H' (fob (un F S') σ O)) ds vs->Q vs H'
  | .error _=>True)
noncomputable def MA(X:Cx)(O:List Nat)(es:List Expr)(f:DSt->MS (List D)):Prop:=PA X es (tEL X.K X.mg O f)
noncomputable def lF{α:Type}(f:DSt->M α):DSt->MS α:=fun δ=>MS.l (f δ)
noncomputable def jce(f:DSt->MS D)(g:DSt->MS (List D)):DSt->MS (List D):=fun δ=>(f δ).b fun x=>(g δ).b fun xs=>MS.p (x::xs)
noncomputable def m2(g:D->D->Option D)(fa fb:DSt->MS D):DSt->MS D:=fun δ=>(fa δ).b fun x=>(fb δ).b fun y=>MS.o (g x y)
noncomputable def m1(g:D->Option D)(fa:DSt->MS D):DSt->MS D:=fun δ=>(fa δ).b fun x=>MS.o (g x)
noncomputable def mL(k:List D->Option D)(g:DSt->MS (List D)):DSt->MS D:=fun δ=>(g δ).b fun xs=>MS.o (k xs)
noncomputable def mTru(fa:DSt->MS D):DSt->MS Bool:=fun δ=>(fa δ).b fun x=>MS.o (truD x)
noncomputable def mNot(ta:DSt->MS Bool):DSt->MS Bool:=fun δ=>(ta δ).b fun x=>MS.p !x
noncomputable def mAnd(ta tb:DSt->MS Bool):DSt->MS Bool:=fun δ=>(ta δ).b fun x=>if x=true then tb δ else MS.p false
noncomputable def mOr(ta tb:DSt->MS Bool):DSt->MS Bool:=fun δ=>(ta δ).b fun x=>if x=true then MS.p true else tb δ
noncomputable def getO(cs:List Str)(f:Str):D->MS D:=fun x Ω=>match x with
 | .obj i=>match Ω[i]? with
  | some (.ins c fs)=>if cs.contains c then (fs.lookup f).map fun d=>(.ok d,Ω) else none
  | _=>none
 | _=>none
noncomputable def mGet(cs:List Str)(f:Str)(fa:DSt->MS D):DSt->MS D:=fun δ=>(fa δ).b fun x=>getO cs f x
section
variable {X:Cx}{O:List Nat}{a b c e:Expr}{es:List Expr}{fa fb:DSt->MS D}{fl:DSt->MS (List D)}{pos:Pos}{ta tb:DSt->MS Bool}
theorem jai{f:DSt->M D}(h:DE X O E0 e f):ME X O e (lF f):=by
 rintro pins s σ H Q I ⟨ρz,Sz,Hz,F,ρ,S,δ,Ω,R,r,Ω',hf,k⟩;obtain⟨hg,rfl⟩:=MS.l_inv hf;refine h pins s σ H Q I ⟨ρ,_,un F S,δ,r,R.rs,hg,?_⟩
 cases r with
 | ok d=>exact fun v H' s' rv=>k v ρ S H' (R.mono s') (RLe.refl _) (jap s') rv
 | error x=>exact fun c dx H' _ z=>z.elim
theorem jel{f:DSt->M Bool}(h:DT X O E0 e f):MT X O e (lF f):=by
 rintro pins s σ H Q I ⟨ρz,Sz,Hz,F,ρ,S,δ,Ω,R,r,Ω',hf,k⟩;obtain⟨hg,rfl⟩:=MS.l_inv hf;refine h pins s σ H Q I ⟨ρ,_,un F S,δ,r,R.rs,hg,?_⟩
 cases r with
 | ok d=>exact fun H' s'=>k ρ S H' (R.mono s') (RLe.refl _) (jap s')
 | error x=>exact fun c dx H' _ z=>z.elim
theorem jbg{f:DSt->M (List D)}(h:DA X O E0 es f):MA X O es (lF f):=by
 rintro p pins s σ H Q I ⟨ρz,Sz,Hz,F,ρ,S,δ,Ω,R,r,Ω',hf,k⟩;obtain⟨hg,rfl⟩:=MS.l_inv hf;refine h p pins s σ H Q I ⟨ρ,_,un F S,δ,r,R.rs,hg,?_⟩
 cases r with
 | ok d=>exact fun v H' s' rv=>k v ρ S H' (R.mono s') (RLe.refl _) (jap s') rv
 | error x=>exact fun c dx H' _ z=>z.elim
theorem jbx(ha:ME X O e fa)(hr:MA X O es fl)(hs:autoParam (starEach (e::es) X.env=(false,eval e X.env)::starEach es X.env) zau2._auto_1):MA X O (e::es) (jce fa fl):=by
 rintro p pins s σ H Q I ⟨ρz,Sz,Hz,F,ρ,S,δ,Ω,R,r,Ω',hf,k⟩;refine jd6 ha hr hs p pins s σ H Q I ?_;rcases MS.b_inv hf with ⟨x,Ω1,e1,hf⟩|⟨x,e1,rfl⟩
 ·refine⟨ρz,Sz,Hz,F,ρ,S,δ,Ω,R,.ok x,Ω1,e1,fun u ρ1 S1 H1 R1 l1 v1 r1=>?_⟩;rcases MS.b_inv hf with ⟨xs,Ω2,e2,hf⟩|⟨y,e2,rfl⟩
  ·cases hf;exact⟨ρz,Sz,Hz,F,ρ1,S1,δ,Ω1,R1,.ok xs,_,e2,fun vs ρ2 S2 H2 R2 l2 v2 r2=>k (u::vs) ρ2 S2 H2 R2 (l1.trans l2) (v1.trans v2) (Reps.cons ((r1.rho l2).mono v2) r2)⟩
  ·exact⟨ρz,Sz,Hz,F,ρ1,S1,δ,Ω1,R1,.error y,_,e2,trivial⟩
 ·exact⟨ρz,Sz,Hz,F,ρ,S,δ,Ω,R,.error x,_,e1,trivial⟩
theorem jqm{g:D->D->Option D}{r:R2}{σ:St}{H:Hp}{Q:VK}(hg:OpD X.K g r)(h:tE X.K X.mg O (m2 g fa fb) σ H Q):tOp r (tE X.K X.mg O fa) (tE X.K X.mg O fb) σ H Q:=by
 obtain⟨ρz,Sz,Hz,F,ρ,S,δ,Ω,R,r,Ω',hf,k⟩:=h;rcases MS.b_inv hf with ⟨x,Ω1,e1,hf⟩|⟨x,e1,rfl⟩
 ·refine⟨ρz,Sz,Hz,F,ρ,S,δ,Ω,R,.ok x,Ω1,e1,fun u ρ1 S1 H1 R1 l1 v1 r1=>?_⟩;rcases MS.b_inv hf with ⟨y,Ω2,e2,hf⟩|⟨y,e2,rfl⟩
  ·refine⟨ρz,Sz,Hz,F,ρ1,S1,δ,Ω1,R1,.ok y,Ω2,e2,fun w ρ2 S2 H2 R2 l2 v2 r2=>?_⟩;obtain⟨d,hd,rfl,rfl⟩:=MS.o_inv hf;exact hg x y d hd ρ2 H2 _ u w Q (fun p hp=>R2.fresh hp) ((r1.rho l2).mono v2) r2 fun z H3 s3 r3=>k z ρ2 S2 H3 (R2.mono s3) (l1.trans l2) (v1.trans (v2.trans (jap s3))) r3
  ·exact⟨ρz,Sz,Hz,F,ρ1,S1,δ,Ω1,R1,.error y,_,e2,trivial⟩
 ·exact⟨ρz,Sz,Hz,F,ρ,S,δ,Ω,R,.error x,_,e1,trivial⟩
theorem jqn{g:D->D->Option D}{r:R2}(ho:IxR X r)(hg:OpD X.K g r)(ha:ME X O a fa)(hb:ME X O b fb)(hs:autoParam (jjq b) zau6._auto_1):ME X O (.Subscript a b pos) (m2 g fa fb) :=
 fun pins s σ H Q I h=>jw5 ho ha hb hs pins s σ H Q I (jqm hg h)
theorem jnn{x1}(h:MA X O es fl):ME X O (.Tuple es x1 pos) (mL jb6 fl):=by
 rintro pins s σ H Q I ⟨ρz,Sz,Hz,F,ρ,S,δ,Ω,R,r,Ω',hf,k⟩;refine jq7 h pins s σ H Q I ?_;rcases MS.b_inv hf with ⟨x,Ω1,e1,hf⟩|⟨x,e1,rfl⟩
 ·refine⟨ρz,Sz,Hz,F,ρ,S,δ,Ω,R,.ok x,Ω1,e1,fun u ρ1 S1 H1 R1 l1 v1 r1=>?_⟩;obtain⟨d,hd,rfl,rfl⟩:=MS.o_inv hf;unfold jb6 at hd
  split at hd
  ·rename_i hz;cases hd;exact⟨by rw[r1.length];exact hz,fun p hp=>k _ ρ1 S1 _ (R1.mono (ja1 hp)) l1 (v1.trans (jap (ja1 hp))) (jby hp (R1.fresh hp) r1)⟩
  ·cases hd
 ·exact⟨ρz,Sz,Hz,F,ρ,S,δ,Ω,R,.error x,_,e1,trivial⟩
theorem jqu(ha:ME X O a fa)(he:autoParam (∀ whole,isTrue a X.env whole=(do let v <- whole;standAt a.pos;holding [v] (truthy v))) zau7._auto_1):MT X O a (mTru fa):=by
 rintro pins s σ H Q I ⟨ρz,Sz,Hz,F,ρ,S,δ,Ω,R,r,Ω',hf,k⟩;refine jnw ha he pins s σ H Q I ?_;rcases MS.b_inv hf with ⟨x,Ω1,e1,hf⟩|⟨x,e1,rfl⟩
 ·refine⟨ρz,Sz,Hz,F,ρ,S,δ,Ω,R,.ok x,Ω1,e1,fun u ρ1 S1 H1 R1 l1 v1 r1=>?_⟩;obtain⟨z,hz,rfl,rfl⟩:=MS.o_inv hf;refine⟨z,?_,k ρ1 S1 H1 R1 l1 v1⟩
  cases x with
  | non=>cases hz;rw[rep_non.mp r1];rfl
  | bl y=>cases hz;rw[rep_bl.mp r1];rfl
  | int i=>cases hz;rw[rep_int.mp r1];rfl
  | str y =>
   by_cases hl:y.length<=sizeLine
   ·have e:truD (.str y)=some ((y.length:Int) != 0):=if_pos hl;rw[e] at hz;cases hz
    rw[rep_str.mp r1];exact⟨hl,rfl⟩
   ·have e:truD (.str y)=none:=if_neg hl;rw[e] at hz;cases hz
  | tup ds =>
   cases hz;obtain⟨q,xs,rfl,q2,q3⟩:=rep_tup.mp r1;exact .inr (.inl ⟨xs,jc1 jaj q2,by rw[isE q3]⟩)
  | lst ds =>
   cases hz;obtain⟨q,xs,rfl,q2,q3⟩:=rep_lst.mp r1;exact .inl ⟨xs,jcm jaj q2,by rw[isE q3]⟩
  | ty n=>cases hz
  | obj n=>cases hz
 ·exact⟨ρz,Sz,Hz,F,ρ,S,δ,Ω,R,.error x,_,e1,trivial⟩
theorem jur(ha:MT X O a ta):MT X O (.UnaryOp .Not a pos) (mNot ta):=by
 rintro pins s σ H Q I ⟨ρz,Sz,Hz,F,ρ,S,δ,Ω,R,r,Ω',hf,k⟩;refine ju2 ha pins s σ H Q I ?_;rcases MS.b_inv hf with ⟨x,Ω1,e1,hf⟩|⟨x,e1,rfl⟩
 ·cases hf;exact⟨ρz,Sz,Hz,F,ρ,S,δ,Ω,R,.ok x,_,e1,fun ρ1 S1 H1 R1 l1 v1=>k ρ1 S1 H1 R1 l1 v1⟩
 ·exact⟨ρz,Sz,Hz,F,ρ,S,δ,Ω,R,.error x,_,e1,trivial⟩
theorem MW.mt{f:DSt->MS Bool}(h:MW X O e f):MT X O e f:=PW.pt h
theorem jws(ha:MT X O a ta):MW X O (.BoolOp .And [a] pos) ta:=jrf ha
theorem jus(ha:MT X O a ta):MW X O (.BoolOp .Or [a] pos) ta:=jAl ha
theorem jz0{rest:List Expr}(ha:MT X O a ta)(hb:MW X O (.BoolOp .And (b::rest) pos) tb):MW X O (.BoolOp .And (a::b::rest) pos) (mAnd ta tb):=by
 rintro wh pins s σ H Q I ⟨ρz,Sz,Hz,F,ρ,S,δ,Ω,R,r,Ω',hf,k⟩;refine ju3 ha hb wh pins s σ H Q I ?_;rcases MS.b_inv hf with ⟨x,Ω1,e1,hf⟩|⟨x,e1,rfl⟩
 ·refine⟨ρz,Sz,Hz,F,ρ,S,δ,Ω,R,.ok x,Ω1,e1,fun ρ1 S1 H1 R1 l1 v1=>?_⟩
  cases x with
  | true =>
   refine iteT ⟨ρz,Sz,Hz,F,ρ1,S1,δ,Ω1,R1,r,Ω',hf,?_⟩
   cases r with
   | ok d=>exact fun ρ2 S2 H2 R2 l2 v2=>k ρ2 S2 H2 R2 (l1.trans l2) (v1.trans v2)
   | error y=>trivial
  | false=>cases hf;exact iteF (k ρ1 S1 H1 R1 l1 v1)
 ·exact⟨ρz,Sz,Hz,F,ρ,S,δ,Ω,R,.error x,_,e1,trivial⟩
theorem jz1{rest:List Expr}(ha:MT X O a ta)(hb:MW X O (.BoolOp .Or (b::rest) pos) tb):MW X O (.BoolOp .Or (a::b::rest) pos) (mOr ta tb):=by
 rintro wh pins s σ H Q I ⟨ρz,Sz,Hz,F,ρ,S,δ,Ω,R,r,Ω',hf,k⟩;refine jCp ha hb wh pins s σ H Q I ?_;rcases MS.b_inv hf with ⟨x,Ω1,e1,hf⟩|⟨x,e1,rfl⟩
 ·refine⟨ρz,Sz,Hz,F,ρ,S,δ,Ω,R,.ok x,Ω1,e1,fun ρ1 S1 H1 R1 l1 v1=>?_⟩
  cases x with
  | true=>cases hf;exact iteT (k ρ1 S1 H1 R1 l1 v1)
  | false =>
   refine iteF ⟨ρz,Sz,Hz,F,ρ1,S1,δ,Ω1,R1,r,Ω',hf,?_⟩
   cases r with
   | ok d=>exact fun ρ2 S2 H2 R2 l2 v2=>k ρ2 S2 H2 R2 (l1.trans l2) (v1.trans v2)
   | error y=>trivial
 ·exact⟨ρz,Sz,Hz,F,ρ,S,δ,Ω,R,.error x,_,e1,trivial⟩
end
structure RT(ρz:Rho)(Sz:Addr->Bool)(Hz:Hp)(F:Addr->Bool)(K:W.Frag)(mg:Str->Option Value)(ρ:Rho)(S:Addr->Bool)(H:Hp)(Ω:Sto):Prop where
 rho:RLe ρz ρ
 same:∀ b o,Sz b=false->Hz b=some o->H b=some o
 old:∀ b,Sz b=true->S b=true
 new:∀ b,S b=true->Sz b=true\/Hz b=none
 ff:∀ b,F b=true->S b=false
 sto:StoOk ρ S K mg H (hid H (un F S)) Ω
section
variable {ρz ρ:Rho}{Sz S F:Addr->Bool}{Hz H H':Hp}{K:W.Frag}{mg:Str->Option Value}{O O':List Nat}{σ σ':St}{δ δ':DSt}{Ω:Sto}
theorem jgt{σ:St}{O:List Nat}{F:Addr->Bool}:∀ b,F b=true->fob F σ O b=true:=fun b h=>fob_t.mpr (.inl h)
theorem RM.rt(R:RM ρz Sz Hz F K mg O ρ S H σ δ Ω):RT ρz Sz Hz F K mg ρ S H Ω :=
 ⟨R.rho,R.same,R.old,R.new,R.ff,R.sto.mono (fun _ _=>rfl) (jee jgt) (jtz R.sto.tv (jee jgt))⟩
theorem RM.base_some(R:RM ρz Sz Hz F K mg O ρ S H σ δ Ω){b:Addr}{o:HO}(h:H b=some o)(hn:¬ ∃ i∈O,σ[i]? = some (some (.ref b))):hid H (fob nof σ O) b=some o :=
 hid_some.mpr ⟨by cases e:fob nof σ O b with
  | false=>rfl
  | true=>rcases fob_t.mp e with q|q;cases q;exact absurd q hn,h⟩
theorem RM.base_S(R:RM ρz Sz Hz F K mg O ρ S H σ δ Ω){b:Addr}(hb:S b=true):¬ ∃ i∈O,σ[i]? = some (some (.ref b)):=by
 rintro⟨i,hi,q⟩;obtain⟨a,xs,ds,q1,q2,q3,q4,q5⟩:=R.rs.own i hi;rw[q] at q2;cases q2
 rw[(un_f.mp q4.2).2] at hb;cases hb
theorem RM.base_0(R:RM ρz Sz Hz F K mg O ρ S H σ δ Ω){b:Addr}{o:HO}(hb:Hz b=some o):¬ ∃ i∈O,σ[i]? = some (some (.ref b)):=by
 rintro⟨i,hi,q⟩;rw[R.own0 i hi b q] at hb;cases hb
theorem RM.no_tup(R:RM ρz Sz Hz F K mg O ρ S H σ δ Ω)(s:Same (hid H (fob nof σ O)) H'){b:Addr}{xs:List V}(hb:un F S b=true):H' b≠some (.tup xs):=fun q=>by
 cases e:H b with
 | none=>exact R.rs.fin b hb e
 | some o =>
  have:=s b o (R.base_some e fun ⟨i,hi,y⟩=>by
   obtain⟨a,xs,ds,q1,q2,q3,q4,q5⟩:=R.rs.own i hi;rw[y] at q2;cases q2
   rw[q4.2] at hb;cases hb)
  rw[q] at this;cases this;have:=(hid_some.mp (R.sto.tv b xs e)).1;rw[jgt b hb] at this;cases this
theorem RM.next(R:RM ρz Sz Hz F K mg O ρ S H σ δ Ω)(R':RS ρ K (hid H (fob nof σ O)) H' (un F S) O' σ' δ')(v:Same (hid H (fob (un F S) σ O)) (hid H' (fob (un F S) σ' O'))):RM ρz Sz Hz F K mg O' ρ S H' σ' δ' Ω:=by
 refine⟨R'.rebase,R.rho,fun b o h1 h2=>R'.same b o (R.base_some (R.same b o h1 h2) (R.base_0 h2)),R.old,R.new,fun i hi a q=>?_,R.ff,R.sto.mono (fun b hb=>?_) v fun b xs q=>hid_some.mpr ⟨?_,q⟩⟩
 ·obtain⟨a',xs,ds,q1,q2,q3,q4,q5⟩:=R'.own i hi;rw[q] at q2;cases q2
  have h0:=q4.1
  cases e:H a with
  | none=>exact R.fresh00 e
  | some o =>
   by_cases hn:∃ i∈O,σ[i]? = some (some (.ref a))
   ·obtain⟨j,hj,z⟩:=hn;exact R.own0 j hj a z
   ·rw[R.base_some e hn] at h0;cases h0
 ·cases e:H b with
  | none=>exact absurd e (R.sto.fin b hb)
  | some o=>exact R'.same b o (R.base_some e (R.base_S hb))
 ·cases z:fob (un F S) σ' O' b with
  | false=>rfl
  | true =>
   rcases fob_t.mp z with z|⟨i,hi,z⟩
   ·exact absurd q (R.no_tup R'.same z)
   ·obtain⟨a,xs,ds,q1,q2,q3,q4,q5⟩:=R'.own i hi;rw[z] at q2;cases q2
    rw[q3] at q;cases q
theorem RM.left(R:RM ρz Sz Hz F K mg O ρ S H σ δ Ω)(s:Same (hid H (fob nof σ O)) H'):RT ρz Sz Hz F K mg ρ S H' Ω:=by
 refine⟨R.rho,fun b o h1 h2=>s b o (R.base_some (R.same b o h1 h2) (R.base_0 h2)),R.old,R.new,R.ff,R.sto.mono (fun b hb=>?_) (fun b o q=>?_) fun b xs q=>hid_some.mpr ⟨?_,q⟩⟩
 ·cases e:H b with
  | none=>exact absurd e (R.sto.fin b hb)
  | some o=>exact s b o (R.base_some e (R.base_S hb))
 ·obtain⟨q1,q2⟩:=hid_some.mp q;refine hid_some.mpr ⟨?_,s b o (R.base_some q2 fun hn=>?_)⟩
  ·cases e:un F S b with
   | false=>rfl
   | true=>rw[jgt b e] at q1;cases q1
  ·rw[fob_t.mpr (.inr hn)] at q1;cases q1
 ·cases z:un F S b with
  | false=>rfl
  | true=>exact absurd q (R.no_tup s z)
end
noncomputable def OkE(K:W.Frag)(mg:Str->Option Value)(O' B:List Nat)(ρz:Rho)(Sz:Addr->Bool)(Hz:Hp)(F:Addr->Bool)(ρ:Rho)(Hv:Hp)(Dn:Ends):Except XD Out->Sto->Prop
 | .ok (.nx δ'),Ω'=>∀ ρ' S' σ' H',RM ρz Sz Hz F K mg O' ρ' S' H' σ' δ' Ω'->RLe ρ ρ'->Same Hv (hid H' (fob (un F S') σ' O'))->Dn.nx σ' H'
 | .ok (.rt d),Ω'=>∀ v ρ' S' H',RT ρz Sz Hz F K mg ρ' S' H' Ω'->Rep ρ' K (hid H' (un F S')) d v->Dn.rt v H'
 | .ok (.bk δ'),Ω'=>∀ ρ' S' σ' H',RM ρz Sz Hz F K mg B ρ' S' H' σ' δ' Ω'->RLe ρ ρ'->Same Hv (hid H' (fob (un F S') σ' B))->Dn.bk σ' H'
 | .ok (.ct δ'),Ω'=>∀ ρ' S' σ' H',RM ρz Sz Hz F K mg B ρ' S' H' σ' δ' Ω'->RLe ρ ρ'->Same Hv (hid H' (fob (un F S') σ' B))->Dn.ct σ' H'
 | .error _,_=>True
theorem OkE.back{K:W.Frag}{mg:Str->Option Value}{O' B:List Nat}{ρz ρ ρ':Rho}{Sz:Addr->Bool}{Hz:Hp}{F:Addr->Bool}{Hv Hv':Hp}{Dn:Ends}{r:Except XD Out}{Ω':Sto}(l:RLe ρ ρ')(e:Same Hv Hv')(h:OkE K mg O' B ρz Sz Hz F ρ Hv Dn r Ω') :
  OkE K mg O' B ρz Sz Hz F ρ' Hv' Dn r Ω':=by
 cases r with
 | error x=>trivial
 | ok o =>
  cases o with
  | nx δ'=>exact fun ρ1 S1 σ1 H1 R l1 v1=>h ρ1 S1 σ1 H1 R (l.trans l1) (e.trans v1)
  | bk δ'=>exact fun ρ1 S1 σ1 H1 R l1 v1=>h ρ1 S1 σ1 H1 R (l.trans l1) (e.trans v1)
  | ct δ'=>exact fun ρ1 S1 σ1 H1 R l1 v1=>h ρ1 S1 σ1 H1 R (l.trans l1) (e.trans v1)
  | rt d=>exact h
inductive sE(K:W.Frag)(mg:Str->Option Value)(O O' B:List Nat)(g:DSt->MS Out)(Dn:Ends)(σ:St)(H:Hp):Prop
 | mk (ρz:Rho) (Sz:Addr->Bool) (Hz:Hp) (F:Addr->Bool) (ρ:Rho) (S:Addr->Bool) (δ:DSt) (Ω:Sto) (R:RM ρz Sz Hz F K mg O ρ S H σ δ Ω) (r:Except XD Out) (Ω':Sto) (hf:g δ Ω=some (r,Ω')) (k:OkE K mg O' B ρz Sz Hz F ρ (hid H (fob (un F S) σ O)) Dn r Ω')
noncomputable def MSt(X:Cx)(O O' B:List Nat)(st:Stmt)(g:DSt->MS Out):Prop:=PS X st (sE X.K X.mg O O' B g)
noncomputable def MSs(X:Cx)(O O' B:List Nat)(st:List Stmt)(g:DSt->MS Out):Prop:=PSs X st (sE X.K X.mg O O' B g)
noncomputable def eNx:DSt->MS Out:=fun δ=>MS.p (.nx δ)
noncomputable def eSeq(g1 g2:DSt->MS Out):DSt->MS Out:=fun δ=>(g1 δ).b fun o=>match o with
 | .nx δ'=>g2 δ'
 | o=>MS.p o
noncomputable def eSet(i:Nat)(f:DSt->MS D):DSt->MS Out:=fun δ=>(f δ).b fun d=>MS.p (.nx (δ.set i (some d)))
noncomputable def eRet(f:DSt->MS D):DSt->MS Out:=fun δ=>(f δ).b fun d=>MS.p (.rt d)
noncomputable def jl6(f:DSt->MS D):DSt->MS Out:=fun δ=>(f δ).b fun _=>MS.p (.nx δ)
noncomputable def eIf(t:DSt->MS Bool)(g1 g2:DSt->MS Out):DSt->MS Out:=fun δ=>(t δ).b fun b=>if b=true then g1 δ else g2 δ
noncomputable def putO(cs:List Str)(f:Str)(x d:D):MS Unit:=fun Ω=>match x with
 | .obj i=>match Ω[i]? with
  | some (.ins c fs)=>if (cs.contains c&&decide (fs.length<1000))=true then some (.ok (),Ω.set i (.ins c (putD f d fs))) else none
  | _=>none
 | _=>none
noncomputable def ePut(cs:List Str)(f:Str)(fo fv:DSt->MS D):DSt->MS Out:=fun δ=>(fv δ).b fun d=>(fo δ).b fun x=>(putO cs f x d).b fun _=>MS.p (.nx δ)
noncomputable def forE(g:DSt->MS Out)(tg:D->DSt->Option DSt):List D->DSt->MS Out
 | [],δ=>MS.p (.nx δ)
 | d::ds,δ=>match tg d δ with
  | none=>fun _=>none
  | some δ1=>(g δ1).b fun o=>match o with
   | .nx δ'=>forE g tg ds δ'
   | .ct δ'=>forE g tg ds δ'
   | .bk δ'=>MS.p (.nx δ')
   | .rt v=>MS.p (.rt v)
noncomputable def eFor(fi:DSt->MS (List D))(tg:D->DSt->Option DSt)(g:DSt->MS Out):DSt->MS Out:=fun δ=>(fi δ).b fun ds=>forE g tg ds δ
section
variable {X:Cx}{O O' O'' B:List Nat}{c e:Expr}{fa:DSt->MS D}{pos:Pos}{st:Stmt}{rest:List Stmt}{g g1 g2:DSt->MS Out}{tc:DSt->MS Bool}
theorem jcb{h:DSt->M Out}(hd:DS X O O' B E0 st h):MSt X O O' B st (lF h):=by
 rintro pins s σ H Dn I ⟨ρz,Sz,Hz,F,ρ,S,δ,Ω,R,r,Ω',hf,k⟩;obtain⟨hg,rfl⟩:=MS.l_inv hf;refine hd pins s σ H Dn I ⟨ρ,_,un F S,δ,r,R.rs,hg,?_⟩
 cases r with
 | error x=>exact fun c dx H' _ z=>z.elim
 | ok o =>
  cases o with
  | nx δ'=>exact fun σ' H' v R'=>k ρ S σ' H' (R.next R' v) (RLe.refl _) v
  | bk δ'=>exact fun σ' H' v R'=>k ρ S σ' H' (R.next R' v) (RLe.refl _) v
  | ct δ'=>exact fun σ' H' v R'=>k ρ S σ' H' (R.next R' v) (RLe.refl _) v
  | rt d=>exact fun v H' s' rv=>k v ρ S H' (R.left s') rv
theorem jgh:MSs X O O B [] eNx:=by
 rintro pins s σ H Dn I ⟨ρz,Sz,Hz,F,ρ,S,δ,Ω,R,r,Ω',hf,k⟩;cases hf;exact jre pins s σ H Dn I (k ρ S σ H R (RLe.refl _) (Same.refl _))
theorem jay(h1:MSt X O O' B st g1)(h2:MSs X O' O'' B rest g2):MSs X O O'' B (st::rest) (eSeq g1 g2):=by
 rintro pins s σ H Dn I ⟨ρz,Sz,Hz,F,ρ,S,δ,Ω,R,r,Ω',hf,k⟩;refine jkk h1 h2 pins s σ H Dn I ?_;rcases MS.b_inv hf with ⟨o,Ω1,e1,hf⟩|⟨x,e1,rfl⟩
 ·refine⟨ρz,Sz,Hz,F,ρ,S,δ,Ω,R,.ok o,Ω1,e1,?_⟩
  cases o with
  | nx δ'=>exact fun ρ1 S1 σ1 H1 R1 l1 v1=>⟨ρz,Sz,Hz,F,ρ1,S1,δ',Ω1,R1,r,Ω',hf,k.back l1 v1⟩
  | rt d=>cases hf;exact k
  | bk δ'=>cases hf;exact k
  | ct δ'=>cases hf;exact k
 ·exact⟨ρz,Sz,Hz,F,ρ,S,δ,Ω,R,.error x,_,e1,trivial⟩
theorem jbj(h1:MSt X O O' B st g):MSs X O O' B [st] g:=fun pins s σ H Dn I h=>jis h1 pins s σ H Dn I h
theorem jwr{sts:List Stmt}(hO:∀ i∈O',i∈O)(h:MSs X O' O'' B sts g):MSs X O O'' B sts g:=by
 rintro pins s σ H Dn I ⟨ρz,Sz,Hz,F,ρ,S,δ,Ω,R,r,Ω',hf,k⟩;exact h pins s σ H Dn I ⟨ρz,Sz,Hz,F,ρ,S,δ,Ω,R.thaw hO,r,Ω',hf,k.back (RLe.refl _) (jee (jqg hO))⟩
theorem jjj{i:Nat}{x:Str}{pos':Pos}(hN:X.N.Nodup)(he:ME X O e fa)(ho:autoParam (O.contains i=false) zau2._auto_1)(hi:autoParam (X.N[i]? = some x) zau2._auto_1)(hx:autoParam (Loc X.env.scope x) zau8._auto_1)(hs:autoParam (swapsWith e (some (.Name x pos')) pos.line X.env=pure false) zau2._auto_1)
  (hf:autoParam (X.fn x=true\/X.env.scope.names.lookup x=some .local) zau0._auto_1):MSt X O O B (.Assign [.Name x pos'] e pos) (eSet i fa):=by
 rintro pins s σ H Dn I ⟨ρz,Sz,Hz,F,ρ,S,δ,Ω,R,r,Ω',hg,k⟩;have ho':i∉O:=fun z=>by rw[zbc.mpr z] at ho;cases ho
 refine jlp hN hi hx he hs hf pins s σ H Dn I ?_;rcases MS.b_inv hg with ⟨d,Ω1,e1,hg⟩|⟨x,e1,rfl⟩
 ·cases hg;exact⟨ρz,Sz,Hz,F,ρ,S,δ,Ω,R,.ok d,_,e1,fun v ρ1 S1 H1 R1 l1 v1 r1=>k ρ1 S1 _ H1 (R1.set ho' r1) l1 (by rw[jc5 ho'];exact v1)⟩
 ·exact⟨ρz,Sz,Hz,F,ρ,S,δ,Ω,R,.error x,_,e1,trivial⟩
theorem jno(he:ME X O e fa):MSt X O O' B (.Return (some e) pos) (eRet fa):=by
 rintro pins s σ H Dn I ⟨ρz,Sz,Hz,F,ρ,S,δ,Ω,R,r,Ω',hg,k⟩;refine jrd he pins s σ H Dn I ?_;rcases MS.b_inv hg with ⟨d,Ω1,e1,hg⟩|⟨x,e1,rfl⟩
 ·cases hg;exact⟨ρz,Sz,Hz,F,ρ,S,δ,Ω,R,.ok d,_,e1,fun v ρ1 S1 H1 R1 l1 v1 r1=>k v ρ1 S1 H1 R1.rt (r1.mono (jee jgt))⟩
 ·exact⟨ρz,Sz,Hz,F,ρ,S,δ,Ω,R,.error x,_,e1,trivial⟩
theorem jwm(he:ME X O e fa)(hs:autoParam (swapsWith e none pos.line X.env=pure false) zau2._auto_1):MSt X O O B (.Expr e pos) (jl6 fa):=by
 rintro pins s σ H Dn I ⟨ρz,Sz,Hz,F,ρ,S,δ,Ω,R,r,Ω',hg,k⟩;refine jmp he hs pins s σ H Dn I ?_;rcases MS.b_inv hg with ⟨d,Ω1,e1,hg⟩|⟨x,e1,rfl⟩
 ·cases hg;exact⟨ρz,Sz,Hz,F,ρ,S,δ,Ω,R,.ok d,_,e1,fun v ρ1 S1 H1 R1 l1 v1 r1=>k ρ1 S1 σ H1 R1 l1 v1⟩
 ·exact⟨ρz,Sz,Hz,F,ρ,S,δ,Ω,R,.error x,_,e1,trivial⟩
theorem ji9{s1 s2:List Stmt}(hc:MT X O c tc)(h1:MSs X O O' B s1 g1)(h2:MSs X O O' B s2 g2):MSt X O O' B (.If c s1 s2 pos) (eIf tc g1 g2):=by
 rintro pins s σ H Dn I ⟨ρz,Sz,Hz,F,ρ,S,δ,Ω,R,r,Ω',hg,k⟩;refine jxc hc h1 h2 pins s σ H Dn I ?_;rcases MS.b_inv hg with ⟨z,Ω1,e1,hg⟩|⟨x,e1,rfl⟩
 ·refine⟨ρz,Sz,Hz,F,ρ,S,δ,Ω,R,.ok z,_,e1,fun ρ1 S1 H1 R1 l1 v1=>?_⟩
  cases z with
  | true=>exact iteT ⟨ρz,Sz,Hz,F,ρ1,S1,δ,Ω1,R1,r,Ω',hg,k.back l1 v1⟩
  | false=>exact iteF ⟨ρz,Sz,Hz,F,ρ1,S1,δ,Ω1,R1,r,Ω',hg,k.back l1 v1⟩
 ·exact⟨ρz,Sz,Hz,F,ρ,S,δ,Ω,R,.error x,_,e1,trivial⟩
end
section
variable {ρz ρ ρ':Rho}{Sz S S' F:Addr->Bool}{Hz H H1 H':Hp}{K:W.Frag}{mg:Str->Option Value}{O:List Nat}{σ:St}{δ:DSt}{Ω Ω':Sto}
theorem RS.updF{a:Addr}{o:HO}(R:RS ρ K H1 H F O σ δ)(h:F a=true):RS ρ K (hid (upd H a o) (fob nof σ O)) (upd H a o) F O σ δ:=by
 have hh:hid (upd H a o) (fob F σ O)=hid H (fob F σ O):=jgf (jgt a h);refine⟨R.len,jaj,fun b hb=>jjp (R.fin b hb),fun i d hd hi=>by rw[hh];exact R.val i d hd hi,fun i hi=>?_,R.nd⟩;obtain⟨l,xs,ds,q1,q2,q3,q4,q5⟩:=R.own i hi;have hl:l≠a:=by rintro rfl;rw[q4.2] at h;cases h
 refine⟨l,xs,ds,q1,q2,by rw[jah hl];exact q3,⟨?_,q4.2⟩,by rw[hh];exact q5⟩;unfold hid;rw[if_pos (fob_t.mpr (.inr ⟨i,hi,q2⟩))]
theorem jd8:un (fob F σ O) S=fob (un F S) σ O:=by
 funext b
 unfold un fob;simp only;cases F b<;>cases S b<;>cases (ownA σ O).contains b<;>rfl
theorem RM.call(R:RM ρz Sz Hz F K mg O ρ S H σ δ Ω)(l:RLe ρ ρ')(sm:∀ b o,S b=false->H b=some o->H' b=some o)(old:∀ b,S b=true->S' b=true)(new:∀ b,S' b=true->S b=true\/H b=none)
  (ff:∀ b,fob F σ O b=true->S' b=false) (sto:StoOk ρ' S' K mg H' (hid H' (un (fob F σ O) S')) Ω') :
  RM ρz Sz Hz F K mg O ρ' S' H' σ δ Ω'/\Same (hid H (fob (un F S) σ O)) (hid H' (fob (un F S') σ O)):=by
 have keepS:∀ b o,S b=false->H b=some o->S' b=false:=fun b o h1 h2=>by
  cases e:S' b with
  | false=>rfl
  | true =>
   rcases new b e with q|q
   ·rw[q] at h1;cases h1
   ·rw[q] at h2;cases h2
 have vis:Same (hid H (fob (un F S) σ O)) (hid H' (fob (un F S') σ O)):=fun b o q=>by
  obtain⟨q1,q2⟩:=hid_some.mp q;have hu:un F S b=false:=by
   cases e:un F S b with
   | false=>rfl
   | true=>rw[jgt b e] at q1;cases q1
  obtain⟨h1,h2⟩:=un_f.mp hu;refine hid_some.mpr ⟨?_,sm b o h2 q2⟩
  cases e:fob (un F S') σ O b with
  | false=>rfl
  | true =>
   rcases fob_t.mp e with z|z
   ·rcases un_t.mp z with z|z
    ·rw[h1] at z;cases z
    ·rw[keepS b o h2 q2] at z;cases z
   ·rw[fob_t.mpr (.inr z)] at q1;cases q1
 have rs:RS ρ' K (hid H' (fob nof σ O)) H' (un F S') O σ δ:=by
  refine⟨R.rs.len,jaj,fun b hb=>?_,fun i d hd hi=>?_,fun i hi=>?_,R.rs.nd⟩
  ·rcases un_t.mp hb with q|q
   ·have h1:=R.rs.fin b (un_t.mpr (.inl q));intro z
    cases e:H b with
    | none=>exact h1 e
    | some o=>rw[sm b o (R.ff b q) e] at z;cases z
   ·exact sto.fin b q
  ·obtain⟨v,q1,q2⟩:=R.rs.val i d hd hi;exact⟨v,q1,(q2.rho l).mono vis⟩
  ·obtain⟨a,xs,ds,q1,q2,q3,q4,q5⟩:=R.rs.own i hi;have hS:=(un_f.mp q4.2).2;refine⟨a,xs,ds,q1,q2,sm a _ hS q3,⟨?_,un_f.mpr ⟨(un_f.mp q4.2).1,keepS a _ hS q3⟩⟩,(q5.rho l).mono vis⟩;unfold hid;rw[if_pos (fob_t.mpr (.inr ⟨i,hi,q2⟩))]
 refine⟨⟨rs,R.rho.trans l,fun b o h1 h2=>?_,fun b hb=>old b (R.old b hb),fun b hb=>?_,R.own0,fun b hb=>ff b (fob_t.mpr (.inl hb)),by rw[jd8] at sto;exact sto⟩,vis⟩
 ·have h3:=R.same b o h1 h2;refine sm b o ?_ h3
  cases e:S b with
  | false=>rfl
  | true =>
   rcases R.new b e with q|q
   ·rw[q] at h1;cases h1
   ·rw[q] at h2;cases h2
 ·rcases new b hb with q|q
  ·exact R.new b q
  ·exact .inr (R.fresh00 q)
noncomputable def addR(ρ:Rho)(n:Nat)(x:Addr):Rho:=fun i=>if i=n then some x else ρ i
noncomputable def addS(S:Addr->Bool)(x dx:Addr):Addr->Bool:=fun b=>S b || b == x || b == dx
theorem addS_t{S:Addr->Bool}{x dx b:Addr}:addS S x dx b=true↔S b=true\/b=x\/b=dx:=by
 unfold addS;simp only[Bool.or_eq_true,beq_iff_eq,or_assoc]
end
inductive spE(K:W.Frag)(mg:Str->Option Value)(n:Nat)(m:List D->MS D)(vs:List V)(H:Hp)(Q:VK)(E:XK):Prop
 | mk (hn:vs.length=n) (ρ:Rho) (S F:Addr->Bool) (ds:List D) (Ω:Sto) (hF:∀ b,F b=true->H b≠none) (hS:∀ b,F b=true->S b=false) (hr:Reps ρ K (hid H (un F S)) ds vs) (hs:StoOk ρ S K mg H (hid H (un F S)) Ω) (r:Except XD D) (Ω':Sto) (hf:m ds Ω=some (r,Ω')) (k:match (generalizing:=false) r with
  | .ok d=>∀ v ρ' S' H',RLe ρ ρ'->(∀ b o,S b=false->H b=some o->H' b=some o)->(∀ b,S b=true->S' b=true)->(∀ b,S' b=true->S b=true\/H b=none)->(∀ b,F b=true->S' b=false)->StoOk ρ' S' K mg H' (hid H' (un F S')) Ω'->Rep ρ' K (hid H' (un F S')) d v->Q v H'
  | .error _=>True)
inductive MetX(P:Program)(w:World)(K:W.Frag)(mg:Str->Option Value)(base:Heap)(k:Nat)(c x:Str)(n:Nat)(sp:Sp):Prop
 | mk (C f:Addr) (fd:FuncData) (ps:List Str) (h1:ps.length=n) (h2:mg c=some (.ref C)) (h3:Cls K C) (h4:Meth K C x f) (h5:Binds K fd ps []) (h6:FnOk P w K mg base CX0 k f fd ps sp)
inductive IniX(P:Program)(w:World)(K:W.Frag)(mg:Str->Option Value)(base:Heap)(k:Nat)(c:Str)(n:Nat)(sp:Sp):Prop
 | mk (C f:Addr) (fd:FuncData) (ps:List Str) (h1:ps.length=n) (h2:mg c=some (.ref C)) (h3:Mk K C f) (h4:Binds K fd ps []) (h5:FnOk P w K mg base CX0 k f fd ps sp)
structure CalE(P:Program)(w:World)(K:W.Frag)(mg:Str->Option Value)(base:Heap)(k:Nat)(x:Str)(n:Nat)(m:List D->MS D):Prop where
 ex:CalX P w K mg base k x n (spE K mg n m)
 ar:∀ ds Ω r,m ds Ω=some r->ds.length=n
structure MetE(P:Program)(w:World)(K:W.Frag)(mg:Str->Option Value)(base:Heap)(k:Nat)(c x:Str)(n:Nat)(m:List D->MS D):Prop where
 ex:MetX P w K mg base k c x n (spE K mg n m)
 ar:∀ ds Ω r,m ds Ω=some r->ds.length=n
structure IniE(P:Program)(w:World)(K:W.Frag)(mg:Str->Option Value)(base:Heap)(k:Nat)(c:Str)(n:Nat)(m:List D->MS D):Prop where
 ex:IniX P w K mg base k c n (spE K mg n m)
 ar:∀ ds Ω r,m ds Ω=some r->ds.length=n
noncomputable def outE:Out->MS D
 | .rt d=>MS.p d
 | .nx _=>MS.p .non
 | _=>fun _=>none
noncomputable def mirE(n N:Nat)(g:DSt->MS Out):List D->MS D:=fun ds=>if ds.length=n then (g (startD N ds)).b outE else fun _=>none
theorem jmg{n N:Nat}{g:DSt->MS Out}:∀ ds Ω r,mirE n N g ds Ω=some r->ds.length=n:=fun ds Ω r h=>by
 unfold mirE at h
 split at h
 ·assumption
 ·cases h
section
variable {P:Program}{w:World}{K:W.Frag}{mg:Str->Option Value}{base:Heap}
theorem fn_E{x q:Str}{st:Stmt}{N ps:List Str}{k:Nat}{O':List Nat}{g:DSt->MS Out}{f:Addr}{fd:FuncData}(F:Fun K x q st f fd)(Sc:FnScope N ps (jae st))
  (hbody:∀ (f:Addr) (cdv:Value) (A:Around) (outer:List Env) (s:Shared) (H:Hp) (E:XK),Room k (A.deeper (PyProof.Rows.envOfC q (jae st) s.heap.objs.size f cdv)) ->
   MSs (cxOf CX0 P w K mg base N q (jae st) f cdv A outer s H E).nox [] O' [] (jak st) g):FnOk P w K mg base CX0 (k+1) f fd ps (spE K mg ps.length (mirE ps.length N.length g)):=by
 refine F.ok Sc (fun vs H Q E h=>h.1) fun cdv A outer s H vs Q E hr h=>?_
 obtain⟨hl,ρ,S,F',ds,Ω,fin,ff,rp,sto,r,Ω',hmr,k0⟩:=h;refine⟨_,hbody f cdv A outer s H E hr,?_⟩;have hpl:ps.length<=N.length:=by have:=congrArg List.length Sc.pre;rw[List.length_take] at this;omega
 have hdl:ds.length=ps.length:=by rw[<- rp.length];exact hl
 unfold mirE at hmr;rw[if_pos hdl] at hmr;have R:RM ρ S H F' K mg [] ρ S H (L2.start N vs) (startD N.length ds) Ω:=by
  refine⟨⟨?_,jaj,fun b hb=>?_,fun i d hd _=>?_,fun i hi=>absurd hi (by simp),fun i hi=>absurd hi (by simp)⟩,RLe.refl _,fun b o _ h=>h,fun b h=>h,fun b h=>.inl h,fun i hi=>absurd hi (by simp),ff,by rw[jdo];exact sto⟩
  ·simp[L2.start,startD,rp.length]
  ·rcases un_t.mp hb with z|z
   ·exact fin b z
   ·exact sto.fin b z
  ·obtain⟨v,e,rv⟩:=rp.get (jf0 hd);exact⟨v,jgy e,by rw[jdo];exact rv⟩
 rcases MS.b_inv hmr with ⟨o,Ω1,e1,hmr⟩|⟨y,e1,rfl⟩
 ·refine⟨ρ,S,H,F',ρ,S,_,Ω,R,.ok o,Ω1,e1,?_⟩
  cases o with
  | rt d =>
   cases hmr;exact fun v ρ' S' H' T rv=>k0 v ρ' S' H' T.rho T.same T.old T.new T.ff T.sto rv
  | nx δ =>
   cases hmr;exact fun ρ' S' σ' H' R' _ _=>k0 .non ρ' S' H' R'.rt.rho R'.rt.same R'.rt.old R'.rt.new R'.rt.ff R'.rt.sto (rep_non.mpr rfl)
  | bk δ=>cases hmr
  | ct δ=>cases hmr
 ·exact⟨ρ,S,H,F',ρ,S,_,Ω,R,.error y,_,e1,trivial⟩
theorem jl3{x:Str}{st:Stmt}{N ps:List Str}{k:Nat}{O':List Nat}{g:DSt->MS Out}(hf:jb7 K mg x st ps)(S:FnScope N ps (jae st))
  (hbody:∀ (f:Addr) (cdv:Value) (A:Around) (outer:List Env) (s:Shared) (H:Hp) (E:XK),Room k (A.deeper (PyProof.Rows.envOfC x (jae st) s.heap.objs.size f cdv)) ->
   MSs (cxOf CX0 P w K mg base N x (jae st) f cdv A outer s H E).nox [] O' [] (jak st) g):CalE P w K mg base (k+1) x ps.length (mirE ps.length N.length g):=by
 obtain⟨f,fd,hm,F,hb⟩:=hf;exact⟨⟨f,fd,ps,rfl,hm,F.kp,hb,fn_E F S hbody⟩,jmg⟩
structure MetAt(K:W.Frag)(mg:Str->Option Value)(c x q:Str)(st:Stmt)(ps:List Str):Prop where
 ex:∃ C f fd,mg c=some (.ref C)/\Cls K C/\Meth K C x f/\Fun K x q st f fd/\Binds K fd ps []
structure IniAt(K:W.Frag)(mg:Str->Option Value)(c q:Str)(st:Stmt)(ps:List Str):Prop where
 ex:∃ C f fd,mg c=some (.ref C)/\Mk K C f/\Fun K "__init__" q st f fd/\Binds K fd ps []
theorem jwa{m:List D->MS D}{H:Hp}{a:Addr}{ns:List Int}{Ω':Sto}(hS:SqL K H a (ns.map V.int))(h:m [.lst (ns.map .int)] []=some (.ok (.bl true),Ω')):spE K mg 1 m [.ref a] H (fun v _=>v=.bl true) fun _ _ _=>False:=by
 refine⟨rfl,fun _=>none,fun _=>false,fun _=>false,[.lst (ns.map .int)],[],(fun b hb=>by cases hb),(fun b hb=>by cases hb),Reps.cons (rep_lst.mpr ⟨a,_,rfl,?_,reps_ints.mpr rfl⟩) Reps.nil,⟨fun i so hi=>by simp at hi,fun i j a h=>(nomatch h),fun i _=>rfl,(fun b hb=>by cases hb),fun _ _ q=>q⟩,_,_,h,fun v ρ' S' H' _ _ _ _ _ _ r=>rep_bl.mp r⟩;have:hid H (un (fun _=>false) fun _=>false)=H:=by funext b;rfl
 rw[this];exact hS
end
noncomputable def jdp(m:List D->MS D)(fl:DSt->MS (List D)):DSt->MS D:=fun δ=>(fl δ).b m
noncomputable def jzl(m:List D->M D)(fl:DSt->MS (List D)):DSt->MS D:=fun δ=>(fl δ).b fun ds=>MS.l (m ds)
noncomputable def jzv(c x:Str)(m:List D->MS D)(i:Nat)(fl:DSt->MS (List D))(δ:DSt):MS D:=fun Ω=>match Ω[i]? with
 | some (.ins c' fs)=>if c'=c/\fs.lookup x=none then ((fl δ).b fun ds=>m (.obj i::ds)) Ω else none
 | _=>none
noncomputable def jCh(c x:Str)(m:List D->MS D)(fo:DSt->MS D)(fl:DSt->MS (List D)):DSt->MS D:=fun δ=>(fo δ).b fun o=>match o with
 | .obj i=>jzv c x m i fl δ
 | _=>fun _=>none
noncomputable def jzn(c:Str)(m:List D->MS D)(ds:List D):MS D:=fun Ω=>((m (.obj Ω.length::ds)).b fun d=>match d with
 | .non=>MS.p (.obj Ω.length)
 | _=>fun _=>none) (Ω++[.ins c []])
noncomputable def jCg(c:Str)(m:List D->MS D)(fl:DSt->MS (List D)):DSt->MS D:=fun δ=>(fl δ).b fun ds=>jzn c m ds
section
variable {X:Cx}{O:List Nat}{b e:Expr}{es:List Expr}{fl:DSt->MS (List D)}{pos p:Pos}{x:Str}{k n:Nat}
variable {ρz ρ:Rho}{Sz S F:Addr->Bool}{Hz H:Hp}{σ:St}{δ:DSt}{Ω Ω':Sto}
theorem jrr{m:List D->MS D}{ds:List D}{vs:List V}{r:Except XD D}{Q:VK}{E:XK}(R:RM ρz Sz Hz F X.K X.mg O ρ S H σ δ Ω)(hl:ds.length=n)(hr:Reps ρ X.K (hid H (fob (un F S) σ O)) ds vs)(hm:m ds Ω=some (r,Ω'))
  (k:match (generalizing:=false) r with
   | .ok d=>∀ v ρ' S' H',RM ρz Sz Hz F X.K X.mg O ρ' S' H' σ δ Ω'->RLe ρ ρ'->Same (hid H (fob (un F S) σ O)) (hid H' (fob (un F S') σ O))->Rep ρ' X.K (hid H' (fob (un F S') σ O)) d v->Q v H'
   | .error _=>True):spE X.K X.mg n m vs H Q E:=by
 refine⟨by rw[hr.length];exact hl,ρ,S,fob F σ O,ds,Ω,fun b hb=>?_,fun b hb=>?_,by rw[jd8];exact hr,by rw[jd8];exact R.sto,r,Ω',hm,?_⟩
 ·intro z;have:=R.fresh z;rw[<- jd8,un_t.mpr (.inl hb)] at this;cases this
 ·rcases fob_t.mp hb with z|z
  ·exact R.ff b z
  ·cases e:S b with
   | false=>rfl
   | true=>exact absurd z (R.base_S e)
 ·cases r with
  | error x=>trivial
  | ok d =>
   intro v ρ' S' H' l sm old new ff sto rv;obtain⟨t1,t2⟩:=R.call l sm old new ff sto;rw[jd8] at rv;exact k v ρ' S' H' t1 l t2 rv
theorem jkb{m:List D->MS D}(C:CalE X.prog X.w X.K X.mg X.base k x n m)(hr:Room k X.A)(ha:MA X O (e::es) fl)(hg:autoParam (Gl X x) zau2._auto_1)(hdb:autoParam ((x == ("__debug__":Str))=false) zau1._auto_1)(he:autoParam (starEach (e::es) X.env=(false,eval e X.env)::starEach es X.env) zau2._auto_1)
  (hpl:autoParam ((backTo pos (starEach es X.env)).any (·.1)=false) zau2._auto_1):ME X O (.Call (.Name x p) (e::es) [] pos) (jdp m fl):=by
 obtain⟨f,fd,ps,hl,hm,hk,hb,G⟩:=C.ex;rintro pins s σ H Q I ⟨ρz,Sz,Hz,F,ρ,S,δ,Ω,R,r,Ω',hf,k⟩;refine jhb G hr hg hm hk hb .nil (fun _ _ _ _ _ _ _ z=>z.elim) ha hdb he hpl pins s σ H Q I (E:=E0) ?_;rcases MS.b_inv hf with ⟨ds,Ω1,e1,hf⟩|⟨y,e1,rfl⟩
 ·refine⟨ρz,Sz,Hz,F,ρ,S,δ,Ω,R,.ok ds,Ω1,e1,fun vs ρ1 S1 H1 R1 l1 v1 r1=>?_⟩;show spE X.K X.mg n m (vs++[]) H1 Q E0;rw[List.append_nil];refine jrr R1 (C.ar ds Ω1 _ hf) r1 hf ?_
  cases r with
  | error y=>trivial
  | ok d=>exact fun v ρ2 S2 H2 R2 l2 v2 r2=>k v ρ2 S2 H2 R2 (l1.trans l2) (v1.trans v2) r2
 ·exact⟨ρz,Sz,Hz,F,ρ,S,δ,Ω,R,.error y,_,e1,trivial⟩
end
inductive tEI(K:W.Frag)(mg:Str->Option Value)(O:List Nat)(f:DSt->MS (List D))(σ:St)(H:Hp)(Rk:It->Hp->Prop):Prop
 | mk (ρz:Rho) (Sz:Addr->Bool) (Hz:Hp) (F:Addr->Bool) (ρ:Rho) (S:Addr->Bool) (δ:DSt) (Ω:Sto) (R:RM ρz Sz Hz F K mg O ρ S H σ δ Ω) (r:Except XD (List D)) (Ω':Sto) (hf:f δ Ω=some (r,Ω')) (k:match (generalizing:=false) r with
  | .ok ds=>∀ J ρ' S' H',RM ρz Sz Hz F K mg O ρ' S' H' σ δ Ω'->RLe ρ ρ'->Same (hid H (fob (un F S) σ O)) (hid H' (fob (un F S') σ O))->ItD ρ' K J ds (hid H' (fob (un F S') σ O))->Rk J H'
  | .error _=>True)
noncomputable def MI(X:Cx)(O:List Nat)(tg iter:Expr)(f:DSt->MS (List D)):Prop:=PI X tg iter (tEI X.K X.mg O f)
section
variable {X:Cx}{O B:List Nat}{c o iter tg:Expr}{fi:DSt->MS (List D)}{pos:Pos}{g:DSt->MS Out}{f:Str}
theorem jqq{f:DSt->M (List D)}(h:DI X O E0 tg iter f):MI X O tg iter (lF f):=by
 rintro pins s σ H Q I ⟨ρz,Sz,Hz,F,ρ,S,δ,Ω,R,r,Ω',hf,k⟩;obtain⟨hg,rfl⟩:=MS.l_inv hf;refine h pins s σ H Q I ⟨ρ,_,un F S,δ,r,R.rs,hg,?_⟩
 cases r with
 | ok d=>exact fun J H' s' it=>k J ρ S H' (R.mono s') (RLe.refl _) (jap s') it
 | error x=>exact fun c dx H' _ z=>z.elim
theorem jzw{body:List Stmt}{h:D->DSt->Option DSt}(hp:PassesOwn (model X.prog X.w) X.A X.env X.xe)(hc:X.calm=true)(hi:MI X O tg iter fi)(hg:DG X O tg h)(hb:MSs X O O O body g)
  (hs:autoParam (∀ x,foldedSetIterable iter X.env x=pure x) zau3._auto_1):MSt X O O B (.For tg iter body [] pos) (eFor fi h g):=by
 rintro pins s σ H Dn I ⟨ρz,Sz,Hz,F,ρ,S,δ,Ω,R,r,Ω',hgf,k⟩;refine jrc hp hc hi hg hb hs pins s σ H Dn I ?_;rcases MS.b_inv hgf with ⟨ds,Ω1,e1,hgf⟩|⟨y,e1,rfl⟩
 ·refine⟨ρz,Sz,Hz,F,ρ,S,δ,Ω,R,.ok ds,Ω1,e1,fun J ρ1 S1 H1 R1 l1 v1 it=>?_⟩;refine⟨fun i m σ' H'=>m=ds.length-i/\i<=ds.length/\∃ ρ' S' δ' Ω2,RM ρz Sz Hz F X.K X.mg O ρ' S' H' σ' δ' Ω2/\RLe ρ1 ρ'/\Same (hid H1 (fob (un F S1) σ O)) (hid H' (fob (un F S') σ' O))/\forE g h (ds.drop i) δ' Ω2=some (r,Ω'),
   ⟨ds.length,by simp,Nat.zero_le _,ρ1,S1,δ,Ω1,R1,RLe.refl _,Same.refl _,hgf⟩,?_⟩
  rintro i m σ' H' ⟨rfl,hil,ρ',S',δ',Ω2,R',l',f',hr⟩;obtain⟨j1,j2⟩:=it H' (fob (un F S') σ' O) i f' (fun p hp=>R'.fresh hp)
  by_cases hlt:i<ds.length
  ·obtain⟨go,yld⟩:=j1 hlt;refine .inr ⟨go,fun σ2 H2=>∃ ρ2 S2 δ2 Ω3,RM ρz Sz Hz F X.K X.mg O ρ2 S2 H2 σ2 δ2 Ω3/\RLe ρ1 ρ2/\Same (hid H1 (fob (un F S1) σ O)) (hid H2 (fob (un F S2) σ2 O))/\forE g h (ds.drop (i+1)) δ2 Ω3=some (r,Ω'),fun σ2 H2 ⟨ρ2,S2,δ2,Ω3,a1,a2,a3,a4⟩=>⟨ds.length-(i+1),by omega,rfl,hlt,ρ2,S2,δ2,Ω3,a1,a2,a3,a4⟩,fun x H2 y=>?_⟩;obtain⟨s2,d,hd,rd⟩:=yld x H2 y;have hdr:ds.drop i=d::ds.drop (i+1):=by
    rw[List.drop_eq_getElem_cons hlt];have:ds[i]=d:=by rw[zax hlt] at hd;exact zby hd
    rw[this]
   rw[hdr] at hr;unfold forE at hr
   cases e2:h d δ' with
   | none=>rw[e2] at hr;cases hr
   | some δ1 =>
    rw[e2] at hr;dsimp only at hr;have R2:=R'.mono s2;have f2:Same (hid H1 (fob (un F S1) σ O)) (hid H2 (fob (un F S') σ' O)):=f'.trans (jap s2);refine⟨ρ',_,un F S',δ',d,δ1,R2.rs,rd.rho l',e2,fun σ3 ef R3=>?_⟩;have R3':RM ρz Sz Hz F X.K X.mg O ρ' S' H2 σ3 δ1 Ω2:=R2.next R3 (by rw[ef];exact Same.refl _);rcases MS.b_inv hr with ⟨o,Ω3,e3,hr⟩|⟨y,e3,rfl⟩
    ·refine⟨ρz,Sz,Hz,F,ρ',S',δ1,Ω2,R3',.ok o,Ω3,e3,?_⟩;rw[ef]
     cases o with
     | nx δ4=>exact fun ρ4 S4 σ4 H4 R4 l4 v4=>⟨ρ4,S4,δ4,Ω3,R4,l'.trans l4,f2.trans v4,hr⟩
     | ct δ4=>exact fun ρ4 S4 σ4 H4 R4 l4 v4=>⟨ρ4,S4,δ4,Ω3,R4,l'.trans l4,f2.trans v4,hr⟩
     | bk δ4=>cases hr;exact fun ρ4 S4 σ4 H4 R4 l4 v4=>k ρ4 S4 σ4 H4 R4 (l1.trans (l'.trans l4)) (v1.trans (f2.trans v4))
     | rt v=>cases hr;exact k
    ·exact⟨ρz,Sz,Hz,F,ρ',S',δ1,Ω2,R3',.error y,_,e3,trivial⟩
  ·have ei:i=ds.length:=by omega
   subst ei;rw[List.drop_length] at hr;cases hr;exact .inl ⟨j2 rfl,k ρ' S' σ' H' R' (l1.trans l') (v1.trans f')⟩
 ·exact⟨ρz,Sz,Hz,F,ρ,S,δ,Ω,R,.error y,_,e1,trivial⟩
end
noncomputable def jvo(st:Stmt)(j:Nat):Stmt:=match st with
 | .ClassDef _ _ _ b _ _ _ _ _ _ _=>b.getD j (.Pass ⟨0,0,0,0⟩)
 | _=>.Pass ⟨0,0,0,0⟩
structure ClsAt(K:W.Frag)(mg:Str->Option Value)(c:Str)(fs:List Str):Prop where
 ok:∀ C,mg c=some (.ref C)->Cls K C/\∀ f∈fs,jt8 K C f
section
end
noncomputable def mB(f:DSt->MS D):DSt->MS Bool:=fun δ=>(f δ).b fun d=>match d with
 | .bl k=>MS.p k
 | _=>fun _=>none
section
variable {X:Cx}{O:List Nat}{a b:Expr}{fa fb:DSt->MS D}{pos:Pos}
theorem jzx{op:CmpOp}{g:D->D->Option D}{r:R2}(ho:OpR X (compareOp op) r)(hg:OpD X.K g r)(ha:ME X O a fa)(hb:ME X O b fb)(hm:behindInMarks op b=false):MT X O (.Compare a [op] [b] pos) (mB (m2 g fa fb)):=by
 rintro pins s σ H Q I ⟨ρz,Sz,Hz,F,ρ,S,δ,Ω,R,rr,Ω',hf,k⟩;refine jmq ho ha hb hm pins s σ H Q I (jqm (r:=r) hg ?_);rcases MS.b_inv hf with ⟨x,Ω1,e1,hf⟩|⟨x,e1,rfl⟩
 ·cases x with
  | bl kk=>cases hf;exact⟨ρz,Sz,Hz,F,ρ,S,δ,Ω,R,.ok (.bl kk),_,e1,fun v ρ' S' H' R' l sm rv=>⟨kk,rep_bl.mp rv,k ρ' S' H' R' l sm⟩⟩
  | _=>cases hf
 ·exact⟨ρz,Sz,Hz,F,ρ,S,δ,Ω,R,.error x,Ω',e1,k⟩
end
noncomputable def spA(K:W.Frag)(n:Nat)(m:List D->MS D):Sp:=fun vs H Q E=>∀ mg,spE K mg n m vs H Q E
section
variable {δ:DSt}{fa fb:DSt->M D}{fl:DSt->M (List D)}{g:D->D->Option D}{u:D->Option D}{k:List D->Option D}{ta tb:DSt->M Bool}{g1 g2:DSt->M Out}{m:List D->M D}{ki:List D->Option (List D)}{fi:DSt->M (List D)}{tg:D->DSt->Option DSt}
@[simp] theorem jBy(i:Nat):fVar i δ=M.o (δ[i]?).join:=rfl
@[simp] theorem e_C(d:D):fC d δ=M.p d:=rfl
@[simp] theorem e_2:f2 g fa fb δ=(fa δ).b fun x=>(fb δ).b fun y=>M.o (g x y):=rfl
@[simp] theorem e_1:f1 u fa δ=(fa δ).b fun x=>M.o (u x):=rfl
noncomputable def asB:Option D->M Bool
 | some (.bl b)=>M.p b
 | _=>none
@[simp] theorem jx7(b:Bool):asB (some (.bl b))=M.p b:=rfl
@[simp] theorem e_t2:t2 g fa fb δ=(fa δ).b fun x=>(fb δ).b fun y=>asB (g x y):=rfl
@[simp] theorem jBu:fNil δ=M.p []:=rfl
@[simp] theorem jyq:jac fa fl δ=(fa δ).b fun x=>(fl δ).b fun xs=>M.p (x::xs):=rfl
@[simp] theorem e_L:fL k fl δ=(fl δ).b fun xs=>M.o (k xs):=rfl
@[simp] theorem jyo:jax m fl δ=(fl δ).b m:=rfl
@[simp] theorem jBv:gNot (.bl b)=some (.bl !b):=rfl
@[simp] theorem jyy:tNot ta δ=(ta δ).b fun x=>M.p !x:=rfl
@[simp] theorem jyx:tAnd ta tb δ=(ta δ).b fun x=>if x=true then tb δ else M.p false:=rfl
@[simp] theorem jBw:tOr ta tb δ=(ta δ).b fun x=>if x=true then M.p true else tb δ:=rfl
@[simp] theorem e_if:fIf ta fa fb δ=(ta δ).b fun x=>if x=true then fa δ else fb δ:=rfl
noncomputable def andB(b:D)(r:M D):M D:=match b with
 | .bl true=>r
 | .bl false=>M.p (.bl false)
 | _=>none
noncomputable def orB(b:D)(r:M D):M D:=match b with
 | .bl true=>M.p (.bl true)
 | .bl false=>r
 | _=>none
@[simp] theorem andB_t(r:M D):andB (.bl true) r=r:=rfl
@[simp] theorem andB_f(r:M D):andB (.bl false) r=M.p (.bl false):=rfl
@[simp] theorem orB_t(r:M D):orB (.bl true) r=M.p (.bl true):=rfl
@[simp] theorem orB_f(r:M D):orB (.bl false) r=r:=rfl
@[simp] theorem jBs:fAnd fa fb δ=(fa δ).b fun x=>andB x (fb δ):=rfl
@[simp] theorem e_or:fOr fa fb δ=(fa δ).b fun x=>orB x (fb δ):=rfl
@[simp] theorem jBx:tTru fa δ=(fa δ).b fun x=>M.o (truD x):=rfl
@[simp] theorem jAz(b:Bool):truD (.bl b)=some b:=rfl
@[simp] theorem jC8:truD .non=some false:=rfl
@[simp] theorem e_nx:gNx δ=M.p (.nx δ):=rfl
noncomputable def seqO(g2:DSt->M Out):Out->M Out
 | .nx δ'=>g2 δ'
 | o=>M.p o
@[simp] theorem jro(δ':DSt):seqO g2 (.nx δ')=g2 δ':=rfl
@[simp] theorem jrp(d:D):seqO g2 (.rt d)=M.p (.rt d):=rfl
@[simp] theorem jCt(δ':DSt):seqO g2 (.bk δ')=M.p (.bk δ'):=rfl
@[simp] theorem jCu(δ':DSt):seqO g2 (.ct δ')=M.p (.ct δ'):=rfl
@[simp] theorem jvw:gSeq g1 g2 δ=(g1 δ).b (seqO g2):=by
 show (g1 δ).b _=_;congr 1
@[simp] theorem jyw(i:Nat):gSet i fa δ=(fa δ).b fun d=>M.p (.nx (δ.set i (some d))):=rfl
@[simp] theorem jyv:gRet fa δ=(fa δ).b fun d=>M.p (.rt d):=rfl
@[simp] theorem e_drop:jB1 fa δ=(fa δ).b fun _=>M.p (.nx δ):=rfl
@[simp] theorem jys:gIf ta g1 g2 δ=(ta δ).b fun b=>if b=true then g1 δ else g2 δ:=rfl
@[simp] theorem e_brk:gBrk δ=M.p (.bk δ):=rfl
@[simp] theorem e_cnt:gCnt δ=M.p (.ct δ):=rfl
noncomputable def appO(i:Nat)(δ:DSt)(d:D):Option D->M Out
 | some (.lst ds)=>if ds.length<sizeLine then M.p (.nx (δ.set i (some (.lst (ds++[d]))))) else none
 | _=>none
theorem jr8{i:Nat}{δ:DSt}{d:D}{ds:List D}(h:ds.length<sizeLine):appO i δ d (some (.lst ds))=M.p (.nx (δ.set i (some (.lst (ds++[d]))))):=if_pos h
@[simp] theorem jyn(i:Nat):gApp i fa δ=(fa δ).b fun d=>appO i δ d (δ[i]?).join:=rfl
@[simp] theorem jyr:gFor fi tg g1 δ=(fi δ).b fun ds=>forD g1 tg ds δ:=rfl
@[simp] theorem jvv:je6 ki fl δ=(fl δ).b fun ds=>M.o (ki ds):=rfl
@[simp] theorem jyt:jj9 fa δ=(fa δ).b fun d=>M.o (seqD d):=rfl
@[simp] theorem e_yes:tYes δ=M.p true:=rfl
@[simp] theorem jsk(d:D):outD (.rt d)=M.p d:=rfl
@[simp] theorem jBj(δ:DSt):outD (.nx δ)=M.p .non:=rfl
theorem jhg(N:Nat)(x0:D):mir 1 N g1 [x0]=(g1 (some x0::List.replicate (N-1) none)).b outD:=rfl
theorem jgq(N:Nat)(x0 x1:D):mir 2 N g1 [x0,x1]=(g1 (some x0::some x1::List.replicate (N-2) none)).b outD:=rfl
theorem jk0(N:Nat)(x0 x1 x2:D):mir 3 N g1 [x0,x1,x2]=(g1 (some x0::some x1::some x2::List.replicate (N-3) none)).b outD:=rfl
theorem jyu(N:Nat)(x0 x1 x2 x3:D):mir 4 N g1 [x0,x1,x2,x3]=(g1 (some x0::some x1::some x2::some x3::List.replicate (N-4) none)).b outD:=rfl
@[simp] theorem b_none{α β:Type}(f:α->M β):M.b none f=none:=rfl
@[simp] theorem jvd{α β γ:Type}(m:M α)(f:α->M β)(h:β->M γ):(m.b f).b h=m.b fun a=>(f a).b h:=by
 cases m with
 | none=>rfl
 | some e=>cases e<;>rfl
@[simp] theorem jyp{own:Nat}{caps:List (Str×Nat)}{tc:DSt->M Bool}:jf1 own caps fi tg tc fa δ=(fi δ).b fun ds=>M.o ((jet tg tc fa ds (jf3 own caps δ)).bind jb0):=rfl
end
@[simp] theorem lt_int(i j:Int):gLt (.int i) (.int j)=some (.bl (decide (i<j))):=rfl
@[simp] theorem le_int(i j:Int):gLe (.int i) (.int j)=some (.bl (decide (i<=j))):=rfl
@[simp] theorem gt_int(i j:Int):gGt (.int i) (.int j)=some (.bl (decide (j<i))):=rfl
@[simp] theorem jy3(i j:Int):gGe (.int i) (.int j)=some (.bl (decide (j<=i))):=rfl
@[simp] theorem add_int(i j:Int):gAdd (.int i) (.int j)=some (.int (i+j)):=rfl
@[simp] theorem sub_int(i j:Int):gSub (.int i) (.int j)=some (.int (i-j)):=rfl
@[simp] theorem neg_int(i:Int):gNeg (.int i)=some (.int (-i)):=rfl
theorem jau{i j:Int}(h:0<j):gMod (.int i) (.int j)=some (.int (i % j)):=if_pos h
noncomputable def Bt(k:Nat)(i:Int):Prop:=i.natAbs<2 ^ k
theorem Bt.mono{a b:Nat}{i:Int}(h:Bt a i)(hab:a<=b):Bt b i:=zcx h (Nat.pow_le_pow_right (by decide) hab)
theorem Bt.mul{a b:Nat}{i j:Int}(h:Bt a i)(k:Bt b j):Bt (a+b) (i*j):=by
 unfold Bt at *;rw[Int.natAbs_mul,Nat.pow_add];exact Nat.mul_lt_mul'' h k
theorem Bt.add{a:Nat}{i j:Int}(h:Bt a i)(k:Bt a j):Bt (a+1) (i+j):=by
 unfold Bt at *;rw[Nat.pow_succ];omega
theorem Bt.big{k:Nat}{i:Int}(h:Bt k i)(hk:k<=100000):jf2 i=true:=by
 have h':=zcx h (Nat.pow_le_pow_right (by decide:2 > 0) hk);rw[<- jo4] at h';unfold jf2 BIG;rw[Bool.and_eq_true,decide_eq_true_eq,decide_eq_true_eq];omega
theorem jzz{a b:Nat}{i j:Int}(h:Bt a i)(k:Bt b j)(ha:autoParam (a<=100000) zau1._auto_1)(hb:autoParam (b<=100000) zau1._auto_1):gMul (.int i) (.int j)=some (.int (i*j)):=by
 have:(jf2 i&&jf2 j)=true:=by rw[h.big ha,k.big hb];rfl
 exact if_pos this
theorem jbe{i j:Int}(h:0<j)(h2:j<2 ^ 200):jbn (.int i) (.int j)=some (.int (i / j)):=by
 refine if_pos ⟨h,?_⟩;unfold DIVB;have:(2 ^ 200:Nat)<=2 ^ 9000:=Nat.pow_le_pow_right (by decide) (by decide);rw[<- jo6] at this;omega
theorem jra{i:Int}{j:Int}(h:0<=j/\j<=1000/\-(2 ^ 60)<i/\i<2 ^ 60):gPow (.int i) (.int j)=some (.int (i ^ j.toNat)):=if_pos h
theorem atI_get{α:Type}{xs:List α}{j:Nat}{v:α}(h:xs[j]? = some v):atI xs (j:Int)=some v:=by
 have hj:=(zbb.mp h).1;unfold atI ixN;rw[if_pos (by omega),if_pos (by omega)];simpa using h
@[simp] theorem ix_t(ds:List D)(i:Int):gIx (.tup ds) (.int i)=atI ds i:=rfl
@[simp] theorem ix_l(ds:List D)(i:Int):gIx (.lst ds) (.int i)=atI ds i:=rfl
@[simp] theorem at0{α:Type}(x:α)(xs:List α):atI (x::xs) 0=some x:=by
 have:=atI_get (xs:=x::xs) (j:=0) (v:=x) rfl;simpa using this
@[simp] theorem at1{α:Type}(x y:α)(xs:List α):atI (x::y::xs) 1=some y:=by
 have:=atI_get (xs:=x::y::xs) (j:=1) (v:=y) rfl;simpa using this
@[simp] theorem at2{α:Type}(x y z:α)(xs:List α):atI (x::y::z::xs) 2=some z:=by
 have:=atI_get (xs:=x::y::z::xs) (j:=2) (v:=z) rfl;simpa using this
@[simp] theorem at3{α:Type}(x y z w:α)(xs:List α):atI (x::y::z::w::xs) 3=some w:=by
 have:=atI_get (xs:=x::y::z::w::xs) (j:=3) (v:=w) rfl;simpa using this
@[simp] theorem jzi(ds:List D):kLen [.lst ds]=some (.int ds.length):=rfl
@[simp] theorem jCb(ds:List D):kLen [.tup ds]=some (.int ds.length):=rfl
@[simp] theorem jxr(ds:List D):kTuple [.lst ds]=some (.tup ds):=rfl
@[simp] theorem jzj(ds:List D):kList [.lst ds]=some (.lst ds):=rfl
@[simp] theorem jAo(j:Int):jb3 [.int j]=some (jbi 0 j.toNat):=rfl
@[simp] theorem jAp(i j:Int):jb3 [.int i,.int j]=some (jbi i (j-i).toNat):=rfl
@[simp] theorem enum_l(xs:List D):jev [.lst xs]=some (je4 0 xs):=rfl
@[simp] theorem jAu(ds:List D):seqD (.lst ds)=some ds:=rfl
@[simp] theorem jCx(ds:List D):seqD (.tup ds)=some ds:=rfl
@[simp] theorem kmin(i j:Int):kMin [.int i,.int j]=some (.int (if j<i then j else i)):=rfl
@[simp] theorem jB8(b:Bool):kInt [.bl b]=some (.int (if b then 1 else 0)):=rfl
@[simp] theorem jC9(x y:D):jb6 [x,y]=some (.tup [x,y]):=rfl
@[simp] theorem jDa(x y z:D):jb6 [x,y,z]=some (.tup [x,y,z]):=rfl
@[simp] theorem tupD4(x y z w:D):jb6 [x,y,z,w]=some (.tup [x,y,z,w]):=rfl
@[simp] theorem jCc:jb0 []=some (.lst []):=rfl
@[simp] theorem jCd(x:D):jb0 [x]=some (.lst [x]):=rfl
@[simp] theorem jCe(x y:D):jb0 [x,y]=some (.lst [x,y]):=rfl
@[simp] theorem jCf(x y z:D):jb0 [x,y,z]=some (.lst [x,y,z]):=rfl
theorem jwc{ds:List D}(h:ds.length<=sizeLine):jb0 ds=some (.lst ds):=if_pos h
@[simp] theorem jy0(i j:Int):gEq (.int i) (.int j)=some (.bl (i == j)):=rfl
@[simp] theorem jz3(i j:Int):gNe (.int i) (.int j)=some (.bl !(i == j)):=rfl
@[simp] theorem eq_bl(i j:Bool):gEq (.bl i) (.bl j)=some (.bl (i == j)):=rfl
theorem jtx(ns:List Int):kSum [.lst (ns.map .int)]=some (.int ns.sum):=by
 show (match seqD (.lst (ns.map D.int)) with|some ds=>(ji7 ds).map fun (ns:List Int)=>D.int ns.sum|none=>none)=_;rw[jAu];dsimp only;rw[jp6];rfl
@[simp] theorem jme(i:Int):kIsi [.int i,.ty "int"]=some (.bl true):=rfl
@[simp] theorem jk7(i:Int):kIsi [.int i,.ty "bool"]=some (.bl false):=rfl
@[simp] theorem jmd(i:Bool):kIsi [.bl i,.ty "bool"]=some (.bl true):=rfl
@[simp] theorem jsu(i:List D):kIsi [.tup i,.ty "tuple"]=some (.bl true):=rfl
theorem jm3:∀ (xs ys:List D),zipD xs ys=(xs.zip ys).map fun p=>.tup [p.1,p.2]
 | [],_=>by simp[zipD]
 | _::_,[]=>by simp[zipD]
 | x::xs,y::ys=>by simp[zipD,jm3 xs ys]
theorem jp0{g:DSt->M Out}{tg:D->DSt->Option DSt}(I:List D->DSt->Prop)(h:∀ d ds δ,I (d::ds) δ->∃ δ1,tg d δ=some δ1/\∃ δ2,(g δ1=some (.ok (.nx δ2))\/g δ1=some (.ok (.ct δ2)))/\I ds δ2) :
  ∀ (ds:List D) (δ:DSt),I ds δ->∃ δ',forD g tg ds δ=some (.ok (.nx δ'))/\I [] δ'
 | [],δ,hi=>⟨δ,rfl,hi⟩
 | d::ds,δ,hi=>by
  obtain⟨δ1,e1,δ2,e2,i2⟩:=h d ds δ hi;obtain⟨δ',e3,i3⟩:=jp0 I h ds δ2 i2;refine⟨δ',?_,i3⟩;unfold forD;rw[e1];dsimp only;rcases e2 with e2|e2<;>(rw[e2];exact e3)
@[simp] theorem jBk(i:Nat)(d:D)(δ:DSt):gName i d δ=some (δ.set i (some d)):=rfl
@[simp] theorem jBl(i j:Nat)(x y:D)(δ:DSt):je5 i j (.tup [x,y]) δ=some ((δ.set i (some x)).set j (some y)):=rfl
noncomputable def getS:M D->Str
 | some (.ok (.str i))=>i
 | _=>Str.empty
theorem jl9{g:DSt->M Out}{tg:D->DSt->Option DSt}(ds:List D)(I:Nat->DSt->Prop)
  (h:∀ (j:Nat) (hj:j<ds.length) (δ:DSt),I j δ->∃ δ1,tg ds[j] δ=some δ1/\∃ δ2,(g δ1=some (.ok (.nx δ2))\/g δ1=some (.ok (.ct δ2)))/\I (j+1) δ2) (δ:DSt) (h0:I 0 δ) :
  ∃ δ',forD g tg ds δ=some (.ok (.nx δ'))/\I ds.length δ':=by
 obtain⟨δ',e,j,hd,hj,hi⟩:=jp0 (g:=g) (tg:=tg) (fun rem δ=>∃ j,rem=ds.drop j/\j<=ds.length/\I j δ) (fun d rem δ ⟨j,hr,hj,hi⟩=>by
  have hlt:j<ds.length:=by
   by_cases q:j<ds.length
   ·exact q
   ·rw[List.drop_eq_nil_of_le (by omega)] at hr;cases hr
  rw[List.drop_eq_getElem_cons hlt] at hr;obtain⟨rfl,rfl⟩:=List.cons.inj hr;obtain⟨δ1,e1,δ2,e2,i2⟩:=h j hlt δ hi;exact⟨δ1,e1,δ2,e2,j+1,rfl,hlt,i2⟩) ds δ ⟨0,rfl,Nat.zero_le _,h0⟩
 refine⟨δ',e,?_⟩;have:j=ds.length:=by
  have:=congrArg List.length hd;simp at this;omega
 rw[<- this];exact hi
@[simp] theorem jx6(lo:Int)(n:Nat):(jbi lo n).length=n:=by simp[jbi]
@[simp] theorem jx5(lo:Int)(n j:Nat)(h:j<(jbi lo n).length):(jbi lo n)[j]=.int (lo+j):=by simp[jbi]
theorem jos(n:Nat)(F:D->D):(jbi 0 n).map F=(List.range n).map fun j=>F (.int (j:Nat)):=by
 unfold jbi;rw[List.map_map];apply List.map_congr_left;intro a _;simp
section
variable {δ:DSt}{fa:DSt->M D}{g:D->D->Option D}{k:List D->Option D}
@[simp] theorem jBt(i:Nat):gAug i g fa δ=(M.o (δ[i]?).join).b fun x=>(fa δ).b fun y=>(M.o (g x y)).b fun d=>M.p (.nx (δ.set i (some d))):=rfl
@[simp] theorem jvi(i j:Int):gCat (.int i) (.int j)=some (.int (i+j)):=rfl
theorem jdb{a b:Nat}{i j:Int}(h:Bt a i)(k:Bt b j)(ha:autoParam (a<=100000) zau1._auto_1)(hb:autoParam (b<=100000) zau1._auto_1):jck (.int i) (.int j)=some (.int (i*j)):=jzz h k ha hb
@[simp] theorem e_asg(h:D->DSt->Option DSt):gAsg h fa δ=(fa δ).b fun d=>match h d δ with
 | some δ'=>M.p (.nx δ')
 | none=>none:=rfl
@[simp] theorem e_tup3(i j l:Nat)(x y z:D):jB2 i j l (.tup [x,y,z]) δ=some (((δ.set i (some x)).set j (some y)).set l (some z)):=rfl
@[simp] theorem jv7(b:Bool):joi [.bl b]=some (.int (if b then 1 else 0)):=rfl
theorem jpd:∀ bs:List Bool,blsD (bs.map .bl)=some bs
 | []=>rfl
 | b::bs=>by rw[List.map_cons];unfold blsD;rw[jpd bs];rfl
theorem jva(bs:List Bool):kAll [.lst (bs.map .bl)]=some (.bl (bs.all id)):=by
 show (blsD (bs.map D.bl)).map (fun ns=>D.bl (ns.all id))=_;rw[jpd];rfl
theorem jpp{c:DSt}{fe:DSt->M D}{α:Type}{K:α->D×D}{F:α->D}(ps:List α)(x y:Option D)(h:∀ p∈ps,fe (some (K p).1::some (K p).2::c)=some (.ok (F p))):jet (je5 0 1) tYes fe (ps.map fun p=>.tup [(K p).1,(K p).2]) (x::y::c)=some (ps.map F):=by
 induction ps generalizing x y with
 | nil=>rfl
 | cons p ps ih =>
  rw[List.map_cons];unfold jet;have e1:je5 0 1 (.tup [(K p).1,(K p).2]) (x::y::c)=some (some (K p).1::some (K p).2::c):=rfl;rw[e1];dsimp only [tYes,M.p];rw[h p zaa];dsimp only;rw[ih (some (K p).1) (some (K p).2) fun e he=>h e (zaw _ he)];rfl
theorem jd1{c:DSt}{fe:DSt->M D}{α:Type}{K:α->D}{F:α->D}(ps:List α)(x:Option D)(h:∀ p∈ps,fe (some (K p)::c)=some (.ok (F p))):jet (gName 0) tYes fe (ps.map K) (x::c)=some (ps.map F):=by
 induction ps generalizing x with
 | nil=>rfl
 | cons p ps ih =>
  rw[List.map_cons];unfold jet;have e1:gName 0 (K p) (x::c)=some (some (K p)::c):=rfl;rw[e1];dsimp only [tYes,M.p];rw[h p zaa];dsimp only;rw[ih (some (K p)) fun e he=>h e (zaw _ he)];rfl
theorem jr7(as bs:List Int):zipD (as.map .int) (bs.map .int)=(as.zip bs).map fun p=>.tup [.int p.1,.int p.2]:=by
 rw[jm3,List.zip_map,List.map_map];rfl
end
noncomputable def jvg{α β:Type}(r:Option (Except XD α×Sto))(f:α->MS β):Option (Except XD β×Sto):=match r with
 | none=>none
 | some (.error x,Ω')=>some (.error x,Ω')
 | some (.ok a,Ω')=>f a Ω'
section
variable {α β:Type}{Ω Ω':Sto}{δ:DSt}{fa fb fo:DSt->MS D}{fl:DSt->MS (List D)}{ta:DSt->MS Bool}{g1 g2:DSt->MS Out}{g:D->D->Option D}
@[simp] theorem s_b(m:MS α)(f:α->MS β):(m.b f) Ω=jvg (m Ω) f:=by
 unfold MS.b jvg
 cases m Ω with
 | none=>rfl
 | some p=>obtain⟨q,Ω1⟩:=p;cases q<;>rfl
@[simp] theorem s_bok(a:α)(f:α->MS β):jvg (some (.ok a,Ω')) f=f a Ω':=rfl
@[simp] theorem s_p(a:α):MS.p a Ω=some (.ok a,Ω):=rfl
@[simp] theorem s_lp(a:α):MS.l (M.p a) Ω=some (.ok a,Ω):=rfl
@[simp] theorem s_lok(a:α):MS.l (some (.ok a):M α) Ω=some (.ok a,Ω):=rfl
@[simp] theorem s_o(a:α):MS.o (some a) Ω=some (.ok a,Ω):=rfl
@[simp] theorem s_lF(f:DSt->M α):lF f δ=MS.l (f δ):=rfl
@[simp] theorem s_get(cs:List Str)(f:Str):mGet cs f fa δ=(fa δ).b fun x=>getO cs f x:=rfl
@[simp] theorem s_cons:jce fa fl δ=(fa δ).b fun x=>(fl δ).b fun xs=>MS.p (x::xs):=rfl
@[simp] theorem s_2:m2 g fa fb δ=(fa δ).b fun x=>(fb δ).b fun y=>MS.o (g x y):=rfl
@[simp] theorem s_L(k:List D->Option D):mL k fl δ=(fl δ).b fun xs=>MS.o (k xs):=rfl
@[simp] theorem jCs(m:List D->M D):jzl m fl δ=(fl δ).b fun ds=>MS.l (m ds):=rfl
@[simp] theorem s_call(m:List D->MS D):jdp m fl δ=(fl δ).b m:=rfl
@[simp] theorem s_set(i:Nat):eSet i fa δ=(fa δ).b fun d=>MS.p (.nx (δ.set i (some d))):=rfl
@[simp] theorem s_ret:eRet fa δ=(fa δ).b fun d=>MS.p (.rt d):=rfl
@[simp] theorem s_drop:jl6 fa δ=(fa δ).b fun _=>MS.p (.nx δ):=rfl
@[simp] theorem s_put(cs:List Str)(f:Str):ePut cs f fo fa δ=(fa δ).b fun d=>(fo δ).b fun x=>(putO cs f x d).b fun _=>MS.p (.nx δ):=rfl
@[simp] theorem s_if:eIf ta g1 g2 δ=(ta δ).b fun b=>if b=true then g1 δ else g2 δ:=rfl
@[simp] theorem s_nx:eNx δ=MS.p (.nx δ):=rfl
@[simp] theorem s_not:mNot ta δ=(ta δ).b fun x=>MS.p !x:=rfl
@[simp] theorem s_tru:mTru fa δ=(fa δ).b fun x=>MS.o (truD x):=rfl
noncomputable def asBS:D->MS Bool
 | .bl k=>MS.p k
 | _=>fun _=>none
@[simp] theorem jBp(k:Bool):asBS (.bl k)=MS.p k:=rfl
@[simp] theorem s_B:mB fa δ=(fa δ).b asBS:=by
 show (fa δ).b _=_;congr 1
noncomputable def seqS(g2:DSt->MS Out):Out->MS Out
 | .nx δ'=>g2 δ'
 | o=>MS.p o
@[simp] theorem jCv(δ':DSt):seqS g2 (.nx δ')=g2 δ':=rfl
@[simp] theorem jCw(d:D):seqS g2 (.rt d)=MS.p (.rt d):=rfl
@[simp] theorem s_seq:eSeq g1 g2 δ=(g1 δ).b (seqS g2):=by
 show (g1 δ).b _=_;congr 1
@[simp] theorem jBn(d:D):outE (.rt d)=MS.p d:=rfl
@[simp] theorem jBm(δ:DSt):outE (.nx δ)=MS.p .non:=rfl
@[simp] theorem s_meth(c x:Str)(m:List D->MS D):jCh c x m fo fl δ=(fo δ).b fun o=>match o with
 | .obj i=>jzv c x m i fl δ
 | _=>fun _=>none:=rfl
@[simp] theorem s_make(c:Str)(m:List D->MS D):jCg c m fl δ=(fl δ).b fun ds=>jzn c m ds:=rfl
@[simp] theorem s_for(fi:DSt->MS (List D))(tg:D->DSt->Option DSt):eFor fi tg g1 δ=(fi δ).b fun ds=>forE g1 tg ds δ:=rfl
end
section
end
theorem jxg(own:Nat)(caps:List (Str×Nat))(δ:DSt):jf3 own caps δ=List.replicate own none++caps.map fun p=>(δ[p.2]?).join:=rfl
theorem jBh(xs ys:List D):jfs [.tup xs,.tup ys]=some (zipD xs ys):=rfl
theorem jBg(xs ys:List D):jfs [.tup xs,.lst ys]=some (zipD xs ys):=rfl
theorem jBf(xs ys:List D):jfs [.lst xs,.tup ys]=some (zipD xs ys):=rfl
theorem jBe(xs ys:List D):jfs [.lst xs,.lst ys]=some (zipD xs ys):=rfl
theorem jCi(i j:Bool):gNe (.bl i) (.bl j)=some (.bl !(i == j)):=rfl
theorem jwu{d:D}(h1:okD d=true)(h2:depD d<=20):gNe d d=some (.bl false):=by
 unfold gNe;rw[if_pos (by rw[h1,decide_eq_true h2];rfl),jhw d h1];rfl
theorem jeh{α:Type}{f:α->D}:∀ {xs:List α},(∀ x∈xs,okD (f x)=true)->okDs (xs.map f)=true
 | [],_=>by rw[List.map_nil];unfold okDs;rfl
 | x::xs,h=>by rw[List.map_cons];unfold okDs;rw[h x zaa,jeh fun y hy=>h y (zaw _ hy)];rfl
theorem jem{α:Type}{f:α->D}{k:Nat}:∀ {xs:List α},(∀ x∈xs,depD (f x)<=k)->depDs (xs.map f)<=k
 | [],_=>by rw[List.map_nil];unfold depDs;omega
 | x::xs,h=>by
  rw[List.map_cons];unfold depDs
  have h1:=h x zaa;have h2:=jem (f:=f) (k:=k) (xs:=xs) fun y hy=>h y (zaw _ hy)
  omega
theorem jc6{g1 g2:DSt->M Out}{δ δ':DSt}(h:g1 δ=some (.ok (.nx δ'))):gSeq g1 g2 δ=g2 δ':=by rw[jvw,h,M.b_ok,jro]
theorem w_rt{g1 g2:DSt->M Out}{δ:DSt}{d:D}(h:g1 δ=some (.ok (.rt d))):gSeq g1 g2 δ=some (.ok (.rt d)):=by rw[jvw,h,M.b_ok,jrp];rfl
theorem w_if{t:DSt->M Bool}{g1 g2:DSt->M Out}{δ:DSt}{b:Bool}(h:t δ=some (.ok b)):gIf t g1 g2 δ=if b=true then g1 δ else g2 δ:=by rw[jys,h,M.b_ok]
theorem jn5{t:DSt->M Bool}{g1 g2:DSt->M Out}{δ:DSt}(h:t δ=some (.ok false)):gSeq (gIf t g1 gNx) g2 δ=g2 δ:=jc6 (by rw[w_if h,if_neg (by decide)];rfl)
theorem jdm{fa:DSt->M D}{δ:DSt}{d:D}(hd:fa δ=some (.ok d)):gRet fa δ=some (.ok (.rt d)):=by rw[jyv,hd,M.b_ok];rfl
theorem jd9{fa:DSt->M D}{δ:DSt}{d:D}(i:Nat)(hd:fa δ=some (.ok d)):gSet i fa δ=some (.ok (.nx (δ.set i (some d)))):=by rw[jyw,hd,M.b_ok];rfl
theorem jt1{fi:DSt->M (List D)}{tg:D->DSt->Option DSt}{g:DSt->M Out}{δ:DSt}{ds:List D}(h:fi δ=some (.ok ds)):gFor fi tg g δ=forD g tg ds δ:=by rw[jyr,h,M.b_ok]
theorem jxv{fa:DSt->M D}{δ:DSt}{d:D}{ds:List D}(i:Nat)(hd:fa δ=some (.ok d))(hi:δ[i]? = some (some (.lst ds)))(hl:ds.length<=100000):gApp i fa δ=some (.ok (.nx (δ.set i (some (.lst (ds++[d])))))):=by
 rw[jyn,hd,M.b_ok,hi];exact jr8 (by have:=sizeLine_eq;omega)
theorem jsm{g:DSt->M Out}{tg:D->DSt->Option DSt}{d:D}{ds:List D}{δ δ1 δ2:DSt}(h1:tg d δ=some δ1)(h2:g δ1=some (.ok (.nx δ2))):forD g tg (d::ds) δ=forD g tg ds δ2:=by
 conv=>lhs;unfold forD
 rw[h1];dsimp only;rw[h2];rfl
theorem jgu{ds:List D}(h:ds.length<=1000):jb0 ds=some (.lst ds):=jwc (zcc h (by decide))
noncomputable def stp:=And.intro (@if_true.{1}) <| And.intro (@if_false.{1}) <| And.intro (@Bool.false_eq_true) <| And.intro (@jvw) <| And.intro (@jyw) <| And.intro (@e_2) <| And.intro (@e_1) <| And.intro (@e_t2) <| And.intro (@jyv) <| And.intro (@jys) <| And.intro (@jyr) <| And.intro (@jvv) <| And.intro (@jyt) <| And.intro (@jyp) <| And.intro (@jyo) <| And.intro (@jyq) <| And.intro (@jBy) <| And.intro (@jBu) <| And.intro (@e_C) <| And.intro (@e_L) <| And.intro (@e_if) <| And.intro (@jBx) <| And.intro (@jyx) <| And.intro (@jBw) <| And.intro (@jyy) <| And.intro (@jBv) <| And.intro (@e_nx) <| And.intro (@jBt) <| And.intro (@jyn) <| And.intro (@jBs) <| And.intro (@e_or) <| And.intro (@M.o_some) <| And.intro (@M.b_p) <| And.intro (@M.b_ok) <| And.intro (@jvd) <| And.intro (@jro) <| And.intro (@jrp) <| And.intro (@jsk) <| And.intro (@ix_t) <| And.intro (@ix_l) <| And.intro (@at0) <| And.intro (@at1) <| And.intro (@at2) <| And.intro (@at3) <| And.intro (@jAu) <| And.intro (@jCx) <| And.intro (@jxr) <| And.intro (@jzj) <| And.intro (@jzi) <| And.intro (@jCb) <| And.intro (@jC9) <| And.intro (@jDa) <| And.intro (@jCc) <| And.intro (@jCd) <| And.intro (@jCe) <| And.intro (@jCf) <| And.intro (@jvi) <| And.intro (@sub_int) <| And.intro (@neg_int) <| And.intro (@jy0) <| And.intro (@jz3) <| And.intro (@jCi) <| And.intro (@lt_int) <| And.intro (@le_int) <| And.intro (@gt_int) <| And.intro (@jy3) <| And.intro (@jx7) <| And.intro (@jAz) <| And.intro (@jAo) <| And.intro (@jAp) <| And.intro (@Int.toNat_natCast) <| And.intro (@jr7) <| And.intro (@jxg) <| And.intro (@jBh) <| And.intro (@jBg) <| And.intro (@jBf) <| And.intro (@jBe) <| And.intro (@jme) <| And.intro (@jk7) <| And.intro (@jmd) <| And.intro (@jv7) <| And.intro (@List.replicate_succ.{0}) <| And.intro (@List.replicate_zero.{0}) <| And.intro (@List.set_cons_succ.{0}) <| And.intro (@List.set_cons_zero.{0}) <| And.intro (@List.getElem?_cons_zero.{0}) <| And.intro (@List.getElem?_cons_succ.{0}) <| And.intro (@Option.join_some.{0}) <| And.intro (@List.map_nil.{0,0}) <| And.intro (@List.map_cons.{0,0}) <| And.intro (@List.append_nil.{0}) <| And.intro (@List.cons_append.{0}) <| And.intro (@List.nil_append.{0}) <| And.intro (@Option.bind_some.{0,0}) <| True.intro
theorem jo7{α:Type}(xs:List α)(f:α->Bool):kAll [.lst (xs.map fun x=>.bl (f x))]=some (.bl (xs.all f)):=by
 have:(xs.map fun x=>D.bl (f x))=(xs.map f).map .bl:=by rw[List.map_map];rfl
 rw[this,jva,List.all_map];rfl
theorem jxn{α:Type}(xs:List α)(f:α->Int):kSum [.lst (xs.map fun x=>.int (f x))]=some (.int (xs.map f).sum):=by
 have:(xs.map fun x=>D.int (f x))=(xs.map f).map .int:=by rw[List.map_map];rfl
 rw[this,jtx]
theorem jl1{α β:Type}(f:α->D)(g:β->D)(as:List α)(bs:List β):zipD (as.map f) (bs.map g)=(as.zip bs).map fun p=>.tup [f p.1,g p.2]:=by
 rw[jm3,List.zip_map,List.map_map];rfl
end DL
namespace L2
open PySem PySem.Spec PyProof.Rows
section
end
end L2
namespace DL
open PySem PySem.Spec L2
section
end
end DL
namespace L2
open PySem PySem.Spec PyProof.Rows
section
end
end L2
namespace DL
open PySem PySem.Spec L2
section
end
end DL
namespace DL
open PySem PySem.Spec L2 PyProof.Rows
section
noncomputable def jB6:List D->Option D
 | [.lst [.int i,.int j]]=>some (.int (if j<i then j else i))
 | _=>none
@[simp] theorem kmin1(i j:Int):jB6 [.lst [.int i,.int j]]=some (.int (if j<i then j else i)):=rfl
end
end DL
namespace DL
open PySem PySem.Spec L2
section
variable {ρz ρ ρ':Rho}{Sz S S' F:Addr->Bool}{Hz H:Hp}{K:W.Frag}{mg:Str->Option Value}{O:List Nat}{σ:St}{δ:DSt}{Ω:Sto}
theorem SOk.no_tup{ρ:Rho}{S:Addr->Bool}{K:W.Frag}{mg:Str->Option Value}{H Hv:Hp}{a:Addr}{so:SO}(h:SOk ρ S K mg H Hv a so)(xs:List V):H a≠some (.tup xs):=fun q=>by
 cases so with
 | ins c fs =>
  obtain⟨_,_,_,_,p,_⟩:=h;rw[q] at p;cases p
 | lst ds =>
  obtain⟨_,p,_⟩:=h;rw[q] at p;cases p
 | tab _ _ _ _ =>
  obtain⟨_,p,_⟩:=h;rw[q] at p;cases p
 | dct _ =>
  obtain⟨_,p,_⟩:=h;rw[q] at p;cases p
 | exc c j =>
  cases h with
  | no f C h1 h2=>rw[q] at h2;exact jBd (zby h2).symm
  | yes f j C dx h1 h2 h3=>rw[q] at h3;exact jBd (zby h3).symm
 | xd fs =>
  obtain⟨_,p,_⟩:=h;rw[q] at p;exact jDg (zby p).symm
theorem RM.putS(R:RM ρz Sz Hz F K mg O ρ S H σ δ Ω){i:Nat}{a:Addr}{so0 so':SO}{o0 o':HO}(hi:Ω[i]? = some so0)(ha:ρ i=some a)(hS:S a=true)(hH:H a=some o0)(hno:∀ y,HO.own y≠o0)(hr:SOk ρ S K mg (upd H a o') (hid H (fob (un F S) σ O)) a so') :
  RM ρz Sz Hz F K mg O ρ S (upd H a o') σ δ (Ω.set i so')/\hid (upd H a o') (fob (un F S) σ O)=hid H (fob (un F S) σ O):=by
 have hF:un F S a=true:=un_t.mpr (.inr hS);have hh:hid (upd H a o') (fob (un F S) σ O)=hid H (fob (un F S) σ O):=jgf (jgt a hF);have il:i<Ω.length:=(zbb.mp hi).1;refine⟨⟨R.rs.updF hF,R.rho,fun b o h1 h2=>?_,R.old,R.new,R.own0,R.ff,?_⟩,hh⟩
 ·have hb:b≠a:=by
   rintro rfl;rcases R.new b hS with q|q
   ·rw[q] at h1;cases h1
   ·rw[q] at h2;cases h2
  rw[jah hb];exact R.same b o h1 h2
 ·rw[hh];refine⟨fun j so hj=>?_,R.sto.inj,fun j hj=>R.sto.top j (by simpa using hj),fun b hb=>jjp (R.sto.fin b hb),jn4 R.sto.tv fun xs z=>hr.no_tup xs (by rw[jao,z])⟩
  by_cases hji:j=i
  ·subst hji;rw[zcz il] at hj;cases hj;exact⟨a,ha,hS,hr⟩
  ·rw[zbw (Ne.symm hji)] at hj;obtain⟨a',q1,q2,q3⟩:=R.sto.ats j so hj;have ne:a'≠a:=by
    rintro rfl;exact hji (R.sto.inj j i a' q1 ha)
   refine⟨a',q1,q2,?_⟩
   cases so with
   | ins c' fs' =>
    obtain⟨C',dx',vfs',p1,p2,p3,p4,p5⟩:=q3;have nd:dx'≠a:=jCj p3 hH (hno _);exact⟨C',dx',vfs',p1,by rw[jah ne];exact p2,by rw[jah nd];exact p3,p4,p5⟩
   | lst ds0 =>
    obtain⟨xs0,p1,p2⟩:=q3;exact⟨xs0,by rw[jah ne];exact p1,p2⟩
   | tab _ _ _ _ =>
    obtain⟨ps,p1,p2,p3⟩:=q3;exact⟨ps,by rw[jah ne];exact p1,p2,p3⟩
   | dct _ =>
    obtain⟨vk,p1,p2,p3⟩:=q3;exact⟨vk,by rw[jah ne];exact p1,p2,p3⟩
   | exc c j=>exact ExcOk.mono (fun _ _ z=>z) (jah ne) q3
   | xd fs =>
    obtain⟨vfs,p1,p2⟩:=q3;exact⟨vfs,by rw[jah ne];exact p1,p2⟩
theorem RM.putL(R:RM ρz Sz Hz F K mg O ρ S H σ δ Ω){i:Nat}{a:Addr}{ds ds':List D}{xs xs':List V}(hi:Ω[i]? = some (.lst ds))(ha:ρ i=some a)(hS:S a=true)(hH:H a=some (.lst xs))(hr:Reps ρ K (hid H (fob (un F S) σ O)) ds' xs') :
  RM ρz Sz Hz F K mg O ρ S (upd H a (.lst xs')) σ δ (Ω.set i (.lst ds'))/\hid (upd H a (.lst xs')) (fob (un F S) σ O)=hid H (fob (un F S) σ O) :=
 R.putS hi ha hS hH (fun _ z=>nomatch z) ⟨xs',jao,hr⟩
theorem RM.newS(R:RM ρz Sz Hz F K mg O ρ S H σ δ Ω){x:Addr}{nso:SO}{no:HO}(hx:H x=none)(hr:∀ ρ' S' Hv',RLe ρ ρ'->Same (hid H (fob (un F S) σ O)) Hv'->SOk ρ' S' K mg (upd H x no) Hv' x nso) :
  RM ρz Sz Hz F K mg O (addR ρ Ω.length x) (addS S x x) (upd H x no) σ δ (Ω++[nso])/\RLe ρ (addR ρ Ω.length x) /\
   Same (hid H (fob (un F S) σ O)) (hid (upd H x no) (fob (un F (addS S x x)) σ O)):=by
 have top:=R.sto.top Ω.length (zac _);have l:RLe ρ (addR ρ Ω.length x):=fun i a h=>by
  unfold addR
  by_cases e:i=Ω.length
  ·subst e;rw[top] at h;cases h
  ·rw[if_neg e];exact h
 have sm:Same H (upd H x no):=ja1 hx;have old:∀ b,S b=true->addS S x x b=true:=fun b h=>addS_t.mpr (.inl h)
 have new:∀ b,addS S x x b=true->S b=true\/H b=none:=fun b h=>by
  rcases addS_t.mp h with q|rfl|rfl
  ·exact .inl q
  ·exact .inr hx
  ·exact .inr hx
 have ff:∀ b,fob F σ O b=true->addS S x x b=false:=fun b h=>by
  have h2:fob (un F S) σ O b=true:=by rw[<- jd8];exact un_t.mpr (.inl h)
  cases e:addS S x x b with
  | false=>rfl
  | true =>
   rcases addS_t.mp e with q|rfl|rfl
   ·rcases fob_t.mp h with z|z
    ·rw[R.ff b z] at q;cases q
    ·exact absurd z (R.base_S q)
   ·rw[R.fresh hx] at h2;cases h2
   ·rw[R.fresh hx] at h2;cases h2
 have keep:∀ b,S b=true->(upd H x no) b=H b:=R.at_store sm;have vis0:Same (hid H (fob (un F S) σ O)) (hid (upd H x no) (un (fob F σ O) (addS S x x))):=fun b o q=>by
  obtain⟨q1,q2⟩:=hid_some.mp q;refine hid_some.mpr ⟨?_,sm b o q2⟩
  cases e:un (fob F σ O) (addS S x x) b with
  | false=>rfl
  | true =>
   rcases un_t.mp e with z|z
   ·have h2:fob (un F S) σ O b=true:=by rw[<- jd8];exact un_t.mpr (.inl z)
    rw[h2] at q1;cases q1
   ·rcases new b z with z|z
    ·have h2:fob (un F S) σ O b=true:=jgt b (un_t.mpr (.inr z));rw[h2] at q1;cases q1
    ·rw[z] at q2;cases q2
 have sto:StoOk (addR ρ Ω.length x) (addS S x x) K mg (upd H x no) (hid (upd H x no) (un (fob F σ O) (addS S x x))) (Ω++[nso]):=by
  refine⟨fun i so hi=>?_,fun i j a h1 h2=>?_,fun i hi=>?_,fun b hb=>?_,jtz (jn4 R.sto.tv fun xs z=>(hr ρ S _ (RLe.refl _) (Same.refl _)).no_tup xs (by rw[jao,z])) vis0⟩
  ·by_cases h:i<Ω.length
   ·rw[List.getElem?_append_left h] at hi;obtain⟨a,q1,q2,q3⟩:=R.sto.ats i so hi;refine⟨a,l i a q1,old a q2,?_⟩
    cases so with
    | ins c' fs' =>
     obtain⟨C',dx',vfs',p1,p2,p3,p4,p5⟩:=q3;exact⟨C',dx',vfs',p1,by rw[keep a q2];exact p2,by rw[keep dx' p4];exact p3,old _ p4,p5.mono l vis0⟩
    | lst ds =>
     obtain⟨xs,p1,p2⟩:=q3;exact⟨xs,by rw[keep a q2];exact p1,(p2.rho l).mono vis0⟩
    | tab _ _ _ _ =>
     obtain⟨ps,p1,p2,p3⟩:=q3;exact⟨ps,by rw[keep a q2];exact p1,p2,p3.mono vis0⟩
    | dct _ =>
     obtain⟨vk,p1,p2,p3⟩:=q3;exact⟨vk,by rw[keep a q2];exact p1,p2,(p3.rho l).mono vis0⟩
    | exc c j=>exact ExcOk.mono l (keep a q2) q3
    | xd fs =>
     obtain⟨vfs,p1,p2⟩:=q3;exact⟨vfs,by rw[keep a q2];exact p1,p2.mono l vis0⟩
   ·have e:i=Ω.length:=by
     have:=(zbb.mp hi).1;simp at this;omega
    subst e;rw[List.getElem?_append_right (zac _),Nat.sub_self] at hi;cases hi;exact⟨x,by unfold addR;rw[if_pos rfl],addS_t.mpr (.inr (.inl rfl)),hr _ _ _ l vis0⟩
  ·have fresh:∀ i a,i≠Ω.length->ρ i=some a->a≠x:=fun i a hi h z=>by
    subst z;have il:i<Ω.length:=by
     by_cases q:i<Ω.length
     ·exact q
     ·rw[R.sto.top i (by omega)] at h;cases h
    obtain⟨a',q1,q2,_⟩:=R.sto.ats i _ (zax il);rw[h] at q1;cases q1
    exact R.sto.fin a q2 hx
   unfold addR at h1 h2
   by_cases e1:i=Ω.length
   ·by_cases e2:j=Ω.length
    ·rw[e1,e2]
    ·rw[if_pos e1] at h1;rw[if_neg e2] at h2
     cases h1;exact absurd rfl (fresh j _ e2 h2)
   ·by_cases e2:j=Ω.length
    ·rw[if_neg e1] at h1;rw[if_pos e2] at h2
     cases h2;exact absurd rfl (fresh i _ e1 h1)
    ·rw[if_neg e1] at h1;rw[if_neg e2] at h2
     exact R.sto.inj i j a h1 h2
  ·rw[zca,List.length_singleton] at hi;unfold addR;rw[if_neg (by omega)];exact R.sto.top i (by omega)
  ·rcases addS_t.mp hb with q|rfl|rfl
   ·rw[keep b q];exact R.sto.fin b q
   ·rw[jao];exact fun z=>nomatch z
   ·rw[jao];exact fun z=>nomatch z
 obtain⟨t1,t2⟩:=R.call l (fun b o _ h=>sm b o h) old new ff sto;exact⟨t1,l,t2⟩
theorem RM.newL(R:RM ρz Sz Hz F K mg O ρ S H σ δ Ω){x:Addr}{nds:List D}{nxs:List V}(hx:H x=none)(hr:Reps ρ K (hid H (fob (un F S) σ O)) nds nxs) :
  RM ρz Sz Hz F K mg O (addR ρ Ω.length x) (addS S x x) (upd H x (.lst nxs)) σ δ (Ω++[.lst nds])/\RLe ρ (addR ρ Ω.length x) /\
   Same (hid H (fob (un F S) σ O)) (hid (upd H x (.lst nxs)) (fob (un F (addS S x x)) σ O)) :=
 R.newS (nso:=.lst nds) hx fun ρ' S' Hv' l v=>⟨nxs,jao,(hr.rho l).mono v⟩
end
noncomputable def jwe(fl:DSt->MS (List D)):DSt->MS D:=fun δ=>(fl δ).b fun ds Ω=>if ds.length<=sizeLine then some (.ok (.obj Ω.length),Ω++[.lst ds]) else none
section
variable {X:Cx}{O B:List Nat}{a b e o:Expr}{es:List Expr}{fa fb fo:DSt->MS D}{fl:DSt->MS (List D)}{pos:Pos}
theorem jwh(h:MA X O es fl):ME X O (.List es pos) (jwe fl):=by
 rintro pins s σ H Q I ⟨ρz,Sz,Hz,F,ρ,S,δ,Ω,R,r,Ω',hf,k⟩;refine jnr h pins s σ H Q I ?_;rcases MS.b_inv hf with ⟨x,Ω1,e1,hf⟩|⟨x,e1,rfl⟩
 ·refine⟨ρz,Sz,Hz,F,ρ,S,δ,Ω,R,.ok x,Ω1,e1,fun u ρ1 S1 H1 R1 l1 v1 r1=>?_⟩
  by_cases hz:x.length<=sizeLine
  ·rw[if_pos hz] at hf;cases hf;refine⟨by rw[r1.length];exact hz,fun p hp=>?_⟩;obtain⟨t1,t2,t3⟩:=R1.newL hp r1;exact k _ _ _ _ t1 (l1.trans t2) (v1.trans t3) (rep_obj.mpr ⟨p,by unfold addR;rw[if_pos rfl],rfl⟩)
  ·rw[if_neg hz] at hf;cases hf
 ·exact⟨ρz,Sz,Hz,F,ρ,S,δ,Ω,R,.error x,_,e1,trivial⟩
noncomputable def atL:D->D->MS D:=fun x y Ω=>match x,y with
 | .obj i,.int j=>match Ω[i]? with
  | some (.lst ds)=>(L2.atI ds j).map fun d=>(.ok d,Ω)
  | _=>none
 | _,_=>none
inductive AtLI(x y:D)(Ω Ω':Sto)(r:Except XD D):Prop
 | mk (i:Nat) (j:Int) (ds:List D) (d:D) (hx:x=.obj i) (hy:y=.int j) (hi:Ω[i]? = some (.lst ds)) (ha:L2.atI ds j=some d) (hr:r=.ok d) (ho:Ω'=Ω)
theorem jvc{x y:D}{Ω Ω':Sto}{r:Except XD D}(h:atL x y Ω=some (r,Ω')):AtLI x y Ω Ω' r:=by
 unfold atL at h
 cases x with
 | obj i =>
  cases y with
  | int j =>
   dsimp only at h
   cases hi:Ω[i]? with
   | none=>rw[hi] at h;cases h
   | some so =>
    rw[hi] at h
    cases so with
    | ins c fs=>cases h
    | tab _ _ _ _=>cases h
    | dct _=>cases h
    | exc _ _=>cases h
    | xd _=>cases h
    | lst ds =>
     dsimp only at h
     cases ha:L2.atI ds j with
     | none=>rw[ha] at h;cases h
     | some d =>
      rw[ha] at h;cases h;exact⟨i,j,ds,d,rfl,rfl,hi,ha,rfl,rfl⟩
  | _=>cases h
 | _=>cases h
noncomputable def mIxL(fa fb:DSt->MS D):DSt->MS D:=fun δ=>(fa δ).b fun x=>(fb δ).b fun y=>atL x y
theorem jep(ha:ME X O a fa)(hb:ME X O b fb)(hs:autoParam (jjq b) zau6._auto_1):ME X O (.Subscript a b pos) (mIxL fa fb):=by
 rintro pins s σ H Q I ⟨ρz,Sz,Hz,F,ρ,S,δ,Ω,R,r,Ω',hf,k⟩;refine jw5 ix_list ha hb hs pins s σ H Q I ?_;rcases MS.b_inv hf with ⟨x,Ω1,e1,hf⟩|⟨x,e1,rfl⟩
 ·refine⟨ρz,Sz,Hz,F,ρ,S,δ,Ω,R,.ok x,Ω1,e1,fun u ρ1 S1 H1 R1 l1 v1 r1=>?_⟩;rcases MS.b_inv hf with ⟨y,Ω2,e2,hf⟩|⟨y,e2,rfl⟩
  ·refine⟨ρz,Sz,Hz,F,ρ1,S1,δ,Ω1,R1,.ok y,Ω2,e2,fun w ρ2 S2 H2 R2 l2 v2 r2=>?_⟩;obtain⟨i,j,ds,d,rfl,rfl,hi,hj,rfl,rfl⟩:=jvc hf;obtain⟨ad,q1,q2⟩:=rep_obj.mp ((r1.rho l2).mono v2);obtain⟨ad',p1,p2,xs,p3,p4⟩:=R2.sto.ats i _ hi;rw[q1] at p1;cases p1
   obtain⟨v,hv,rv⟩:=jmt p4 hj;exact⟨ad,xs,j,v,q2,rep_int.mp r2,SqL.of p3,hv,k v ρ2 S2 H2 R2 (l1.trans l2) (v1.trans v2) rv⟩
  ·exact⟨ρz,Sz,Hz,F,ρ1,S1,δ,Ω1,R1,.error y,_,e2,trivial⟩
 ·exact⟨ρz,Sz,Hz,F,ρ,S,δ,Ω,R,.error x,_,e1,trivial⟩
noncomputable def chkL:D->MS D:=fun x Ω=>match x with
 | .obj i=>match Ω[i]? with
  | some (.lst _)=>some (.ok x,Ω)
  | _=>none
 | _=>none
noncomputable def putL(g:List D->Option (List D)):D->MS D:=fun x Ω=>match x with
 | .obj i=>match Ω[i]? with
  | some (.lst ds)=>(g ds).map fun es=>(.ok .non,Ω.set i (.lst es))
  | _=>none
 | _=>none
inductive ChkI(x:D)(Ω Ω':Sto)(r:Except XD D):Prop
 | mk (i:Nat) (ds:List D) (hx:x=.obj i) (hi:Ω[i]? = some (.lst ds)) (hr:r=.ok x) (ho:Ω'=Ω)
theorem jnb{x:D}{Ω Ω':Sto}{r:Except XD D}(h:chkL x Ω=some (r,Ω')):ChkI x Ω Ω' r:=by
 unfold chkL at h
 cases x with
 | obj i =>
  dsimp only at h
  cases hi:Ω[i]? with
  | none=>rw[hi] at h;cases h
  | some so =>
   rw[hi] at h
   cases so with
   | ins c fs=>cases h
   | tab _ _ _ _=>cases h
   | dct _=>cases h
   | exc _ _=>cases h
   | xd _=>cases h
   | lst ds=>cases h;exact⟨i,ds,rfl,hi,rfl,rfl⟩
 | _=>cases h
inductive PutI(g:List D->Option (List D))(x:D)(Ω Ω':Sto)(r:Except XD D):Prop
 | mk (i:Nat) (ds es:List D) (hx:x=.obj i) (hi:Ω[i]? = some (.lst ds)) (hg:g ds=some es) (hr:r=.ok .non) (ho:Ω'=Ω.set i (.lst es))
theorem jkl{g:List D->Option (List D)}{x:D}{Ω Ω':Sto}{r:Except XD D}(h:putL g x Ω=some (r,Ω')):PutI g x Ω Ω' r:=by
 unfold putL at h
 cases x with
 | obj i =>
  dsimp only at h
  cases hi:Ω[i]? with
  | none=>rw[hi] at h;cases h
  | some so =>
   rw[hi] at h
   cases so with
   | ins c fs=>cases h
   | tab _ _ _ _=>cases h
   | dct _=>cases h
   | exc _ _=>cases h
   | xd _=>cases h
   | lst ds =>
    dsimp only at h
    cases hg:g ds with
    | none=>rw[hg] at h;cases h
    | some es=>rw[hg] at h;cases h;exact⟨i,ds,es,rfl,hi,hg,rfl,rfl⟩
 | _=>cases h
noncomputable def gApL(d:D):List D->Option (List D):=fun ds=>if ds.length<sizeLine then some (ds++[d]) else none
noncomputable def js4(fo fa:DSt->MS D):DSt->MS D:=fun δ=>(fo δ).b fun x=>(chkL x).b fun x=>(fa δ).b fun d=>putL (gApL d) x
theorem jwg{p2 p3:Pos}(ho:ME X O o fo)(he:ME X O e fa)(hbase:autoParam (attributeBase o "append" X.env (eval o X.env)=eval o X.env) zau2._auto_1)
  (hfew:((backTo p3 (starEach [e] X.env)).all (fun x=>!x.1)&&(backToKw p3 (keywordEach [] X.env)).all (fun x=>x.1.isSome)
   && decide ([e].length+([]:List Keyword).length+(if ([]:List Keyword).isEmpty then 0 else 1)<30))=true:=by rfl)
  (hline:autoParam ((p2.endLine == p3.line)=true) zau2._auto_1) (hs:autoParam (starEach [e] X.env=[(false,eval e X.env)]) zau2._auto_1) :
  ME X O (.Call (.Attribute o "append" p2) [e] [] p3) (js4 fo fa):=by
 rintro pins s σ H Q I ⟨ρz,Sz,Hz,F,ρ,S,δ,Ω,R,r,Ω',hf,k⟩;refine jz9 PySem.F.plainAttrs_list PySem.F.slot_list_append PySem.F.type_list_append jio ho (jd6 he jhj hs) hbase hfew hline hs rfl pins s σ H Q I ?_;rcases MS.b_inv hf with ⟨x,Ω1,e1,hf⟩|⟨x,e1,rfl⟩
 ·refine⟨ρz,Sz,Hz,F,ρ,S,δ,Ω,R,.ok x,Ω1,e1,fun u ρ1 S1 H1 R1 l1 v1 r1=>?_⟩;rcases MS.b_inv hf with ⟨x',Ω1',e1',hf⟩|⟨x',e1',rfl⟩
  ·obtain⟨i,ds,rfl,hi,hr,rfl⟩:=jnb e1';cases hr;obtain⟨ad,q1,q2⟩:=rep_obj.mp r1;obtain⟨ad',p1,p2,xs,p3,p4⟩:=R1.sto.ats i _ hi;rw[q1] at p1;cases p1
   refine⟨by rw[q2];exact .inl ⟨rfl,xs,SqL.of p3⟩,?_⟩;rcases MS.b_inv hf with ⟨y,Ω2,e2,hf⟩|⟨y,e2,rfl⟩
   ·refine⟨ρz,Sz,Hz,F,ρ1,S1,δ,_,R1,.ok y,Ω2,e2,fun w ρ2 S2 H2 R2 l2 v2 r2=>?_⟩;obtain⟨i',ds',es',hx',hi',hg',hr',rfl⟩:=jkl hf;cases hx';cases hr';obtain⟨b1,t1,t2,ys,t3,t4⟩:=R2.sto.ats i _ hi';rw[l2 i ad q1] at t1;cases t1
    unfold gApL at hg'
    by_cases hz:ds'.length<sizeLine
    ·rw[if_pos hz] at hg';cases hg';obtain⟨w1,w2⟩:=R2.putL hi' (l2 i ad q1) t2 t3 (t4.append (Reps.cons r2 Reps.nil));exact⟨ad,ys,w,q2,rfl,t3,by rw[t4.length];exact hz,k _ ρ2 S2 _ w1 (l1.trans l2) (by rw[w2];exact v1.trans v2) (rep_non.mpr rfl)⟩
    ·rw[if_neg hz] at hg';cases hg'
   ·exact⟨ρz,Sz,Hz,F,ρ1,S1,δ,_,R1,.error y,_,e2,trivial⟩
  ·exact absurd (jnb e1') (fun ⟨_,_,_,_,h,_⟩=>by cases h)
 ·exact⟨ρz,Sz,Hz,F,ρ,S,δ,Ω,R,.error x,_,e1,trivial⟩
noncomputable def gStL(j:Int)(d:D):List D->Option (List D):=fun ds=>(ixN ds.length j).map fun n=>ds.set n d
noncomputable def setL(x y d:D):MS D:=match y with
 | .int j=>putL (gStL j d) x
 | _=>fun _=>none
theorem jtu{x d:D}{j:Int}:setL x (.int j) d=putL (gStL j d) x:=rfl
noncomputable def jen(fo fi fv:DSt->MS D):DSt->MS Out:=fun δ=>(fv δ).b fun d=>(fo δ).b fun x=>(fi δ).b fun y=>(setL x y d).b fun _=>MS.p (.nx δ)
theorem jgg{i:Expr}{fi:DSt->MS D}{p2:Pos}(ho:ME X O o fo)(hi:ME X O i fi)(hv:ME X O e fa)
  (ha:∀ v,assign (.Subscript o i p2) X.env v=(do
   let ov <- holding [v] (eval o X.env)
   let iv <- holding [v,ov] (eval i X.env)
   standAt p2
   holding [v,ov,iv] (setItem ov iv v)
   release [v,ov,iv] []):=by intro _;rfl)
  (hs:autoParam (swapsWithSole [.Subscript o i p2] e pos.line X.env=pure false) zau2._auto_1) (hw:autoParam (swappedStores [.Subscript o i p2] e X.env=pure none) zau2._auto_1)
  (h1:autoParam ((assignEach [.Subscript o i p2] X.env).map (·.2)=[assign (.Subscript o i p2) X.env]) zau2._auto_1):MSt X O O B (.Assign [.Subscript o i p2] e pos) (jen fo fi fa):=by
 rintro pins s σ H Dn I ⟨ρz,Sz,Hz,F,ρ,S,δ,Ω,R,r,Ω',hg,k⟩;refine ju1 hv (ju0 ho hi jn1 ha) hs hw h1 pins s σ H Dn I ?_;rcases MS.b_inv hg with ⟨d,Ω1,e1,hg⟩|⟨d,e1,rfl⟩
 ·refine⟨ρz,Sz,Hz,F,ρ,S,δ,Ω,R,.ok d,Ω1,e1,fun v ρ1 S1 H1 R1 l1 v1 r1=>?_⟩;rcases MS.b_inv hg with ⟨x,Ω2,e2,hg⟩|⟨x,e2,rfl⟩
  ·refine⟨ρz,Sz,Hz,F,ρ1,S1,δ,Ω1,R1,.ok x,Ω2,e2,fun u ρ2 S2 H2 R2 l2 v2 r2=>?_⟩;rcases MS.b_inv hg with ⟨y,Ω3,e3,hg⟩|⟨y,e3,rfl⟩
   ·refine⟨ρz,Sz,Hz,F,ρ2,S2,δ,Ω2,R2,.ok y,Ω3,e3,fun w ρ3 S3 H3 R3 l3 v3 r3=>?_⟩;rcases MS.b_inv hg with ⟨z,Ω4,e4,hg⟩|⟨z,e4,rfl⟩
    ·cases hg
     cases y with
     | int j =>
      obtain⟨n,ds,es,rfl,hi',hg',_,rfl⟩:=jkl (g:=gStL j d) e4;obtain⟨ad,q1,q2⟩:=rep_obj.mp ((r2.rho l3).mono v3);obtain⟨ad',p1,p2',xs,p3,p4⟩:=R3.sto.ats n _ hi';rw[q1] at p1;cases p1
      unfold gStL at hg'
      cases hx:ixN ds.length j with
      | none=>rw[hx] at hg';cases hg'
      | some m =>
       rw[hx] at hg';cases hg';have rd:=(((r1.rho l2).mono v2).rho l3).mono v3;obtain⟨w1,w2⟩:=R3.putL hi' q1 p2' p3 (Reps.set rd m p4);exact⟨ad,xs,j,m,q2,rep_int.mp r3,p3,by rw[p4.length];exact hx,k ρ3 S3 σ _ w1 (l1.trans (l2.trans l3)) (by rw[w2];exact v1.trans (v2.trans v3))⟩
     | _=>cases e4
    ·cases y with
     | int j=>exact absurd (jkl (g:=gStL j d) e4) (fun ⟨_,_,_,_,_,_,h,_⟩=>by cases h)
     | _=>cases e4
   ·exact⟨ρz,Sz,Hz,F,ρ2,S2,δ,Ω2,R2,.error y,_,e3,trivial⟩
  ·exact⟨ρz,Sz,Hz,F,ρ1,S1,δ,Ω1,R1,.error x,_,e2,trivial⟩
 ·exact⟨ρz,Sz,Hz,F,ρ,S,δ,Ω,R,.error d,_,e1,trivial⟩
end
noncomputable def forL(k:Nat->D->D)(g:DSt->MS Out)(h:D->DSt->Option DSt)(n:Nat):Nat->Nat->DSt->MS Out
 | 0,_,_=>fun _=>none
 | f+1,i,δ=>fun Ω=>match Ω[n]? with
  | some (.lst ds)=>match ds[i]? with
   | none=>some (.ok (.nx δ),Ω)
   | some d=>match h (k i d) δ with
    | none=>none
    | some δ1=>((g δ1).b fun o=>match o with
     | .nx δ2=>forL k g h n f (i+1) δ2
     | .ct δ2=>forL k g h n f (i+1) δ2
     | .bk δ2=>MS.p (.nx δ2)
     | .rt v=>MS.p (.rt v)) Ω
  | _=>none
inductive ForLI(k:Nat->D->D)(g:DSt->MS Out)(h:D->DSt->Option DSt)(n f i:Nat)(δ:DSt)(Ω Ω':Sto)(r:Except XD Out):Prop
 | stop (ds:List D) (hn:Ω[n]? = some (.lst ds)) (hi:ds[i]? = none) (hr:r=.ok (.nx δ)) (ho:Ω'=Ω)
 | turn (ds:List D) (d:D) (δ1:DSt) (hn:Ω[n]? = some (.lst ds)) (hi:ds[i]? = some d) (hh:h (k i d) δ=some δ1) (hg:((g δ1).b fun o=>match o with
     | .nx δ2=>forL k g h n f (i+1) δ2
     | .ct δ2=>forL k g h n f (i+1) δ2
     | .bk δ2=>MS.p (.nx δ2)
     | .rt v=>MS.p (.rt v)) Ω=some (r,Ω'))
inductive FLInv(X:Cx)(O:List Nat)(ρz:Rho)(Sz:Addr->Bool)(Hz:Hp)(F:Addr->Bool)(ρ1:Rho)(H1:Hp)(m:DSt->MS Out)(r:Except XD Out)(Ω':Sto)(σ:St)(H:Hp):Prop
 | mk (ρ:Rho) (S:Addr->Bool) (δ:DSt) (Ω:Sto) (hR:RM ρz Sz Hz F X.K X.mg O ρ S H σ δ Ω) (hl:RLe ρ1 ρ) (hs:Same H1 (hid H (fob (un F S) σ O))) (hf:m δ Ω=some (r,Ω'))
section
end
noncomputable def jzb(done:List D):Except XD (List D)->Except XD (List D)
 | .ok rest=>.ok (done++rest)
 | .error y=>.error y
inductive CEI(X:Cx)(ρ1:Rho)(S1:Addr->Bool)(H1 Hv:Hp)(G:Addr->Bool)(Dd:Addr)(T:Except XD (List D))(Ωe:Sto)(cd:DSt->MS (List D))(i:Nat)(σ:St)(H:Hp):Prop
 | mk (ρ:Rho) (S:Addr->Bool) (δ:DSt) (Ω:Sto) (done:List D) (zs:List V) (rr:Except XD (List D)) (hR:RM ρ S H G X.K X.mg [] ρ S H σ δ Ω) (hD:H Dd=some (.lst zs)) (hz:Reps ρ X.K (hid H (un G S)) done zs) (hlen:zs.length=i)
  (hc:cd δ Ω=some (rr,Ωe)) (hT:T=jzb done rr) (hv:Same Hv (hid H (un G S))) (hl:RLe ρ1 ρ) (hsm:∀ b o,S1 b=false->H1 b=some o->H b=some o) (hold:∀ b,S1 b=true->S b=true) (hnew:∀ b,S b=true->S1 b=true\/H1 b=none)
section
end
section
end
end DL
namespace L2
open PySem PySem.Spec PyProof.Rows
section
variable {s:Shared}
inductive RgEnd(s:Shared)(n:Nat)(q:Result)(s':Shared):Prop
 | mk (h':Heap) (tk:Nat) (acc:Array Value) (c:Nat) (e1:q=.ok (.ret (.ref s.heap.objs.size))) (e2:s'={ s with heap:=h',toks:=tk }) (k:∀ b o,s.heap.get? b=some o->h'.get? b=some o)
   (at':h'.get? s.heap.objs.size=some { cls:=.type "list",dict:=none,data:=.seq acc c,slots:=#[] }) (got:ItemsOf (fun i v=>∃ t,v=Value.int ((0:Int)+i*1) t) acc n)
end
open Att
noncomputable def jui{α:Type}(c:Nat->Nat->Bool):W.KasT α->α
 | .ret a=>a
 | .ask i j k=>jui c (k (c i j))
noncomputable def jsw{α:Type}(n:Nat):W.KasT α->Bool
 | .ret _=>true
 | .ask i j k=>decide (i<n)&&decide (j<n)&&jsw n (k true)&&jsw n (k false)
noncomputable def jov(keys:List Int)(n:Nat):List Nat:=(jui (fun i j=>decide (keys.getD i 0<keys.getD j 0)) (W.kas_sort n)).toList
section
variable {L:Addr}{m:Str->Option Value}{h:Heap}
structure Lk(L:Addr)(m:Str->Option Value)(h h':Heap):Prop where
 k:∀ b o,b≠L->h.get? b=some o->h'.get? b=some o
 ns:h'.Ns L m
end
section
variable {P:Program}{w:World}{H:Hp}{h:Heap}{a:Addr}{o:HO}
theorem ObjOk.here(x:ObjOk P w H h a o):∃ ob,h.get? a=some ob:=by
 cases o with
 | lst xs=>obtain⟨_,_,_,_,e⟩:=x;exact⟨_,e⟩
 | tup xs=>obtain⟨_,_,_,o,e,_⟩:=x;exact⟨_,e⟩
 | dK kvs=>obtain⟨_,_,_,_,o,_,_,e,_⟩:=x;exact⟨_,e⟩
 | dT kvs=>obtain⟨_,_,_,_,o,_,_,e,_⟩:=x;exact⟨_,e⟩
 | set S n=>obtain⟨o,_,_,_,e,_⟩:=x;exact⟨_,e⟩
 | ins C dx fs=>obtain⟨_,_,_,e,_⟩:=x;exact⟨_,e⟩
 | own y=>exact x
 | xd fs=>obtain⟨_,⟨_,_,_,e,_⟩,_⟩:=x;exact⟨_,e⟩
 | rng lo hi=>obtain⟨_,_,_,e⟩:=x;exact⟨_,e⟩
 | frz ob u=>obtain⟨e,_⟩:=x;exact⟨_,e⟩
 | tbl ps=>exact⟨_,x⟩
 | met f y=>exact⟨_,x⟩
 | ext φ=>exact x.2.1
end
section
end
end L2
namespace DL
open PySem PySem.Spec L2
section
end
inductive CdOf(K:W.Frag)(mg:Str->Option Value)(x:Str)(cdv:Value):Prop
 | mk (f:Addr) (oc:Value) (od:Option Addr) (fd:FuncData) (osl:Array (Option Value)) (h1:mg x=some (.ref f)) (h2:K.lookup f=some ⟨oc,od,.func fd,osl⟩) (h3:fd.code=cdv)
noncomputable def ordD(n:Int)(rs:List D):Option (List D):=match ji7 rs with
 | some ks=>if 2<=n/\n<64/\(ks.length:Int)=n/\jsw n.toNat (W.kas_sort n.toNat)=true/\(jov (ks.map fun k=>-k) n.toNat).all (fun i=>decide (i<n.toNat))=true/\(jov (ks.map fun k=>-k) n.toNat).length<=64 then
   some ((jov (ks.map fun k=>-k) n.toNat).map fun i=>.int (Int.ofNat i)) else none
 | none=>none
inductive SortI(x:Str)(l c:Nat)(q:Str)(ir:Nat)(δ:DSt)(ds:List D)(Ω Ω':Sto)(r:Except XD D):Prop
 | mk (n:Int) (rs es:List D) (h1:ds=[.int n]) (h2:δ[ir]? = some (some (.lst rs))) (h3:Ω[0]? = some (.tab x l c q)) (h4:ordD n rs=some es) (h5:r=.ok (.lst es)) (h6:Ω'=Ω)
inductive OrdI(n:Int)(rs es:List D):Prop
 | mk (N:Nat) (ks:List Int) (h1:n=N) (h2:rs=ks.map .int) (h3:2<=N) (h4:N<64) (h5:ks.length=N) (h6:jsw N (W.kas_sort N)=true) (h7:∀ i∈jov (ks.map fun k=>-k) N,i<N) (h8:(jov (ks.map fun k=>-k) N).length<=64) (h9:es=(jov (ks.map fun k=>-k) N).map fun i=>.int (Int.ofNat i))
end DL
namespace DL
open PySem PySem.Spec PyProof.Rows L2
section
end
section
variable {P:Program}{w:World}{K:W.Frag}{mg:Str->Option Value}{base:Heap}
theorem jv2{x qual:Str}{st:Stmt}{f:Addr}{fd:FuncData}{N ps:List Str}{k:Nat}{sp:Sp}(F:Fun K x qual st f fd)(Sc:FnScope N ps (jae st))(len:∀ vs H Q E,sp vs H Q E->vs.length=ps.length)
  (hbody:∀ (A:Around) (outer:List Env) (s:Shared) (H:Hp) (vs:List V) (Q:VK) (E:XK),Room k (A.deeper (envOfC qual (jae st) s.heap.objs.size f fd.code))->sp vs H Q E ->
   ∃ t,PSs (cxOf CX0 P w K mg base N qual (jae st) f fd.code A outer s H E).nox (jak st) t/\t { nx:=fun _ H'=>Q .non H',rt:=Q } (L2.start N vs) H):FnOk P w K mg base CX0 (k+1) f fd ps sp:=by
 obtain⟨oc,od,kV,doc,pm,an,cdv,ct,osl,rfl,lk,hcd⟩:=F.ex;refine jv1 lk hcd Sc len fun A outer s H vs Q E hr h=>?_
 obtain⟨t,h1,h2⟩:=hbody A outer s H vs Q E hr h;exact⟨t,h1.nox,h2⟩
end
noncomputable def jvu(T:Addr)(K:W.Frag):W.Frag:=K.filter fun p=>!(p.1 == T)
section
variable {K:W.Frag}{T:Addr}
variable (hT:K.lookup T=some ⟨.none,none,.fields #[],#[]⟩)
include hT
end
inductive LawT(P:Program)(w:World)(K:W.Frag)(mg:Str->Option Value)(n k:Nat)(x:Str)(fa:Addr):Prop
 | mk (T c:Addr) (fd:FuncData) (sp:Sp) (h1:K.lookup T=some ⟨.none,none,.fields #[],#[]⟩) (h2:W.codeHdIn K c T=true) (h3:∀ (s:Shared) (u:Value),BindsTo s fd ⟨[u],[]⟩ [(x,u)])
   (h4:∀ base:Heap,(jvu T K).In base->base.Ns mainGlobals mg->FnOk P w (jvu T K) mg base CX0 k fa fd [x] sp)
   (h5:∀ (H:Hp) (a:Addr) (ns:List Int),ns.length<=n->H T=some (.tbl #[])->SqL (jvu T K) H a (ns.map V.int)->sp [.ref a] H (fun v _=>v=.bl true) fun _ _ _=>False)
section
end
end DL
namespace L2
open PySem PySem.Spec PyProof.Rows
theorem jk3(env:Env)(c:List Stmt):∀ b:List Stmt,execs (b++c) env=(execs b env >>= fun f=>match f with|.next=>execs c env|f=>pure f)
 | []=>by
  rw[List.nil_append,show execs [] env=pure .next from execs_nil env,pure_bind]
 | st::b=>by
  rw[List.cons_append,execs_cons,execs_cons,bind_assoc];congr 1
  funext f
  cases f with
  | next=>exact jk3 env c b
  | _=>rw[pure_bind]
theorem jxf{X:Cx}{b:List Stmt}{st:Stmt}{t u:TS}(h1:PSs X b t)(h2:PS X st u):PSs X (b++[st]) (tSeq t u):=by
 intro pins s σ H D I h;rw[jk3];refine zay (thn (h1 pins s σ H { D with nx:=u D } I h) fun f s1 q=>?_)
 cases f with
 | next =>
  obtain⟨σ',H',I',q⟩:=q;exact jis h2 pins s1 σ' H' D I' q
 | ret v=>exact zab q
 | brk=>exact zab q
 | cont=>exact zab q
end L2
namespace DL
open PySem PySem.Spec PyProof.Rows L2
noncomputable def orA(G:Addr->Bool)(l:Addr):Addr->Bool:=fun b=>G b || b == l
theorem orA_t{G:Addr->Bool}{l b:Addr}:orA G l b=true↔G b=true\/b=l:=by unfold orA;rw[Bool.or_eq_true,beq_iff_eq]
inductive spF(K:W.Frag)(mg:Str->Option Value)(n:Nat)(m:List D->MS D)(vs:List V)(H:Hp)(Q:VK)(E:XK):Prop
 | mk (hn:vs.length=n) (ρ:Rho) (S F:Addr->Bool) (ds:List D) (Ω:Sto) (hF:∀ b,F b=true->H b≠none) (hS:∀ b,F b=true->S b=false) (hr:Reps ρ K (hid H (un F S)) ds vs) (hs:StoOk ρ S K mg H (hid H (un F S)) Ω) (es:List D) (Ω':Sto) (hf:m ds Ω=some (.ok (.lst es),Ω'))
   (k:∀ (l:Addr) zs ρ' S' H',RLe ρ ρ'->(∀ b o,S b=false->H b=some o->H' b=some o)->(∀ b,S b=true->S' b=true)->(∀ b,S' b=true->S b=true\/H b=none)->(∀ b,F b=true->S' b=false)->StoOk ρ' S' K mg H' (hid H' (orA (un F S') l)) Ω' ->
    H l=none->H' l=some (.lst zs)->S' l=false->Reps ρ' K (hid H' (orA (un F S') l)) es zs->Q (.ref l) H')
structure CalF(P:Program)(w:World)(K:W.Frag)(mg:Str->Option Value)(base:Heap)(k:Nat)(x:Str)(n:Nat)(m:List D->MS D):Prop where
 ex:CalX P w K mg base k x n (spF K mg n m)
 ar:∀ ds Ω r,m ds Ω=some r->ds.length=n
 ls:∀ ds Ω r Ω',m ds Ω=some (r,Ω')->∃ es,r=.ok (.lst es)
inductive PickF(i:Nat)(q:Option (Except XD Out×Sto))(es:List D)(Ω':Sto):Prop
 | mk (δ':DSt) (h1:q=some (.ok (.nx δ'),Ω')) (h2:δ'[i]? = some (some (.lst es)))
section
end
section
variable {X:Cx}{O B:List Nat}{e:Expr}{es:List Expr}{fl:DSt->MS (List D)}{pos:Pos}{k n:Nat}
theorem jwo{i:Nat}{x f:Str}{m:List D->MS D}{pos' pos2 p:Pos}(hN:X.N.Nodup)(C:CalF X.prog X.w X.K X.mg X.base k f n m)(hr:Room k X.A)(ha:MA X O (e::es) fl)(ho:autoParam (O.contains i=false) zau2._auto_1)(hi:autoParam (X.N[i]? = some x) zau2._auto_1)(hx:autoParam (Loc X.env.scope x) zau8._auto_1)
  (hs:autoParam (swapsWith (.Call (.Name f p) (e::es) [] pos2) (some (.Name x pos')) pos.line X.env=pure false) zau2._auto_1) (hf:autoParam (X.fn x=true\/X.env.scope.names.lookup x=some .local) zau0._auto_1)
  (hg:autoParam (Gl X f) zau2._auto_1) (hdb:autoParam ((f == ("__debug__":Str))=false) zau1._auto_1) (he:autoParam (starEach (e::es) X.env=(false,eval e X.env)::starEach es X.env) zau2._auto_1) (hpl:autoParam ((backTo pos2 (starEach es X.env)).any (·.1)=false) zau2._auto_1) :
  MSt X O (i::O) B (.Assign [.Name x pos'] (.Call (.Name f p) (e::es) [] pos2) pos) (eSet i (jdp m fl)):=by
 obtain⟨fa,fd,ps,hl,hm,hk,hb,G⟩:=C.ex;rintro pins s σ H Dn I ⟨ρz,Sz,Hz,F,ρ,S,δ,Ω,R,r,Ω',hgg,kk⟩;have ho':i∉O:=fun z=>by rw[zbc.mpr z] at ho;cases ho
 have hlt:i<δ.length:=by rw[<- R.rs.len,I.len];exact (zbb.mp hi).1
 refine jlp hN hi hx (jhb (E:=E0) G hr hg hm hk hb .nil (fun _ _ _ _ _ _ _ z=>z.elim) ha hdb he hpl) hs hf pins s σ H Dn I ?_;rcases MS.b_inv hgg with ⟨d,Ω1,e1,hgg⟩|⟨y,e1,rfl⟩
 ·cases hgg;rcases MS.b_inv e1 with ⟨ds,Ω2,e1,hd⟩|⟨y,e1,z⟩
  ·refine⟨ρz,Sz,Hz,F,ρ,S,δ,Ω,R,.ok ds,Ω2,e1,fun vs ρ1 S1 H1 R1 l1 v1 r1=>?_⟩;show spF X.K X.mg n m (vs++[]) H1 _ E0;rw[List.append_nil];obtain⟨es',ee⟩:=C.ls ds Ω2 _ _ hd;cases ee;refine⟨by rw[r1.length];exact C.ar ds Ω2 _ hd,ρ1,S1,fob F σ O,ds,Ω2,fun b hb=>?_,fun b hb=>?_,by rw[jd8];exact r1,by rw[jd8];exact R1.sto,es',Ω',hd,?_⟩
   ·intro z;have:=R1.fresh z;rw[<- jd8,un_t.mpr (.inl hb)] at this;cases this
   ·rcases fob_t.mp hb with z|z
    ·exact R1.ff b z
    ·cases e:S1 b with
     | false=>rfl
     | true=>exact absurd z (R1.base_S e)
   ·intro l zs ρ2 S2 H2 l2 sm old new ff sto hl0 hl2 hSl rz
    let H3:Hp:=fun b=>if b=l then none else H2 b
    have h3:H3 l=none:=if_pos rfl;have n3:∀ b,b≠l->H3 b=H2 b:=fun b hb=>if_neg hb
    have e3:upd H3 l (.lst zs)=H2:=by
     funext b
     by_cases hb:b=l
     ·subst hb;rw[jao,hl2]
     ·rw[jah hb,n3 b hb]
    have eh:∀ G:Addr->Bool,hid H2 (orA G l)=hid H3 G:=fun G=>by
     funext b
     unfold hid
     by_cases hb:b=l
     ·subst hb;rw[h3,if_pos (orA_t.mpr (.inr rfl))]
      split<;>rfl
     ·have:orA G l b=G b:=by
       unfold orA;rw[show (b == l)=false by simpa using hb,Bool.or_false]
      rw[this,n3 b hb]
    rw[eh] at sto rz;obtain⟨t1,t2⟩:=R1.call (H':=H3) l2 (fun b o q1 q2=>by rw[n3 b (jaz q2 hl0)];exact sm b o q1 q2) old new ff (sto.mono (fun b hb=>n3 b (by rintro rfl;rw[hSl] at hb;cases hb)) (Same.refl _) fun b xs q=>sto.tv b xs (by rw[<- n3 b (fun z=>by rw[z,h3] at q;cases q)];exact q));rw[jd8] at rz;obtain⟨w1,w2⟩:=t1.take ho' hlt h3 rz;rw[e3] at w1 w2;exact kk ρ2 S2 _ _ w1 (l1.trans l2) (v1.trans (t2.trans w2))
  ·cases z
 ·rcases MS.b_inv e1 with ⟨ds,Ω2,e1,hd⟩|⟨y',e1,z⟩
  ·obtain⟨es',ee⟩:=C.ls ds Ω2 _ _ hd;cases ee
  ·cases z;exact⟨ρz,Sz,Hz,F,ρ,S,δ,Ω,R,.error _,_,e1,trivial⟩
end
end DL
namespace L2
open PySem PySem.Spec PyProof.Rows
open Att
section
inductive TpAt(h:Heap)(v:Value)(ns:List Int):Prop
 | mk (a:Addr) (its:Array Value) (e:v=.ref a) (h1:IsTup h a its) (h2:IntsAre its.toList ns)
end
end L2
namespace DL
open PySem PySem.Spec PyProof.Rows L2
section
variable {e:Expr}
inductive TupV(K:W.Frag)(H:Hp)(v:V)(t:List Int):Prop
 | mk (a:Addr) (e:v=.ref a) (h:SqT K H a (t.map V.int))
end
noncomputable def js3(fa fb:DSt->MS D):DSt->MS D:=fun δ=>(fa δ).b fun x=>match x with
 | .bl true=>fb δ
 | .bl false=>MS.p (.bl false)
 | _=>fun _=>none
section
variable {X:Cx}{O:List Nat}{a b:Expr}{rest:List Expr}{pos:Pos}{fa fb:DSt->MS D}
theorem jzs{op}(h:ME X O a fa):ME X O (.BoolOp op [a] pos) fa:=fun pins s σ H Q I hw=>juz h pins s σ H Q I hw
theorem jul(ha:ME X O a fa)(hb:ME X O (.BoolOp .And (b::rest) pos) fb):ME X O (.BoolOp .And (a::b::rest) pos) (js3 fa fb):=by
 rintro pins s σ H Q I ⟨ρz,Sz,Hz,F,ρ,S,δ,Ω,R,r,Ω',hf,k⟩;refine juy ha hb pins s σ H Q I ?_;rcases MS.b_inv hf with ⟨x,Ω1,e1,hf⟩|⟨x,e1,rfl⟩
 ·refine⟨ρz,Sz,Hz,F,ρ,S,δ,Ω,R,.ok x,Ω1,e1,fun u ρ1 S1 H1 R1 l1 v1 r1=>?_⟩
  cases x with
  | bl z =>
   refine⟨z,rep_bl.mp r1,?_⟩
   cases z with
   | true =>
    refine iteT ⟨ρz,Sz,Hz,F,ρ1,S1,δ,Ω1,R1,r,Ω',hf,?_⟩
    cases r with
    | ok d=>exact fun v ρ2 S2 H2 R2 l2 v2 r2=>k v ρ2 S2 H2 R2 (l1.trans l2) (v1.trans v2) r2
    | error y=>trivial
   | false =>
    refine iteF ?_;cases hf;exact k _ ρ1 S1 H1 R1 l1 v1 (rep_bl.mpr rfl)
  | _=>cases hf
 ·exact⟨ρz,Sz,Hz,F,ρ,S,δ,Ω,R,.error x,_,e1,trivial⟩
end
end DL
namespace L2
open PySem PySem.Spec PyProof.Rows
section
variable {κ:Type}[DecidableEq κ]
end
theorem jB7{P:Program}{w:World}{k:Key}{u:Value}(r:RelV (kV k) u):(jfk P w).is k u=true:=by
 cases k with
 | inl i=>obtain⟨t,e⟩:=(show ∃ t,u=Value.int i t from r);subst e;exact jmh P w i t
 | inr x=>obtain⟨t,e⟩:=(show ∃ t,u=Value.str x t from r);subst e;exact jmi P w x t
section
end
section
end
section
end
section
end
section
end
structure M1(X:Cx)(o:Expr)(m:Str)(apos:Pos)(e:Expr)(cpos:Pos):Prop where
 base:attributeBase o m X.env (eval o X.env)=eval o X.env
 few:((backTo cpos (starEach [e] X.env)).all (fun x=>!x.1)&&(backToKw cpos (keywordEach [] X.env)).all (fun x=>x.1.isSome)
  && decide (([e]:List Expr).length+([]:List Keyword).length+(if ([]:List Keyword).isEmpty then 0 else 1)<30))=true
 line:(apos.endLine == cpos.line)=true
 trees:backTo cpos (starEach [e] X.env)=[(false,eval e X.env)]
structure M2(X:Cx)(o:Expr)(m:Str)(apos:Pos)(e f:Expr)(cpos:Pos):Prop where
 base:attributeBase o m X.env (eval o X.env)=eval o X.env
 few:((backTo cpos (starEach [e,f] X.env)).all (fun x=>!x.1)&&(backToKw cpos (keywordEach [] X.env)).all (fun x=>x.1.isSome)
  && decide (([e,f]:List Expr).length+([]:List Keyword).length+(if ([]:List Keyword).isEmpty then 0 else 1)<30))=true
 line:(apos.endLine == cpos.line)=true
 trees:backTo cpos (starEach [e,f] X.env)=[(false,eval e X.env),(false,eval f X.env)]
section
end
section
end
section
end
section
end
end L2
namespace Att
open PySem PySem.W PySem.Calls PyProof.Rows
end Att
namespace L2
open PySem PySem.Spec PyProof.Rows
section
variable {κ:Type}[DecidableEq κ]
end
end L2
namespace L2
open PySem PySem.Spec PyProof.Rows Builtin Builtin.ObjectAttr
open PySem.W (Frag InstAt Looks findIn mroIn clsIn findObj takerIn tailIn isFn)
noncomputable abbrev bmV:List Value:=[.type "ValueError",.type "Exception",.type "BaseException",.type "object"]
noncomputable def xIn(K:Frag)(C:Addr):Bool:=match K.lookup C with
 | some ⟨.type "type",_,.cls cd,sl⟩=>(match cd.mro,sl.toList with
  | .ref C'::bm,[_,_,_,_,some (.builtin n),_]=>C' == C&&n == "ValueError.__new__"&&!cd.hasDel&&cd.hasDict&&tailIn K bmV bm
  | _,_=>false)
 | _=>false
inductive XAt(K:Frag)(h:Heap)(C:Addr):Prop
 | mk (bm:List Value) (N:Addr) (nm q:Str) (bs:List Value) (sn:List Str) (sub:List Value) (ab:Bool) (col:Option Bool) (dd:Option Addr) (k0 k1 k2 k3 k5:Option Value) (cd:ClassData)
  (hC:h.get? C=some (excClassObj nm q C N bs bm true sn sub ab col dd k0 k1 k2 k3 k5 "ValueError.__new__")) (T:OwnTail h bmV bm) (hk:clsIn K C=some cd) (hm:cd.mro=.ref C::bm) (hd:cd.hasDict=true) (hN:cd.ns=N)
theorem x_at{K:Frag}{h:Heap}{C:Addr}(X:K.In h)(e:xIn K C=true):XAt K h C:=by
 unfold xIn at e
 split at e
 ·rename_i dd cd sl ho
  split at e
  ·rename_i C' bm k0 k1 k2 k3 n k5 hm hs;simp only[Bool.and_eq_true,beq_iff_eq,Bool.not_eq_true'] at e;obtain⟨⟨⟨⟨e1,e2⟩,e3⟩,e4⟩,e5⟩:=e;subst e1 e2;have hk:clsIn K C'=some cd:=by unfold clsIn;rw[ho]
   have hm0:=hm;have e40:=e4;obtain⟨nm,bs,mro,ns,qn,hd,sn,sub,ab,col,del⟩:=cd;dsimp only at hm e3 e4;subst hm e3 e4;have hsl:sl=#[k0,k1,k2,k3,some (.builtin "ValueError.__new__"),k5]:=by
    obtain⟨l⟩:=sl;simp only at hs;rw[hs]
   subst hsl;exact⟨bm,ns,nm,qn,bs,sn,sub,ab,col,dd,k0,k1,k2,k3,k5,_,X _ _ ho,W.tail_of_in X e5,hk,hm0,e40,rfl⟩
  ·cases e
 ·cases e
theorem jmr{h:Heap}{bm:List Value}(self:Value)(T:OwnTail h bmV bm):refuseLoop self "__setattr__" bm=pure ():=by
 induction T with
 | base=>exact PySem.F.store_ValueError.passes self
 | own _ _ _ _ ih=>rw[refuseLoop_ref];exact ih
section
variable {prog:Program}{w:World}{A:Around}{E:Value->Shared->Prop}{s:Shared}{K:Frag}{x C f:Addr}{name:Str}{v:Value}{ox:Obj}{od:Option Obj}
theorem jA8{rest:List Value}{Q:Value->Shared->Prop}(X:K.In s.heap)(hx:xIn K C=true)(hi:findIn K (.ref C) "__init__"=some (some (.ref f)))(hf:isFn K (.ref f)=true)
  (hq:∀ h' e,Heap.MadeExcOf s.heap h' e (.ref C) rest->wpAny (model prog w) (A.under (.builtin "type.__call__" ⟨.ref C::rest,[]⟩)) (call (.ref f) (.ref e::rest)) (fun r s'=>r=.none/\Q (.ref e) s') E { s with heap:=h' }) (hrest:rest.length<=sizeLine) :
  wpAny (model prog w) A (call (.ref C) rest) Q E s:=by
 obtain⟨bm,N,nm,q,bs,sn,sub,ab,col,dd,k0,k1,k2,k3,k5,cd,hC,T,hk,hm,hd,hN⟩:=x_at X hx;obtain⟨h,g,d,t,os⟩:=s;have F:=PySem.F.excBase_ValueError;have f1:=tc_lookup;have f2:=tc_bind (.ref C);have hT:(⟨h,g,d,t,os⟩:Shared).TypeIs (.ref C) "type":=⟨_,hC,rfl⟩
 refine wpAny_call (codeAny_of_tree (show wpAny _ _ (callAny (.ref C) _) _ _ _ from ?_))
 repeat (any_goals (first|assumption|with_reducible refine wpAny_loadPart_at hC ?_|wp_step))
 refine⟨rfl,codeAny_call_builtin_at (Code.quiet_builtin _ (by decide +kernel)) entry_typeCall (wpAny_check_type_call_sub hC ?_)⟩
 repeat (first|with_reducible refine wpAny_loadPart_at hC ?_|with_reducible refine wpAny_madeBy_exc hC ?_|wp_step)
 refine codeAny_call_builtin_code (Code.quiet_builtin _ F.quiet) (wpAny_check_new_subT F T hC (codeAny_exc_new_subT F T hC (show wpAny _ _ _ _ _ _ from ?_) hrest));have kp:∀ b o,h.get? b=some o->((h.push { cls:=.type "tuple",data:=.seq rest.toArray }).push { cls:=.ref C,data:=.fields #[.ref h.objs.size,.none,.none,.none,.bool false,.none] }).get? b=some o:=fun b o e=>zaz _ (zaz _ e)
 have hC1:=kp _ _ hC;have X1:K.In ((h.push { cls:=.type "tuple",data:=.seq rest.toArray }).push { cls:=.ref C,data:=.fields #[.ref h.objs.size,.none,.none,.none,.bool false,.none] }):=fun b o e=>kp b o (X b o e)
 have hg1:((h.push { cls:=.type "tuple",data:=.seq rest.toArray }).push { cls:=.ref C,data:=.fields #[.ref h.objs.size,.none,.none,.none,.bool false,.none] }).get? (h.objs.size+1)=some { cls:=.ref C,data:=.fields #[.ref h.objs.size,.none,.none,.none,.bool false,.none] }:=by heap_get
 have hc1:(Value.ref C::bm).contains (.ref C)=true:=by simp
 unfold isInstance
 repeat (first|with_reducible refine wpAny_loadPart_at hg1 ?_|(with_reducible refine wpAny_isSubtype_exc hC1 ?_;rw[hc1])|wp_step)
 refine wpAny_isSubtype_exc (C:=C) hC1 ?_;rw[hc1]
 repeat wp_step
 repeat (first|with_reducible refine wpAny_loadPart_at hg1 ?_|wp_step)
 show wpAny _ _ (typeLookup (.ref C) _) _ _ _;refine (W.looks_findIn X1 hi).at ?_;refine wpAny_holding (zay ((W.bind_fn X1 _ (beq_iff_eq.mp hf)).at ?_));refine zay (wpAny_mono (hq _ (h.objs.size+1) ⟨kp,Heap.get?_none_of_le (Nat.le_succ _),h.objs.size,hg1,Heap.get?_none_of_le (zac _),zaz _ (Heap.get?_push_at rfl rfl)⟩) (fun r s' hr=>?_) fun _ _ z=>z);obtain⟨rfl,hQ⟩:=hr
 wp_walk
 exact hQ
noncomputable def xNoI(K:Frag)(C:Addr):Bool:=(clsIn K C).any fun cd=>W.nsOkIn K cd.ns&&W.nsIn K cd.ns "__init__" == some none
theorem jxz{rest:List Value}{Q:Value->Shared->Prop}(X:K.In s.heap)(hx:xIn K C=true)(hi:xNoI K C=true)(hq:∀ h' e,Heap.MadeExcOf s.heap h' e (.ref C) rest->Q (.ref e) { s with heap:=h' })(hrest:rest.length<=sizeLine) :
  wpAny (model prog w) A (call (.ref C) rest) Q E s:=by
 obtain⟨bm,N,nm,q,bs,sn,sub,ab,col,dd,k0,k1,k2,k3,k5,cd,hC,T,hk,hm,hd,hN⟩:=x_at X hx;obtain⟨cd',e1,e2⟩:=W.any_some hi;rw[hk] at e1;cases e1;rw[hN,Bool.and_eq_true,beq_iff_eq] at e2;obtain⟨h,g,d,t,os⟩:=s;exact wpAny_call_exc_subT (hrest:=hrest) PySem.F.excBase_ValueError T hC (.of_isNs (W.isNs_of_in X e2.1)) (W.nsMap_none_of_in X e2.1 e2.2) hq
theorem jx0{K:Frag}{C:Addr}{h:Heap}(X:K.In h)(hx:xIn K C=true){T:String}(hT:bmV.contains (.type T)=true):mroIn K C (.type T)=some true:=by
 obtain⟨bm,N,nm,q,bs,sn,sub,ab,col,dd,k0,k1,k2,k3,k5,cd,hC,Tl,hk,hm,hd,hN⟩:=x_at X hx;unfold mroIn;rw[hk,Option.bind_some,hm,if_neg (fun z=>by cases z),List.contains_cons,Tl.hasType hT,Bool.or_true]
theorem jA9{R:Result->Shared->Prop}{tk:Tok}(X:K.In s.heap)(I:InstAt s.heap x ox C od)(hx:xIn K C=true)(ht:takerIn K C name=some none)
  (h:∀ b,wpAny (model prog w) A.in1 (storeInOwnDict (.ref x) (.ref C) (.str name tk) name v b) (fun fin s'=>match fin with|.done f=>R (.ok f) s'|.again c'=>c'.quiet=true/\codeAny (model prog w) A c' R s') (fun e s'=>R (.error e) s') s) :
  codeAny (model prog w) A (.call (.builtin "object.__setattr__") ⟨[.ref x,.str name tk,v],[]⟩) R s:=by
 have SF:=PySem.F.store_object;have sub:Looks (model prog w) s.heap (isInstance (.ref x) (.type "object")) true:=I.type.andThen (W.looks_mroIn X (jx0 X hx (by decide)));obtain⟨bm,N,nm,q,bs,sn,sub',ab,col,dd,k0,k1,k2,k3,k5,cd,hC,Tl,hk,hm,hd,hN⟩:=x_at X hx;have hmr:Looks (model prog w) s.heap (mroOf (.ref C)) (.ref C::bm):=by
  have:=(W.looks_clsIn (M:=model prog w) X hk).andThen (f:=fun cd=>pure cd.mro) (b:=cd.mro) .now;rw[hm] at this;exact this
 refine codeAny_call_builtin SF.slot.plain SF.entry (@W.check_slot (model prog w) _ _ s "object.__setattr__" "object" "__setattr__" (.ref x) [.str name tk,v] [] _ SF.kind SF.split sub (SF.args (.ref x) (.str name tk) v) ?_);obtain⟨attr,ha,hr⟩:=Option.bind_eq_some_iff.mp ht;have L3:Looks (model prog w) s.heap (storeTaker? attr) none:=by
  cases attr with
  | none=>exact .now
  | some a =>
   obtain⟨b,hb,e⟩:=Option.map_eq_some_iff.mp hr
   cases b with
   | false=>exact (W.looks_takesIn X hb).andThen .now
   | true=>cases e
 rw[W.osa_eq,refuse_eq];refine zay (zay (I.type.here (zay (hmr.here ?_))));rw[refuseLoop_ref,jmr _ Tl];exact zab (zay (I.type.here (zay ((W.looks_findIn X ha).here (zay (L3.here (h _)))))))
theorem jm0{h:Heap}{vs:Array Value}{sl:Array (Option Value)}(e:h.get? x=some (xOb C none vs sl)):InstAt h x (xOb C none vs sl) C none:=⟨e,rfl,rfl,trivial⟩
theorem jm1{h:Heap}{vs:Array Value}{sl:Array (Option Value)}{dx:Addr}{o:Obj}(e:h.get? x=some (xOb C (some dx) vs sl))(e2:h.get? dx=some o):InstAt h x (xOb C (some dx) vs sl) C (some o):=⟨e,rfl,rfl,e2⟩
theorem jBa{vs:Array Value}{sl:Array (Option Value)}{Q:Unit->Shared->Prop}(X:K.In s.heap)(h0:s.heap.get? x=some (xOb C none vs sl))(hx:xIn K C=true)(hs:findIn K (.ref C) "__setattr__"=some (some (.builtin "object.__setattr__")))(ht:takerIn K C name=some none)
  (h:∀ h':Heap,h'.get? x=some (xOb C (some s.heap.objs.size) vs sl)->h'.Ns1 s.heap.objs.size (fun y=>if y=name then some v else none)->(∀ b ob,b≠x->s.heap.get? b=some ob->h'.get? b=some ob)->Q () { s with heap:=h',toks:=s.toks+2 }) :
  wpAny (model prog w) A (setAttr (.ref x) name v) Q E s:=by
 have I:=jm0 h0;refine W.set_plain X I hs (jA9 (s:={ s with toks:=s.toks+1 }) X I hx ht fun b=>?_);obtain⟨bm,N,nm,q,bs,sn,sub',ab,col,dd,k0,k1,k2,k3,k5,cd,hC,Tl,hk,hm,hd,hN⟩:=x_at X hx;have hxs:x≠s.heap.objs.size:=zcv (zbv h0);have h1:(s.heap.push { cls:=.type "dict",data:=.dict #[] }).get? x=some (xOb C none vs sl):=zaz _ h0;refine zay (zab (zay (zay (wpAny_loadPart h0 (zay (Looks.here (s:={ s with toks:=s.toks+1 }) (W.looks_clsIn X hk) ?_))))));rw[hd];refine (show wpAny (model prog w) A.in1 (alloc { cls:=Value.type "dict",data:=Data.dict #[] } >>= fun d=>update x (fun o=>{ cls:=o.cls,dict:=some d,data:=o.data,slots:=o.slots }) >>= fun _=>(pure (some d):Sem (Option Addr))) _ _ _ from ?_);refine zay (wpAny_alloc (zay (wpAny_update h1 (zab ?_))));have g1:((s.heap.push { cls:=.type "dict",data:=.dict #[] }).update x fun o=>{ cls:=o.cls,dict:=some s.heap.objs.size,data:=o.data,slots:=o.slots }).get? s.heap.objs.size=some { cls:=.type "dict",data:=.dict #[] }:=by
  rw[Heap.get?_update_ne _ _ _ _ hxs.symm];exact zbz _ rfl
 have g2:((s.heap.push { cls:=.type "dict",data:=.dict #[] }).update x fun o=>{ cls:=o.cls,dict:=some s.heap.objs.size,data:=o.data,slots:=o.slots }).Ns s.heap.objs.size (fun _=>none) :=
  ⟨_,#[],_,g1,rfl,(fun e he=>absurd he (by simp)),fun _=>rfl⟩
 show wpAny _ _ (storeInDict s.heap.objs.size (.str name s.toks) name v) _ _ _;unfold storeInDict newKeyGuard;refine zay (zab (zay (wpAny_nsSet1 (s:=⟨(s.heap.push { cls:=.type "dict",data:=.dict #[] }).update x fun o=>{ cls:=o.cls,dict:=some s.heap.objs.size,data:=o.data,slots:=o.slots },s.gens,s.drawn,s.toks+1,s.os⟩) (Heap.Ns1.of_empty g2) fun h' hn' hsb=>?_)));obtain⟨oD,esD,epD,hoD,hdD,hcD⟩:=hn'.count (PySem.Within.cons name v PySem.Within.nil);refine zay (wpAny_lookBehind hoD (by rw[hdD];exact pastItsLine_dict (zcc hcD (by rw[List.length_cons,List.length_nil,sizeLine_eq];omega))) ?_);refine zab (h h' ?_ hn' fun b ob nb hb=>?_)
 ·refine (hsb.2 x hxs).trans (Heap.get?_update_self _ h1 rfl)
 ·exact (hsb.2 b (zcv (zbv hb))).trans ((Heap.get?_update_ne _ _ _ _ nb).trans (zaz _ hb))
theorem jBb{vs:Array Value}{sl:Array (Option Value)}{dx:Addr}{mA:Str->Option Value}{ns:List Str}{Q:Unit->Shared->Prop}(X:K.In s.heap)(h0:s.heap.get? x=some (xOb C (some dx) vs sl))(hn:s.heap.Ns1 dx mA)(hx:xIn K C=true)
  (hs:findIn K (.ref C) "__setattr__"=some (some (.builtin "object.__setattr__"))) (ht:takerIn K C name=some none) (hw:PySem.Within mA ns) (hsz:ns.length<=sizeLine)
  (h:∀ h':Heap,h'.Ns1 dx (fun y=>if y=name then some v else mA y)->Heap.SameBut dx s.heap h'->Q () { s with heap:=h',toks:=s.toks+2 }) :
  wpAny (model prog w) A (setAttr (.ref x) name v) Q E s:=by
 obtain⟨od,_,_,e1,_⟩:=id hn;have I:=jm1 h0 e1;refine W.set_plain X I hs (jA9 (s:={ s with toks:=s.toks+1 }) X I hx ht fun b=>?_);obtain⟨bm,N,nm,q,bs,sn,sub',ab,col,dd,k0,k1,k2,k3,k5,cd,hC,Tl,hk,hm,hd,hN⟩:=x_at X hx;refine zay (zab (zay (zay (wpAny_loadPart h0 (zay (Looks.here (s:={ s with toks:=s.toks+1 }) (W.looks_clsIn X hk) ?_))))));rw[hd];refine zab (a:=some dx) (zay (zab (zay (wpAny_nsSet1 (s:={ s with toks:=s.toks+1 }) hn fun h' hn2 hs2=>?_))));obtain⟨oD,esD,epD,hoD,hdD,hcD⟩:=hn2.count (PySem.Within.cons name v hw);exact zay (wpAny_lookBehind hoD (by rw[hdD];exact pastItsLine_dict (zcc hcD (by rw[List.length_cons];omega))) (zab (h _ hn2 hs2)))
end
end L2
namespace L2
open PySem PySem.Spec PyProof.Rows Builtin Builtin.ObjectAttr
open PySem.W (Frag InstAt Looks findIn mroIn clsIn findObj takerIn specialIn takesIn hasDictIn isFn)
section
variable {prog:Program}{w:World}{A:Around}{E:Value->Shared->Prop}{s:Shared}{K:Frag}{x C f:Addr}{name:Str}{v:Value}{ox:Obj}{od:Option Obj}
theorem jsy:builtinKind "BaseException.__getattribute__"=some .slot:=by decide +kernel
theorem jrt:splitId "BaseException.__getattribute__"=some ("BaseException","__getattribute__"):=by decide +kernel
theorem x_ga{R:Result->Shared->Prop}{tk:Tok}(X:K.In s.heap)(I:InstAt s.heap x ox C od)(hx:xIn K C=true)
  (h:wpAny (model prog w) A.in1 (Builtin.«object.__getattribute__» ⟨[.ref x,.str name tk],[]⟩) (fun fin s'=>match fin with|.done f=>R (.ok f) s'|.again c'=>c'.quiet=true/\codeAny (model prog w) A c' R s') (fun e s'=>R (.error e) s') s) :
  codeAny (model prog w) A (.call (.builtin "BaseException.__getattribute__") ⟨[.ref x,.str name tk],[]⟩) R s:=by
 have sub:Looks (model prog w) s.heap (isInstance (.ref x) (.type "BaseException")) true:=I.type.andThen (W.looks_mroIn X (jx0 X hx (by decide)));exact codeAny_call_builtin PySem.F.excAttr_ValueError.ga.plain PySem.F.entry_bexc_ga (@W.check_slot (model prog w) _ _ s "BaseException.__getattribute__" "BaseException" "__getattribute__" (.ref x) [.str name tk] [] _ jsy jrt sub (PySem.F.args_bexc_ga _ _) h)
theorem x_by{tk:Tok}{fill expr:Bool}{Q:Value->Shared->Prop}(X:K.In s.heap)(I:InstAt s.heap x ox C od)(hx:xIn K C=true)(hga:findIn K (.ref C) "__getattribute__"=some (some (.builtin "BaseException.__getattribute__")))(hgh:findIn K (.ref C) "__getattr__"=some none)
  (h:wpAny (model prog w) A.in1 (Builtin.«object.__getattribute__» ⟨[.ref x,.str name tk],[]⟩) (fun fin s'=>match fin with|.done (.ret v)=>wpAny (model prog w) A (handedOut v) Q E s'|_=>False) (fun _ _=>False) s) :
  wpAny (model prog w) A (getAttrBy (.ref x) (.str name tk) fill expr) Q E s:=by
 have L0:=I.type (M:=model prog w);have L1:=W.looks_findIn (M:=model prog w) X hga;have L2:=W.looks_hook (M:=model prog w) (mc:=.ref C) (r:=none) X hgh;unfold getAttrBy;refine wpAny_holding (zay (L0.here (zay (L1.here ?_))));show wpAny _ _ (getAttrByItsOwn (.ref x) (.str name tk) (.ref C) (.builtin "BaseException.__getattribute__") fill expr) _ _ _;unfold getAttrByItsOwn;refine zay (L2.here (zay (wpAny_attempt (wpAny_holding ?_))));have e0:callGetattribute (.ref x) (.str name tk) (.builtin "BaseException.__getattribute__") expr=boundAndCalled (.builtin "BaseException.__getattribute__") (.ref x) (.str name tk):=by cases expr<;>rfl
 rw[e0];unfold boundAndCalled;rw[PySem.F.excAttr_ValueError.ga.bind];refine zay (zab (wpAny_call (x_ga X I hx (wpAny_mono h (fun fin s' z=>?_) fun _ _ z=>z.elim))));rcases fin with (_|_|_|_)|_<;>first|exact z|exact z.elim
theorem jA7{tk:Tok}{r:Found}{Q:PySem.Fin->Shared->Prop}(X:K.In s.heap)(I:InstAt s.heap x ox C od)(hf:findObj K C od name=some r)
  (h:wpAny (model prog w) A (match r with|.value v=>ret v|.bind g a=>bindTo g a (.ref x) (.ref C)|.missing=>unsupported "no") Q E s) (hr:r≠.missing) :
  wpAny (model prog w) A (Builtin.«object.__getattribute__» ⟨[.ref x,.str name tk],[]⟩) Q E s:=by
 have L0:=I.type (M:=model prog w);have L1:=W.looks_find (M:=model prog w) X I hf;refine zay (zab (zay (zab (zay (L0.here (zay (L1.here ?_)))))))
 cases r with
 | value v=>exact h
 | bind g a=>exact h
 | missing=>exact absurd rfl hr
theorem jxx{Q:Option Value->Shared->Prop}(X:K.In s.heap)(I:InstAt s.heap x ox C od)(hx:xIn K C=true)(hga:findIn K (.ref C) "__getattribute__"=some (some (.builtin "BaseException.__getattribute__")))(hgh:findIn K (.ref C) "__getattr__"=some none)
  (ha:findIn K (.ref C) "__class__"=some (some (.builtin "object.__class__"))) (hn:specialIn K (.builtin "object.__class__") "__get__"=some (some (.builtin "getset_descriptor.__get__"))) (htk:takesIn K (.builtin "object.__class__")=some true)
  (h:Q (some (.ref C)) { s with toks:=s.toks+1 }):wpAny (model prog w) A (getAttr? (.ref x) "__class__") Q E s:=by
 obtain⟨bm,N,nm,q,bs,sn,sub',ab,col,dd,k0,k1,k2,k3,k5,cd,hC,Tl,hk,hm,hd,hN⟩:=x_at X hx;have hf:findObj K C od "__class__"=some (.bind (.builtin "getset_descriptor.__get__") (.builtin "object.__class__")):=by
  unfold W.findObj;rw[hk,Option.bind_some,ha,Option.bind_some];dsimp only;rw[hn,Option.bind_some];dsimp only;rw[htk];rfl
 unfold getAttr? getAttrBy?;refine zay (wpAny_mkText (zay (wpAny_attempt (x_by (s:={ s with toks:=s.toks+1 }) X I hx hga hgh (jA7 (s:={ s with toks:=s.toks+1 }) X I hf (show wpAny _ _ (holding [Value.builtin "object.__class__"] (call (.builtin "getset_descriptor.__get__") [.builtin "object.__class__",.ref x,.ref C]) >>= ret) _ _ _ from ?_) (fun z=>nomatch z))))));refine zay (wpAny_holding (wpAny_call (W.class_get (s:={ s with toks:=s.toks+1 }) X I (jx0 X hx (by decide)) (zab (W.handed_on rfl (zab h))))))
theorem juj(hx:xIn K C=true)(hga:findIn K (.ref C) "__getattribute__"=some (some (.builtin "BaseException.__getattribute__")))(hgh:findIn K (.ref C) "__getattr__"=some none)
  (ha:findIn K (.ref C) "__class__"=some (some (.builtin "object.__class__"))) (hn:specialIn K (.builtin "object.__class__") "__get__"=some (some (.builtin "getset_descriptor.__get__"))) (htk:takesIn K (.builtin "object.__class__")=some true) :
  W.KitX K (.ref x) (.ref C) (fun h=>∃ ox od,InstAt h x ox C od) where
 ty:=fun _ _ _ ⟨_,_,I⟩=>I.type
 it:=fun _ _ X _=>by
  obtain⟨bm,N,nm,q,bs,sn,sub',ab,col,dd,k0,k1,k2,k3,k5,cd,hC,Tl,hk,hm,hd,hN⟩:=x_at X hx;intro A' Q' E' s' k z;unfold isType loadHead;exact zay (wpAny_loadPart (k _ _ hC) (zab z))
 ne:=fun h tp dd its n sl X htp=>by
  obtain⟨bm,N,nm,q,bs,sn,sub',ab,col,dd',k0,k1,k2,k3,k5,cd,hC,Tl,hk,hm,hd,hN⟩:=x_at X hx;refine Bool.eq_false_iff.mpr fun q=>?_
  rw[<- Value.ref.inj (beq_iff_eq.mp q),hC] at htp;exact absurd (Value.type.inj (congrArg Obj.cls (zby htp))) (by decide)
 ca:=fun X ⟨_,_,I⟩ z=>jxx X I hx hga hgh ha hn htk z
end
end L2
namespace L2
open PySem PySem.Spec PyProof.Rows
open PySem.W (Frag InstAt Looks findIn mroIn clsIn findObj takerIn specialIn takesIn hasDictIn isFn)
structure XCls(K:Frag)(C:Addr):Prop where
 x:xIn K C=true
 sa:findIn K (.ref C) "__setattr__"=some (some (.builtin "object.__setattr__"))
 ga:findIn K (.ref C) "__getattribute__"=some (some (.builtin "BaseException.__getattribute__"))
 gh:findIn K (.ref C) "__getattr__"=some none
 cl:findIn K (.ref C) "__class__"=some (some (.builtin "object.__class__"))
 kp:W.keepIn K (.ref C)=true
noncomputable def xCls(K:Frag)(C:Addr):Bool:=xIn K C&&findIn K (.ref C) "__setattr__" == some (some (.builtin "object.__setattr__"))&&findIn K (.ref C) "__getattribute__" == some (some (.builtin "BaseException.__getattribute__"))&&findIn K (.ref C) "__getattr__" == some none&&findIn K (.ref C) "__class__" == some (some (.builtin "object.__class__"))&&W.keepIn K (.ref C)
theorem jx2{K:Frag}{C:Addr}(h:xCls K C=true):XCls K C:=by
 unfold xCls at h;simp only[Bool.and_eq_true,beq_iff_eq] at h;obtain⟨⟨⟨⟨⟨h1,h2⟩,h3⟩,h4⟩,h5⟩,h6⟩:=h;exact⟨h1,h2,h3,h4,h5,h6⟩
section
variable {X:Cx}{pins:List (Addr×Obj)}{σ:St}{H:Hp}{s:Shared}{h':Heap}{A:Around}{E:Value->Shared->Prop}{a C dx:Addr}{fs:List (Str×V)}{f:Str}
theorem jl8{P:Program}{w:World}{φ:Heap->Prop}{h:Heap}(e:φ h)(o:∃ ob,h.get? a=some ob)(k:∀ h1 h2:Heap,φ h1->(∀ ob,h1.get? a=some ob->h2.get? a=some ob)->φ h2):ObjOk P w H h a (.ext φ):=⟨e,o,k⟩
theorem jl0{P:Program}{w:World}{h:Heap}{od:Option Addr}{fr:Bool}{vs:Array Value}{sl:Array (Option Value)}(e:h.get? a=some (xOb C od vs sl))(ef:fr=true->vs[1]? = some .none):ObjOk P w H h a (XO a C od fr):=jl8 ⟨vs,sl,e,ef⟩ ⟨_,e⟩ fun _ _ ⟨vs,sl,e,ef⟩ k=>⟨vs,sl,k _ e,ef⟩
theorem ju6{P:Program}{w:World}{h:Heap}(e:XDv a fs h):ObjOk P w H h a (XDc a fs):=by
 refine jl8 e ?_ ?_
 ·obtain⟨mA,⟨o,_,_,q,_⟩,_⟩:=e;exact⟨o,q⟩
 ·rintro h1 h2 ⟨mA,n,r,w',l⟩ k;exact⟨mA,n.at k,r,w',l⟩
theorem jm2{od:Option Addr}{fr:Bool}(I:Inv X pins σ H s)(e:H a=some (XO a C od fr)):∃ vs sl,s.heap.get? a=some (xOb C od vs sl)/\(fr=true->vs[1]? = some .none):=(show ObjOk X.prog X.w H s.heap a (XO a C od fr) from I.hok a _ e).1
theorem jx3(I:Inv X pins σ H s)(e:H dx=some (XDc dx fs)):XDv dx fs s.heap:=(show ObjOk X.prog X.w H s.heap dx (XDc dx fs) from I.hok dx _ e).1
theorem Inv.laidX{o:HO}{t':Nat}(I:Inv X pins σ H s)(k:∀ b u,s.heap.get? b=some u->h'.get? b=some u)(hD:s.heap.get? a=none)(new:ObjOk X.prog X.w (upd H a o) h' a o):Inv X pins σ (upd H a o) { s with heap:=h',toks:=t' }:=by
 have hn:H a=none:=by
  cases e:H a with
  | none=>rfl
  | some u=>obtain⟨o,q⟩:=(I.hok a u e).here;rw[hD] at q;cases q
 have nD:∀ b o,s.heap.get? b=some o->b≠a:=fun b o e z=>by rw[z,hD] at e;cases e
 have nD':∀ b u,H b=some u->b≠a:=fun b u e z=>by rw[z,hn] at e;cases e
 refine I.un ⟨fun b u q _ _ _=>k b u q,fun b u q _ _ _=>⟨u.slots,k b u q⟩,fun b u q n _=>by rw[jah (nD b u q)];exact n,fun b u q _=>⟨u,k b u q⟩,fun b xs q=>by rw[jah (nD' b _ q)];exact q,fun b u xs q=>by rw[jah (nD' b _ q)];exact q,fun b ps q=>⟨#[],by rw[jah (nD' b _ q),q];simp⟩⟩ fun b u e=>?_
 by_cases z:b=a
 ·subst z;rw[jao] at e;cases e;exact new
 ·rw[jah z] at e;exact (I.hok b u e).stay (fun c v _ q=>k c v q) (fun c q=>by rw[jah (nD' c _ q)];exact q) fun c xs q=>by rw[jah (nD' c _ q)];exact q
theorem jhx{h:Heap}{b:Addr}(I:Inv X pins σ H s)(hD:s.heap.get? b=none):H b=none:=by
 cases e:H b with
 | none=>rfl
 | some u=>obtain⟨o,q⟩:=(I.hok b u e).here;rw[hD] at q;cases q
theorem jt5{y:V}{u:Value}{fr:Bool}{Q:Unit->Shared->Prop}(I:Inv X pins σ H s)(e:H a=some (XO a C none fr))(c:XCls X.K C)(ht:takerIn X.K C f=some none)(ry:RelV y u)
  (h:∀ d s',H d=none->Inv X pins σ (upd (upd H d (XDc d [(f,y)])) a (XO a C (some d) fr)) s'->Q () s'):wpAny (model X.prog X.w) A (setAttr (.ref a) f u) Q E s:=by
 obtain⟨vs,sl,h0,hf0⟩:=jm2 I e;refine jBa I.kIn h0 c.x c.sa ht fun h' e1 n1 k1=>?_
 have hD:s.heap.get? s.heap.objs.size=none:=Heap.get?_none_of_le (zac _);have hn:=jhx (h:=s.heap) I hD;have ne:a≠s.heap.objs.size:=fun z=>by rw[z,hD] at h0;cases h0
 have nd:XDv s.heap.objs.size [(f,y)] h':=by
  refine⟨_,n1,fun g=>?_,fun g hg=>?_,Nat.le_of_ble_eq_true rfl⟩
  ·show RelO (List.lookup g [(f,y)]) (if g=f then some u else none)
   by_cases q:g=f
   ·subst q;rw[if_pos rfl,List.lookup_cons,beq_self_eq_true];exact ry
   ·rw[if_neg q,List.lookup_cons,show (g == f)=false by simpa using q];exact True.intro
  ·by_cases q:g=f
   ·subst q;exact List.mem_singleton.mpr rfl
   ·exact absurd (if_neg q) hg
 refine h s.heap.objs.size _ hn ?_;have nD:∀ b o,s.heap.get? b=some o->b≠s.heap.objs.size:=fun b o q z=>by rw[z,hD] at q;cases q
 have nD':∀ b u,H b=some u->b≠s.heap.objs.size:=fun b u q z=>by rw[z,hn] at q;cases q
 have na:∀ b,H b=none->b≠a:=fun b q z=>by rw[z,e] at q;cases q
 have nx:∀ b u,H b=some u->(∀ φ,u≠.ext φ)->b≠a:=fun b u q hu z=>by rw[z,e] at q;cases q;exact hu _ rfl
 refine I.un ⟨fun b u q n _ _=>k1 b u (na b n) q,fun b u q n _ _=>⟨u.slots,k1 b u (na b n) q⟩,fun b u q n _=>by rw[jah (na b n),jah (nD b u q)];exact n,fun b u q _=>?_,fun b xs q=>by rw[jah (nx b _ q fun _ z=>nomatch z),jah (nD' b _ q)];exact q,
  fun b u xs q=>by rw[jah (nx b _ q fun _ z=>nomatch z),jah (nD' b _ q)];exact q,fun b ps q=>⟨#[],by rw[jah (nx b _ q fun _ z=>nomatch z),jah (nD' b _ q),q];simp⟩⟩ fun b w eb=>?_
 ·by_cases z:b=a
  ·rw[z];exact⟨_,e1⟩
  ·exact⟨u,k1 b u z q⟩
 ·by_cases z:b=a
  ·subst z;rw[jao] at eb;cases eb;exact jl0 e1 hf0
  ·rw[jah z] at eb
   by_cases z2:b=s.heap.objs.size
   ·subst z2;rw[jao] at eb;cases eb;exact ju6 nd
   ·rw[jah z2] at eb;refine (I.hok b w eb).stay (fun c v hc q=>k1 c v ?_ q) (fun c q=>by rw[jah (nx c _ q fun _ z=>nomatch z),jah (nD' c _ q)];exact q) fun c xs q=>by rw[jah (nx c _ q fun _ z=>nomatch z),jah (nD' c _ q)];exact q
    rcases hc with r|r
    ·rw[r];exact z
    ·exact nx c _ r fun _ z=>nomatch z
theorem jt6{y:V}{u:Value}{fr:Bool}{Q:Unit->Shared->Prop}(I:Inv X pins σ H s)(e:H a=some (XO a C (some dx) fr))(ed:H dx=some (XDc dx fs))(c:XCls X.K C)(ht:takerIn X.K C f=some none)(hl:fs.length<1000)(ry:RelV y u)
  (h:∀ s',Inv X pins σ (upd H dx (XDc dx (putF f y fs))) s'->Q () s'):wpAny (model X.prog X.w) A (setAttr (.ref a) f u) Q E s:=by
 obtain⟨vs,sl,h0,hf0⟩:=jm2 I e;obtain⟨mA,n,r,wi,_⟩:=jx3 I ed;refine jBb I.kIn h0 n c.x c.sa ht wi (by rw[zav,sizeLine_eq];omega) fun h' n' sb=>h _ ?_
 have hd:∃ o,h'.get? dx=some o:=let ⟨o,_,_,e',_⟩:=n';⟨o,e'⟩
 refine I.write (x:=dx) (e:=dx) (by rw[ed];exact True.intro) (.inl rfl) (fun b q hb z=>(sb.2 b hb).trans z) hd (ju6 ⟨_,n',fun g=>?_,fun g hg=>?_,?_⟩)
 ·show RelO ((putF f y fs).lookup g) (if g=f then some u else mA g);rw[jij]
  by_cases q:g=f
  ·rw[if_pos q,if_pos q];exact ry
  ·rw[if_neg q,if_neg q];exact r g
 ·by_cases q:g=f
  ·rw[q];exact (jig f y fs).1
  ·exact (jig f y fs).2 g (wi g fun z=>hg ((if_neg q).trans z))
 ·have:=jih f y fs;omega
theorem jqj{h h':Heap}{us:List Value}(m:Heap.MadeExcOf h h' a (.ref C) us):∃ vs sl,h'.get? a=some (xOb C none vs sl)/\vs[1]? = some .none:=by
 obtain⟨_,_,t,e,_⟩:=m;exact⟨_,_,e,rfl⟩
end
structure XMk(K:Frag)(C f:Addr):Prop where
 c:XCls K C
 init:findIn K (.ref C) "__init__"=some (some (.ref f))
 fn:isFn K (.ref f)=true
section
variable {X:Cx}{CX:CXT}{k:Nat}{f C:Addr}{fd:FuncData}{ps:List Str}{sp:Sp}{E:XK}{x m:Str}{p pos:Pos}{e o value:Expr}{es:List Expr}{ta tv:TE}{t:TA}
theorem jrk{pins:List (Addr×Obj)}{σ:St}{H:Hp}{s:Shared}{Q:VK}{us:List Value}{vs:List V}(M:XMk X.K C f)(F:FnOk X.prog X.w X.K X.mg X.base CX k f fd ps sp)(hr:Room (k+1) X.A)(hb:Binds X.K fd ps [])
  (hx:jm4 CX X E) (I:Inv X pins σ H s) (r:Vals vs us) (hz:vs.length<=1000)
  (h:∀ a,H a=none->sp (.ref a::vs) (upd H a (XO a C none true)) (fun v H2=>v=.non/\Q (.ref a) H2) E) :
  wpAny (model X.prog X.w) X.A (call (.ref C) us) (EP X pins σ Q) X.xe s:=by
 refine jA8 I.kIn M.c.x M.init M.fn (fun h' a m=>?_) (by rw[<- r.length,sizeLine_eq];omega);have hn:=jhx (h:=s.heap) I m.new;have hq:=h a hn;obtain⟨w1,w2,w3,w4⟩:=jqj m;have I2:Inv X pins σ (upd H a (XO a C none true)) { s with heap:=h' }:=I.laidX (t':=s.toks) m.keeps m.new (jl0 w3 fun _=>w4);have r2:Vals (V.ref a::vs) (Value.ref a::us):=.cons rfl r;have hl:(Value.ref a::us++[]).length=ps.length:=by
  rw[List.append_nil];have e:=r2.length;rw[F.len _ _ _ _ hq] at e;exact e.symm
 refine wpAny_call (codeAny_mono (F.run _ X.stack _ _ ⟨Value.ref a::us,[]⟩ (Value.ref a::us++[]) _ _ E (hr.make C us []) (I2.env0.make C us []) (hb _ (Value.ref a::us) I2.kIn hl) (by rw[List.append_nil];exact r2) hq) fun r s' hq'=>?_)
 cases r with
 | error e=>exact hx pins σ _ _ e s' I2 hq'
 | ok fl =>
  cases fl with
  | ret u =>
   obtain⟨v,H',I3,rv,ev,q3⟩:=I2.after hq';subst ev;exact⟨rv,⟨V.ref a,H',I3,rfl,q3⟩⟩
  | next=>exact False.elim hq'
  | brk=>exact False.elim hq'
  | cont=>exact False.elim hq'
noncomputable def jAy(C:Addr)(sp:Sp)(E:XK)(t:TA):TE:=fun σ H Q=>t σ H fun vs H1=>vs.length<=1000/\∀ a,H1 a=none->sp (.ref a::vs) (upd H1 a (XO a C none true)) (fun v H2=>v=.non/\Q (.ref a) H2) E
theorem jtm(M:XMk X.K C f)(F:FnOk X.prog X.w X.K X.mg X.base CX k f fd ps sp)(hr:Room (k+1) X.A)(hg:Gl X x)(hm:X.mg x=some (.ref C))(hb:Binds X.K fd ps [])(hx:jm4 CX X E)
  (ha:PA X (e::es) t) (hdb:autoParam ((x == ("__debug__":Str))=false) zau1._auto_1) (he:autoParam (starEach (e::es) X.env=(false,eval e X.env)::starEach es X.env) zau2._auto_1) (hpl:autoParam ((backTo pos (starEach es X.env)).any (·.1)=false) zau2._auto_1) :
  PE X (.Call (.Name x p) (e::es) [] pos) (jAy C sp E t):=by
 intro pins s σ H Q I h;refine wpAny_Call_Name_kw (jg6 I hg hm ?_ hdb);exact W.callWith_K (h₀:=X.base) I.ok.mod.kin M.c.kp (thn (ha pos pins s σ H _ I h) fun us s1 ⟨vs,H1,I1,r,hz,q⟩=>⟨I1.kIn,jrk M F hr hb hx I1 r hz q⟩) he hpl
theorem jw6(c:XCls X.K C)(hi:xNoI X.K C=true)(hg:Gl X x)(hm:X.mg x=some (.ref C))(hdb:autoParam ((x == ("__debug__":Str))=false) zau1._auto_1) :
  PE X (.Call (.Name x p) [] [] pos) (fun σ H Q=>∀ a,H a=none->Q (.ref a) (upd H a (XO a C none true))):=by
 intro pins s σ H Q I h;refine wpAny_Call_Name_kw (jg6 I hg hm (W.callWith_K0 I.kIn c.kp (jxz I.kIn c.x hi (fun h' a m=>?_) (Nat.zero_le _))) hdb);obtain⟨w1,w2,w3,w4⟩:=jqj m;exact⟨.ref a,_,I.laidX (t':=s.toks) m.keeps m.new (jl0 w3 fun _=>w4),rfl,h a (jhx (h:=s.heap) I m.new)⟩
inductive tXFld(K:Frag)(ta:TE)(g:Str)(σ:St)(H:Hp)(Q:VK):Prop
 | mk (h:ta σ H fun x H1=>∃ a C dx fr fs v,x=.ref a/\H1 a=some (XO a C (some dx) fr)/\H1 dx=some (XDc dx fs)/\XCls K C/\findIn K (.ref C) g=some none/\fs.lookup g=some v/\Q v H1)
inductive XPut(K:Frag)(H:Hp)(a:Addr)(g:Str)(y:V)(Q:Hp->Prop):Prop
 | first (C:Addr) (fr:Bool) (ea:H a=some (XO a C none fr)) (c:XCls K C) (ht:takerIn K C g=some none) (q:∀ d,H d=none->Q (upd (upd H d (XDc d [(g,y)])) a (XO a C (some d) fr)))
 | more (C dx:Addr) (fr:Bool) (fs:List (Str×V)) (ea:H a=some (XO a C (some dx) fr)) (ed:H dx=some (XDc dx fs)) (c:XCls K C) (ht:takerIn K C g=some none) (l:fs.length<1000) (q:Q (upd H dx (XDc dx (putF g y fs))))
theorem jxe{g:Str}{pos':Pos}(ha:PE X o ta)(hv:PE X value tv)(hs:swapsWith value (some (.Attribute o g pos')) pos.line X.env=pure false) :
  PS X (.Assign [.Attribute o g pos'] value pos) (fun D σ H=>tv σ H fun y H1=>ta σ H1 fun x H2=>∃ a,x=.ref a/\XPut X.K H2 a g y (D.nx σ)):=by
 intro pins s σ H D I h;refine plainObj_wpAny_Assign_Attribute (thn (hv pins s σ H _ I h) fun u s1 ⟨y,H1,I1,ry,q⟩=>thn (ha pins s1 σ H1 _ I1 q) fun ov s2 hzz=>?_) hs;obtain⟨x,H2,I2,rx,a,ex,q2⟩:=hzz;subst ex;cases rx
 cases q2 with
 | first C fr ea c ht q=>exact jt5 I2 ea c ht ry fun d s3 hd I3=>⟨σ,_,I3,q d hd⟩
 | more C dx fr fs ea ed c ht l q=>exact jt6 I2 ea ed c ht l ry fun s3 I3=>⟨σ,_,I3,q⟩
theorem jph(hn:specialIn X.K (.builtin "object.__class__") "__get__"=some (some (.builtin "getset_descriptor.__get__")))(htk:takesIn X.K (.builtin "object.__class__")=some true) :
  CallR X (.builtin "isinstance") (fun xs H Q=>∃ a C od fr v c b,xs=[.ref a,v]/\H a=some (XO a C od fr)/\XCls X.K C/\(∀ dx,od=some dx->∃ fs,H dx=some (XDc dx fs))/\(∀ u,RelV v u->u=c)/\W.kitOne X.K (.ref C) c=some b/\Q (.bl b) H):=by
 intro pins s σ H xs us Q I r h;obtain⟨a,C,od,fr,v,c,b,rfl,ea,cl,hd,hv,hk,q⟩:=h;obtain⟨u,c',rfl,ru,rc⟩:=r.two;cases ru;rw[hv c' rc];obtain⟨vs,sl,h0,hf0⟩:=jm2 I ea;have J:∃ ox od',InstAt s.heap a ox C od':=by
  cases od with
  | none=>exact⟨_,_,jm0 h0⟩
  | some dx =>
   obtain⟨fs,ed⟩:=hd dx rfl;obtain⟨mA,⟨o,_,_,e,_⟩,_⟩:=jx3 I ed;exact⟨_,_,jm1 h0 e⟩
 exact W.kia_one (juj cl.x cl.ga cl.gh cl.cl hn htk) I.kIn J hk (fun z=>nomatch z) fun tk=>⟨.bl b,H,I.tok _,rfl,q⟩
end
end L2
namespace DL
open PySem PySem.Spec L2
structure ErrT(K:W.Frag)(mg:Str->Option Value)(cs fs:List Str)(b:Str):Prop where
 ats:∀ c∈cs,∃ C,mg c=some (.ref C)
 atb:∃ C,mg b=some (.ref C)
 cls:∀ c∈cs,∀ C,mg c=some (.ref C)->XCls K C
 fld:∀ c∈cs,∀ C,mg c=some (.ref C)->∀ f∈fs,W.findIn K (.ref C) f=some none
 pair:∀ c∈cs,∀ d∈cs,∀ C,mg c=some (.ref C)->∃ D,mg d=some (.ref D)/\W.kitOne K (.ref C) (.ref D)=some (c == d)
 base:∀ c∈cs,∀ C,mg c=some (.ref C)->∃ D,mg b=some (.ref D)/\W.kitOne K (.ref C) (.ref D)=some true
 val:∀ c∈cs,∀ C,mg c=some (.ref C)->W.kitOne K (.ref C) (.type "ValueError")=some true
 sp:W.specialIn K (.builtin "object.__class__") "__get__"=some (some (.builtin "getset_descriptor.__get__"))
 tk:W.takesIn K (.builtin "object.__class__")=some true
noncomputable def xOne(K:W.Frag)(es:List (Str×Addr))(B:Addr)(fs:List Str)(p:Str×Addr):Bool :=
 xCls K p.2&&fs.all (fun f=>W.findIn K (.ref p.2) f == some none)&&W.kitOne K (.ref p.2) (.ref B) == some true&&W.kitOne K (.ref p.2) (.type "ValueError") == some true&&es.all fun q=>W.kitOne K (.ref p.2) (.ref q.2) == some (p.1 == q.1)
noncomputable def xTab(K:W.Frag)(es:List (Str×Addr))(B:Addr)(fs:List Str):Bool :=
 es.all (xOne K es B fs)&&W.specialIn K (.builtin "object.__class__") "__get__" == some (some (.builtin "getset_descriptor.__get__"))&&W.takesIn K (.builtin "object.__class__") == some true
theorem jvz{K:W.Frag}{mg:Str->Option Value}{es:List (Str×Addr)}{B:Addr}{fs:List Str}{b:Str}(hm:∀ p∈es,mg p.1=some (.ref p.2))(hb:mg b=some (.ref B))(h:xTab K es B fs=true):ErrT K mg (es.map (·.1)) fs b:=by
 unfold xTab at h;rw[Bool.and_eq_true,Bool.and_eq_true,List.all_eq_true,beq_iff_eq,beq_iff_eq] at h;obtain⟨⟨h1,h2⟩,h3⟩:=h;have one:∀ c∈es.map (·.1),∀ C,mg c=some (.ref C)->xOne K es B fs (c,C)=true:=fun c hc C hC=>by
  obtain⟨p,hp,rfl⟩:=List.mem_map.mp hc;rw[hm p hp] at hC;cases hC;exact h1 p hp
 have all:∀ c∈es.map (·.1),∀ C,mg c=some (.ref C)->(((xCls K C=true/\fs.all (fun f=>W.findIn K (.ref C) f == some none)=true)/\W.kitOne K (.ref C) (.ref B)=some true)/\W.kitOne K (.ref C) (.type "ValueError")=some true)/\(es.all fun q=>W.kitOne K (.ref C) (.ref q.2) == some (c == q.1))=true:=fun c hc C hC=>by
  have:=one c hc C hC;unfold xOne at this;rw[Bool.and_eq_true,Bool.and_eq_true,Bool.and_eq_true,Bool.and_eq_true,beq_iff_eq,beq_iff_eq] at this;exact this
 refine⟨fun c hc=>by obtain⟨p,hp,rfl⟩:=List.mem_map.mp hc;exact⟨_,hm p hp⟩,⟨B,hb⟩,fun c hc C hC=>jx2 (all c hc C hC).1.1.1.1,fun c hc C hC f hf=>?_,fun c hc d hd C hC=>?_,fun c hc C hC=>⟨B,hb,(all c hc C hC).1.1.2⟩,fun c hc C hC=>(all c hc C hC).1.2,h2,h3⟩
 ·exact beq_iff_eq.mp (List.all_eq_true.mp (all c hc C hC).1.1.1.2 f hf)
 ·obtain⟨q,hq,rfl⟩:=List.mem_map.mp hd;exact⟨q.2,hm q hq,beq_iff_eq.mp (List.all_eq_true.mp (all c hc C hC).2 q hq)⟩
noncomputable def jqk(c:Str)(m:List D->MS D)(ds:List D):MS D:=fun Ω=>((m (.obj Ω.length::ds)).b fun d=>match d with
 | .non=>MS.p (.obj Ω.length)
 | _=>fun _=>none) (Ω++[.exc c (none,true)])
noncomputable def juk(c:Str)(m:List D->MS D)(fl:DSt->MS (List D)):DSt->MS D:=fun δ=>(fl δ).b fun ds=>jqk c m ds
noncomputable def jzm(c:Str):DSt->MS D:=fun _ Ω=>some (.ok (.obj Ω.length),Ω++[.exc c (none,true)])
inductive IniY(P:Program)(w:World)(K:W.Frag)(mg:Str->Option Value)(base:Heap)(k:Nat)(c:Str)(n:Nat)(sp:Sp):Prop
 | mk (C f:Addr) (fd:FuncData) (ps:List Str) (h1:ps.length=n) (h2:mg c=some (.ref C)) (h3:XMk K C f) (h4:Binds K fd ps []) (h5:FnOk P w K mg base CX0 k f fd ps sp)
structure IniXE(P:Program)(w:World)(K:W.Frag)(mg:Str->Option Value)(base:Heap)(k:Nat)(c:Str)(n:Nat)(m:List D->MS D):Prop where
 ex:IniY P w K mg base k c n (spE K mg n m)
 ar:∀ ds Ω r,m ds Ω=some r->ds.length=n
 sm:n<=1000
structure IniXAt(K:W.Frag)(mg:Str->Option Value)(c q:Str)(st:Stmt)(ps:List Str):Prop where
 ex:∃ C f fd,mg c=some (.ref C)/\XMk K C f/\Fun K "__init__" q st f fd/\Binds K fd ps []
section
variable {P:Program}{w:World}{K:W.Frag}{mg:Str->Option Value}{base:Heap}
theorem jsr{c q:Str}{st:Stmt}{N ps:List Str}{k:Nat}{O':List Nat}{g:DSt->MS Out}(hf:IniXAt K mg c q st ps)(S:FnScope N ps (jae st))
  (hbody:∀ (f:Addr) (cdv:Value) (A:Around) (outer:List Env) (s:Shared) (H:Hp) (E:XK),Room k (A.deeper (PyProof.Rows.envOfC q (jae st) s.heap.objs.size f cdv)) ->
   MSs (cxOf CX0 P w K mg base N q (jae st) f cdv A outer s H E).nox [] O' [] (jak st) g) (hs:ps.length<=1000):IniXE P w K mg base (k+1) c ps.length (mirE ps.length N.length g):=by
 obtain⟨C,f,fd,hm,hM,F,hb⟩:=hf.ex;exact⟨⟨C,f,fd,ps,rfl,hm,hM,hb,fn_E F S hbody⟩,jmg,hs⟩
end
section
variable {X:Cx}{O:List Nat}{e:Expr}{es:List Expr}{fl:DSt->MS (List D)}{pos p:Pos}{x c f:Str}{k n:Nat}
variable {ρz ρ:Rho}{Sz S F:Addr->Bool}{Hz H:Hp}{σ:St}{δ:DSt}{Ω Ω':Sto}{d:Str}
theorem RM.newX{Ca x:Addr}(R:RM ρz Sz Hz F X.K X.mg O ρ S H σ δ Ω)(hm:X.mg c=some (.ref Ca))(hx:H x=none):RM ρz Sz Hz F X.K X.mg O (addR ρ Ω.length x) (addS S x x) (upd H x (XO x Ca none true)) σ δ (Ω++[.exc c (none,true)])/\RLe ρ (addR ρ Ω.length x) /\
   Same (hid H (fob (un F S) σ O)) (hid (upd H x (XO x Ca none true)) (fob (un F (addS S x x)) σ O)) :=
 R.newS (nso:=.exc c (none,true)) hx fun ρ' S' Hv' l v=>ExcOk.no true Ca hm jao
theorem js7{m:List D->MS D}{Ca:Addr}{vs:List V}{ds:List D}{r:Except XD D}{Q:VK}(hm:X.mg c=some (.ref Ca))(ar:∀ ds Ω r,m ds Ω=some r->ds.length=n)(R:RM ρz Sz Hz F X.K X.mg O ρ S H σ δ Ω)(hr:Reps ρ X.K (hid H (fob (un F S) σ O)) ds vs)(hf:jqk c m ds Ω=some (r,Ω'))
  (k:match (generalizing:=false) r with
   | .ok d=>∀ v ρ' S' H',RM ρz Sz Hz F X.K X.mg O ρ' S' H' σ δ Ω'->RLe ρ ρ'->Same (hid H (fob (un F S) σ O)) (hid H' (fob (un F S') σ O))->Rep ρ' X.K (hid H' (fob (un F S') σ O)) d v->Q v H'
   | .error _=>True):∀ x,H x=none->spE X.K X.mg n m (.ref x::vs) (upd H x (XO x Ca none true)) (fun v H2=>v=.non/\Q (.ref x) H2) E0:=by
 intro x hx;obtain⟨t1,t2,t3⟩:=R.newX hm hx;have hob:Rep (addR ρ Ω.length x) X.K (hid (upd H x (XO x Ca none true)) (fob (un F (addS S x x)) σ O)) (.obj Ω.length) (.ref x):=rep_obj.mpr ⟨x,by unfold addR;rw[if_pos rfl],rfl⟩;unfold jqk at hf;rcases MS.b_inv hf with ⟨d,Ω1,e1,hf⟩|⟨y,e1,rfl⟩
 ·refine jrr t1 (ar _ _ _ e1) (Reps.cons hob ((hr.rho t2).mono t3)) e1 ?_;intro v ρ2 S2 H2 R2 l2 v2 r2
  cases d with
  | non =>
   cases hf;exact⟨rep_non.mp r2,k (.ref x) ρ2 S2 H2 R2 (t2.trans l2) (t3.trans v2) ((hob.rho l2).mono v2)⟩
  | _=>cases hf
 ·exact jrr t1 (ar _ _ _ e1) (Reps.cons hob ((hr.rho t2).mono t3)) e1 trivial
theorem jql{m:List D->MS D}{ds:List D}{r:Except XD D}(ar:∀ ds Ω r,m ds Ω=some r->ds.length=n)(hf:jqk c m ds Ω=some (r,Ω')):ds.length+1=n:=by
 unfold jqk at hf;rcases MS.b_inv hf with ⟨d,Ω1,e1,hf⟩|⟨y,e1,rfl⟩
 ·exact ar _ _ _ e1
 ·exact ar _ _ _ e1
theorem jtb{m:List D->MS D}(C:IniXE X.prog X.w X.K X.mg X.base k c n m)(hr:Room (k+1) X.A)(ha:MA X O (e::es) fl)(hg:autoParam (Gl X c) zau2._auto_1)(hdb:autoParam ((c == ("__debug__":Str))=false) zau1._auto_1)(he:autoParam (starEach (e::es) X.env=(false,eval e X.env)::starEach es X.env) zau2._auto_1)
  (hpl:autoParam ((backTo pos (starEach es X.env)).any (·.1)=false) zau2._auto_1):ME X O (.Call (.Name c p) (e::es) [] pos) (juk c m fl):=by
 obtain⟨Ca,f,fd,ps,hl,hm,hM,hb,G⟩:=C.ex;rintro pins s σ H Q I ⟨ρz,Sz,Hz,F,ρ,S,δ,Ω,R,r,Ω',hf,k⟩;refine jtm hM G hr hg hm hb (fun _ _ _ _ _ _ _ z=>z.elim) ha hdb he hpl pins s σ H Q I (E:=E0) ?_;rcases MS.b_inv hf with ⟨ds,Ω1,e1,hf⟩|⟨y,e1,rfl⟩
 ·refine⟨ρz,Sz,Hz,F,ρ,S,δ,Ω,R,.ok ds,Ω1,e1,fun vs ρ1 S1 H1 R1 l1 v1 r1=>?_⟩;refine⟨?_,js7 hm C.ar R1 r1 hf ?_⟩
  ·have h1:=jql C.ar hf;have h2:=C.sm;rw[r1.length];omega
  ·cases r with
   | error y=>trivial
   | ok d=>exact fun v ρ2 S2 H2 R2 l2 v2 r2=>k v ρ2 S2 H2 R2 (l1.trans l2) (v1.trans v2) r2
 ·exact⟨ρz,Sz,Hz,F,ρ,S,δ,Ω,R,.error y,_,e1,trivial⟩
inductive NewAt(K:W.Frag)(mg:Str->Option Value)(c:Str):Prop
 | mk (C:Addr) (h1:mg c=some (.ref C)) (h2:XCls K C) (h3:xNoI K C=true)
theorem jwi(C:NewAt X.K X.mg c)(hg:autoParam (Gl X c) zau2._auto_1)(hdb:autoParam ((c == ("__debug__":Str))=false) zau1._auto_1):ME X O (.Call (.Name c p) [] [] pos) (jzm c):=by
 obtain⟨Ca,hm,hc,hi⟩:=C;rintro pins s σ H Q I ⟨ρz,Sz,Hz,F,ρ,S,δ,Ω,R,r,Ω',hf,k⟩;refine jw6 hc hi hg hm hdb pins s σ H Q I fun x hx=>?_
 cases hf;obtain⟨t1,t2,t3⟩:=R.newX hm hx;exact k _ _ _ _ t1 t2 t3 (rep_obj.mpr ⟨x,by unfold addR;rw[if_pos rfl],rfl⟩)
end
end DL
namespace DL
open PySem PySem.Spec PyProof.Rows L2
noncomputable def putX(cs:List Str)(f:Str)(x d:D):MS Unit:=fun Ω=>match x with
 | .obj i=>match Ω[i]? with
  | some (.exc c (none,fr))=>if cs.contains c then some (.ok (),(Ω++[SO.xd [(f,d)]]).set i (.exc c (some Ω.length,fr))) else none
  | some (.exc c (some j,_))=>match Ω[j]? with
   | some (.xd fs)=>if cs.contains c&&decide (fs.length<1000) then some (.ok (),Ω.set j (.xd (putD f d fs))) else none
   | _=>none
  | _=>none
 | _=>none
noncomputable def jym(cs:List Str)(f:Str)(fo fv:DSt->MS D):DSt->MS Out:=fun δ=>(fv δ).b fun d=>(fo δ).b fun x=>(putX cs f x d).b fun _=>MS.p (.nx δ)
noncomputable def isX(cs:List Str)(g:Str->Bool):D->MS D:=fun x Ω=>match x with
 | .obj i=>match Ω[i]? with
  | some (.exc c (none,_))=>if cs.contains c then some (.ok (.bl (g c)),Ω) else none
  | some (.exc c (some j,_))=>match Ω[j]? with
   | some (.xd fs)=>if cs.contains c then some (.ok (.bl (g c)),Ω) else none
   | _=>none
  | _=>none
 | _=>none
noncomputable def mIsX(cs:List Str)(g:Str->Bool)(fa:DSt->MS D):DSt->MS D:=fun δ=>(fa δ).b fun x=>isX cs g x
section
variable {Ω Ω':Sto}{cs:List Str}{f:Str}{x d:D}
inductive GetXI(cs:List Str)(f:Str)(x:D)(Ω Ω':Sto)(r:Except XD D):Prop
 | mk (i j:Nat) (c:Str) (fr:Bool) (fs:List (Str×D)) (d:D) (h1:x=.obj i) (h2:Ω[i]? = some (.exc c (some j,fr))) (h3:Ω[j]? = some (.xd fs)) (h4:c∈cs) (h5:fs.lookup f=some d) (h6:r=.ok d) (h7:Ω'=Ω)
inductive PutXI(cs:List Str)(f:Str)(x d:D)(Ω Ω':Sto)(r:Except XD Unit):Prop
 | first (i:Nat) (c:Str) (fr:Bool) (h1:x=.obj i) (h2:Ω[i]? = some (.exc c (none,fr))) (h4:c∈cs) (h6:r=.ok ()) (h7:Ω'=(Ω++[SO.xd [(f,d)]]).set i (.exc c (some Ω.length,fr)))
 | more (i j:Nat) (c:Str) (fr:Bool) (fs:List (Str×D)) (h1:x=.obj i) (h2:Ω[i]? = some (.exc c (some j,fr))) (h3:Ω[j]? = some (.xd fs)) (h4:c∈cs) (h5:fs.length<1000) (h6:r=.ok ()) (h7:Ω'=Ω.set j (.xd (putD f d fs)))
theorem jnx{r:Except XD Unit}(h:putX cs f x d Ω=some (r,Ω')):PutXI cs f x d Ω Ω' r:=by
 unfold putX at h
 split at h
 ·rename_i i
  split at h
  ·rename_i c fr hi
   split at h
   ·rename_i hc;cases h;exact .first i c fr rfl hi (zbc.mp hc) rfl rfl
   ·cases h
  ·rename_i c j fr hi
   split at h
   ·rename_i fs hj
    split at h
    ·rename_i hc;rw[Bool.and_eq_true,decide_eq_true_eq] at hc;cases h;exact .more i j c fr fs rfl hi hj (zbc.mp hc.1) hc.2 rfl rfl
    ·cases h
   ·cases h
  ·cases h
 ·cases h
inductive IsXI(cs:List Str)(g:Str->Bool)(x:D)(Ω Ω':Sto)(r:Except XD D):Prop
 | mk (i:Nat) (c:Str) (oj:Option Nat) (fr:Bool) (h1:x=.obj i) (h2:Ω[i]? = some (.exc c (oj,fr))) (h3:∀ j,oj=some j->∃ fs,Ω[j]? = some (.xd fs)) (h4:c∈cs) (h6:r=.ok (.bl (g c))) (h7:Ω'=Ω)
theorem jp8{g:Str->Bool}{r:Except XD D}(h:isX cs g x Ω=some (r,Ω')):IsXI cs g x Ω Ω' r:=by
 unfold isX at h
 split at h
 ·rename_i i
  split at h
  ·rename_i c fr hi
   split at h
   ·rename_i hc;cases h;exact⟨i,c,none,fr,rfl,hi,(fun j z=>nomatch z),zbc.mp hc,rfl,rfl⟩
   ·cases h
  ·rename_i c j fr hi
   split at h
   ·rename_i fs hj
    split at h
    ·rename_i hc;cases h;exact⟨i,c,some j,fr,rfl,hi,fun j' z=>by cases z;exact⟨fs,hj⟩,zbc.mp hc,rfl,rfl⟩
    ·cases h
   ·cases h
  ·cases h
 ·cases h
end
theorem jn3{K:W.Frag}{C:Addr}{f:Str}(h:W.findIn K (.ref C) f=some none):W.takerIn K C f=some none:=by
 unfold W.takerIn;rw[h];rfl
theorem ju8{a C:Addr}{od:Option Addr}{fr:Bool}:∀ y,HO.own y≠XO a C od fr:=fun y z=>by unfold XO at z;cases z
theorem jBc{a:Addr}{fs:List (Str×V)}:∀ y,HO.own y≠XDc a fs:=fun y z=>by unfold XDc at z;cases z
section
variable {X:Cx}{O B:List Nat}{o e:Expr}{fa fo fv:DSt->MS D}{fl:DSt->MS (List D)}{pos p p2:Pos}{x c f:Str}{k:Nat}
variable {ρz ρ:Rho}{Sz S F:Addr->Bool}{Hz H:Hp}{σ:L2.St}{δ:DSt}{Ω Ω':Sto}{cs fs:List Str}{bn d:Str}
theorem jwn{pos':Pos}(T:ErrT X.K X.mg cs fs bn)(hf:fs.contains f=true)(ho:ME X O o fo)(hv:ME X O e fv)(hs:autoParam (swapsWith e (some (.Attribute o f pos')) pos.line X.env=pure false) zau2._auto_1):MSt X O O B (.Assign [.Attribute o f pos'] e pos) (jym cs f fo fv):=by
 rintro pins s σ H Dn I ⟨ρz,Sz,Hz,F,ρ,S,δ,Ω,R,r,Ω',hg,k⟩;refine jxe ho hv hs pins s σ H Dn I ?_;rcases MS.b_inv hg with ⟨d,Ω1,e1,hg⟩|⟨x,e1,rfl⟩
 ·refine⟨ρz,Sz,Hz,F,ρ,S,δ,Ω,R,.ok d,Ω1,e1,fun v ρ1 S1 H1 R1 l1 v1 r1=>?_⟩;rcases MS.b_inv hg with ⟨x,Ω2,e2,hg⟩|⟨x,e2,rfl⟩
  ·refine⟨ρz,Sz,Hz,F,ρ1,S1,δ,Ω1,R1,.ok x,Ω2,e2,fun u ρ2 S2 H2 R2 l2 v2 r2=>?_⟩;have r1':=(r1.rho l2).mono v2;rcases MS.b_inv hg with ⟨z,Ω3,e3,hg⟩|⟨y,e3,rfl⟩
   ·cases hg
    cases jnx e3 with
    | first i c fr h1 h2 h4 h6 h7 =>
     subst h1 h7;obtain⟨ad,q1,q2⟩:=rep_obj.mp r2;obtain⟨ad',p1,p2,p3⟩:=R2.sto.ats i _ h2;rw[q1] at p1;cases p1
     cases p3 with
     | no fr C g1 g2 =>
      refine⟨ad,q2,.first C fr g2 (T.cls c h4 C g1) (jn3 (T.fld c h4 C g1 f (zbc.mp hf))) fun dx hd=>?_⟩;obtain⟨t1,t2,t3⟩:=R2.newS (nso:=.xd [(f,d)]) (no:=XDc dx [(f,v)]) hd fun ρ' S' Hv' l vv=>⟨[(f,v)],jao,v,[],rfl,(r1'.rho l).mono vv,rfl⟩
      have il:i<Ω2.length:=(zbb.mp h2).1;have hne:ad≠dx:=fun z=>by rw[z,hd] at g2;cases g2
      have q1':=t2 _ _ q1;obtain⟨w1,w2⟩:=t1.putS (so':=.exc c (some Ω2.length,fr)) (o':=XO ad C (some dx) fr) (by rw[List.getElem?_append_left il];exact h2) q1' (addS_t.mpr (.inl p2)) (by rw[jah hne];exact g2) ju8
       (ExcOk.yes fr _ C dx g1 (by unfold addR;rw[if_pos rfl]) jao)
      exact k _ _ σ _ w1 (l1.trans (l2.trans t2)) (by rw[w2];exact v1.trans (v2.trans t3))
    | more i j c fr fl h1 h2 h3 h4 h5 h6 h7 =>
     subst h1 h7;obtain⟨ad,q1,q2⟩:=rep_obj.mp r2;obtain⟨ad',p1,p2,p3⟩:=R2.sto.ats i _ h2;rw[q1] at p1;cases p1
     obtain⟨dx,s1,s2,vfs,s3,s4⟩:=R2.sto.ats j _ h3
     cases p3 with
     | yes fr j C dx' g1 g2 g3 =>
      rw[s1] at g2;cases g2
      refine⟨ad,q2,.more C dx fr vfs g3 s3 (T.cls c h4 C g1) (jn3 (T.fld c h4 C g1 f (zbc.mp hf))) (by rw[s4.length];exact h5) ?_⟩;obtain⟨w1,w2⟩:=R2.putS (so':=.xd (putD f d fl)) (o':=XDc dx (putF f v vfs)) h3 s1 s2 s3 jBc ⟨_,jao,s4.put r1'⟩;exact k _ _ σ _ w1 (l1.trans l2) (by rw[w2];exact v1.trans v2)
   ·cases jnx e3 with
    | first i c fr h1 h2 h4 h6 h7=>cases h6
    | more i j c fr fl h1 h2 h3 h4 h5 h6 h7=>cases h6
  ·exact⟨ρz,Sz,Hz,F,ρ1,S1,δ,Ω1,R1,.error x,_,e2,trivial⟩
 ·exact⟨ρz,Sz,Hz,F,ρ,S,δ,Ω,R,.error x,_,e1,trivial⟩
theorem jum{g:Str->Bool}{nm:Expr}{v:V}{u:Value}(T:ErrT X.K X.mg cs fs bn)(hn:PE X nm (tC v))(hv:∀ w,RelV v w->w=u)(hk:∀ c∈cs,∀ C,X.mg c=some (.ref C)->W.kitOne X.K (.ref C) u=some (g c))(ha:ME X O e fa)(hG:autoParam (Gl X "isinstance") zau2._auto_1)(hm:X.mg "isinstance"=none)
  (he:autoParam (starEach (e::[nm]) X.env=(false,eval e X.env)::starEach [nm] X.env) zau2._auto_1) (he2:autoParam (starEach [nm] X.env=(false,eval nm X.env)::starEach [] X.env) zau2._auto_1) (hpl:autoParam ((backTo pos (starEach [nm] X.env)).any (·.1)=false) zau2._auto_1) :
  ME X O (.Call (.Name "isinstance" p) [e,nm] [] pos) (mIsX cs g fa):=by
 rintro pins s σ H Q I ⟨ρz,Sz,Hz,F,ρ,S,δ,Ω,R,r,Ω',hg,k⟩;refine jhz (jph T.sp T.tk) hG hm jgn (jd6 ha (jd6 hn jhj he2) he) (by decide) (by decide) he hpl pins s σ H Q I ?_;rcases MS.b_inv hg with ⟨x,Ω1,e1,hg⟩|⟨x,e1,rfl⟩
 ·refine⟨ρz,Sz,Hz,F,ρ,S,δ,Ω,R,.ok x,Ω1,e1,fun w ρ1 S1 H1 R1 l1 v1 r1=>?_⟩;obtain⟨i,c,oj,fr,rfl,hi,hj,hc,rfl,rfl⟩:=jp8 hg;obtain⟨ad,q1,q2⟩:=rep_obj.mp r1;obtain⟨ad',p1,p2,p3⟩:=R1.sto.ats i _ hi;rw[q1] at p1;cases p1
  subst q2
  cases p3 with
  | no fr C h1 h2=>exact⟨ad,C,none,fr,v,u,g c,rfl,h2,T.cls c hc C h1,(fun dx z=>nomatch z),hv,hk c hc C h1,k _ ρ1 S1 H1 R1 l1 v1 (rep_bl.mpr rfl)⟩
  | yes fr j C dx h1 h2 h3 =>
   obtain⟨fl,hj⟩:=hj j rfl;obtain⟨dx',s1,s2,vfs,s3,s4⟩:=R1.sto.ats j _ hj;rw[h2] at s1;cases s1
   exact⟨ad,C,some dx,fr,v,u,g c,rfl,h3,T.cls c hc C h1,fun dx' z=>by cases z;exact⟨vfs,s3⟩,hv,hk c hc C h1,k _ ρ1 S1 H1 R1 l1 v1 (rep_bl.mpr rfl)⟩
 ·exact⟨ρz,Sz,Hz,F,ρ,S,δ,Ω,R,.error x,_,e1,trivial⟩
theorem jzp(T:ErrT X.K X.mg cs fs bn)(hd:cs.contains d=true)(hm:X.mg "isinstance"=none)(ha:ME X O e fa)(hg:autoParam (Gl X d) zau2._auto_1)(hdb:autoParam ((d == ("__debug__":Str))=false) zau1._auto_1)(hG:autoParam (Gl X "isinstance") zau2._auto_1)
  (he:autoParam (starEach (e::[.Name d p2]) X.env=(false,eval e X.env)::starEach [.Name d p2] X.env) zau2._auto_1):ME X O (.Call (.Name "isinstance" p) [e,.Name d p2] [] pos) (mIsX cs (fun c=>c == d) fa):=by
 have hd':=zbc.mp hd;obtain⟨D0,h0⟩:=T.ats d hd';refine jum (v:=.ref D0) (u:=.ref D0) T (jmn hg h0 rfl hdb) (fun w r=>by cases r;rfl) (fun c hc C hC=>?_) ha hG hm he rfl rfl;obtain⟨D1,h1,h2⟩:=T.pair c hc d hd' C hC;rw[h0] at h1;cases h1
 exact h2
theorem jjz:bootBuiltins "ValueError"=some (.type "ValueError"):=by decide +kernel
theorem jzq(T:ErrT X.K X.mg cs fs bn)(hm:X.mg "isinstance"=none)(hvm:X.mg "ValueError"=none)(ha:ME X O e fa)(hg:autoParam (Gl X "ValueError") zau2._auto_1)(hG:autoParam (Gl X "isinstance") zau2._auto_1)
  (he:autoParam (starEach (e::[.Name "ValueError" p2]) X.env=(false,eval e X.env)::starEach [.Name "ValueError" p2] X.env) zau2._auto_1):ME X O (.Call (.Name "isinstance" p) [e,.Name "ValueError" p2] [] pos) (mIsX cs (fun _=>true) fa) :=
 jum (v:=.ty "ValueError") (u:=.type "ValueError") T (jw3 hg hvm jjz rfl) (fun w r=>by cases r;rfl) (fun c hc C hC=>T.val c hc C hC) ha hG hm he rfl rfl
end
theorem jp3{K:W.Frag}{mg:Str->Option Value}{h:Heap}{c q:Str}{st:Stmt}{ps:List Str}{C f:Addr}{oc:Value}{od an:Option Addr}{osl:Array (Option Value)}{kV doc pm cdv ct:Value}(X:K.In h)(G:h.Ns mainGlobals mg)
  (hb:∀ (kV doc pm:Value) (an:Option Addr) (cdv ct:Value) (us:List Value),us.length=ps.length->bindArgs (W.fnOf "__init__" q (jat st) (jak st) (jae st) .none kV doc pm an cdv ct) ⟨us,[]⟩=pure (ps.zip us))
  (a:mg c=some (.ref C)) (xc:XCls K C) (i2:W.findIn K (.ref C) "__init__"=some (some (.ref f))) (i3:W.isFn K (.ref f)=true)
  (l:K.lookup f=some ⟨oc,od,.func (W.fnOf "__init__" q (jat st) (jak st) (jae st) .none kV doc pm an cdv ct),osl⟩)
  (cd:W.codeIn K cdv q=true) (k:W.keepIn K (.ref f)=true):IniXAt K mg c q st ps:=by
 have F:=jug (st:=st) l cd k;exact⟨C,f,_,a,⟨xc,i2,i3⟩,F,F.binds hb⟩
end DL
namespace L2
open PySem PySem.Spec PyProof.Rows
open PySem.W (Frag InstAt Looks findIn mroIn clsIn)
section
variable {M:Model}{A:Around}{E:Value->Shared->Prop}{s:Shared}{K:Frag}{C:Addr}{env:Env}
theorem jx1{x:Sem Value}{Q:Flow->Shared->Prop}(hh:A.handled=none)
  (h:wpAny M A x (fun v s₁=>∃ e C od vs sl,v=.ref e/\K.In s₁.heap/\xIn K C=true/\s₁.heap.get? e=some (xOb C od vs sl)/\vs[1]? = some .none/\E (.ref e) s₁) E s) :
  wpAny M A (raiseStmt env (some x) none) Q E s:=by
 unfold raiseStmt;refine zay (thn h fun v s₁ hzz=>?_);obtain⟨e,C,od,vs,sl,ev,X,hx,he,h1,hE⟩:=hzz;subst ev;obtain⟨bm,N,nm,q,bs,sn,sub,ab,col,dd,k0,k1,k2,k3,k5,cd,hC,T,hk,hm,hd,hN⟩:=x_at X hx;have hcB:(Value.ref C::bm).contains (.type "BaseException")=true:=by rw[List.contains_cons,T.hasType (show bmV.contains (.type "BaseException")=true by decide),Bool.or_true]
 obtain⟨hp,g,d,tk,os⟩:=s₁
 repeat (first|with_reducible refine wpAny_loadPart_at he ?_|with_reducible refine wpAny_loadPart_at hC ?_|(with_reducible refine wpAny_isSubtype_exc hC ?_;rw[hcB])|wp_step)
 rw[h1];exact zab (by rw[if_neg (by decide)];exact zab (wpAny_raiseNew_none hh hE))
noncomputable abbrev frL(l:List Env):List Addr:=l.filterMap (·.frame)
inductive TbAt(h:Heap)(vs:Array Value):Prop
 | no (h1:vs[1]? = some .none)
 | yes (T:Addr) (oT:Obj) (ts:Array Value) (h1:vs[1]? = some (.ref T)) (h2:h.get? T=some oT) (h3:oT.data=.fields ts) (h4:ts[3]? = some .none)
inductive Note(l:List Env)(e C:Addr)(od:Option Addr)(vs:Array Value)(sl:Array (Option Value))(h h':Heap):Prop
 | mk (vs':Array Value) (T:Addr) (oT:Obj) (ts:Array Value) (h1:h'.get? e=some (xOb C od vs' sl)) (h2:vs'[1]? = some (.ref T)) (h3:h.get? T=none) (h4:h'.get? T=some oT) (h5:oT.data=.fields ts) (h6:ts[3]? = some .none)
   (h7:∀ b o,h.get? b=some o->b∉frL l->b≠e->vs[1]?≠some (.ref b)->h'.get? b=some o) (h8:∀ b o,h.get? b=some o->b∈frL l->∃ sl',h'.get? b=some { o with slots:=sl' }) (h9:∀ T,vs[1]? = some (.ref T)->∃ oT ts,h'.get? T=some oT/\oT.data=.fields ts/\ts[3]? = some .none)
theorem jr4{base:Heap}{env:Env}{outer:List Env}{L e:Addr}{od:Option Addr}{vs:Array Value}{sl:Array (Option Value)}{head:Value}{hadNext:Bool}{Q:Unit->Shared->Prop}
  (hfr:A.frames=some (env::outer)) (hl:s.heap.FunFrames base (env::outer)) (hf:env.frame=some L) (he:s.heap.get? e=some (xOb C od vs sl)) (hsz:1<vs.size)
  (h:∀ h' vs' T oT ts,h'.get? e=some (xOb C od vs' sl)->vs'[1]? = some (.ref T)->s.heap.get? T=none->h'.get? T=some oT->oT.data=.fields ts->ts[3]? = some .none->(∀ b o,s.heap.get? b=some o->b∉frL (env::outer)->b≠e->h'.get? b=some o) ->
   (∀ b o,s.heap.get? b=some o->b∈frL (env::outer)->∃ sl',h'.get? b=some { o with slots:=sl' })->Q () { s with heap:=h' }) :
  wpAny M A (do let a <- frameOf env;let pl <- entryPlaceOf L hadNext;let b <- EntryCells.newEntry head a .none (rawInt L) .none pl;setField (.ref e) 1 b) (fun _ s'=>wpAny M A (setFlight (.ref e) none) Q E s') E s:=by
 have nfe:∀ b,b∈frL (env::outer)->b≠e:=fun b hb z=>by
  obtain⟨_,o,ho,hnf⟩:=hl.mem hb;rw[z,he] at ho;cases ho;exact hnf vs rfl
 refine zay (wpAny_frameOf_fun hfr hl hf fun g hs=>zay (wpAny_entryPlaceOf fun pl hpl=>?_));unfold EntryCells.newEntry newFields;refine zay (wpAny_newObj_type ?_ (hpl.sizeOk5 _ _ _ _ _));have e1:g.get? e=some (xOb C od vs sl):=(hs.2.1 e fun hb=>nfe e hb rfl).trans he;generalize hob:({ cls:=.type "traceback",dict:=none,data:=.fields ([head,.ref L,.none,rawInt L,.none]++(if pl.isEmpty then List.replicate 6 Value.none else pl)).toArray }:Obj)=ob;have hdat:ob.data=.fields ([head,.ref L,.none,rawInt L,.none]++(if pl.isEmpty then List.replicate 6 Value.none else pl)).toArray:=by rw[<- hob]
 have hsz3:3<([head,.ref L,.none,rawInt L,.none]++(if pl.isEmpty then List.replicate 6 Value.none else pl)).toArray.size:=by
  rw[zbx,zca];show 3<5+_;omega
 generalize ([head,.ref L,.none,rawInt L,.none]++(if pl.isEmpty then List.replicate 6 Value.none else pl)).toArray=ts at hdat hsz3;have e2:=zaz ob e1;refine wpAny_setField e2 rfl hsz ?_;have ne:g.objs.size≠e:=Nat.ne_of_gt (zbv e1);have e3:((g.push ob).update e (Obj.mapFields (·.setIfInBounds 1 (Value.ref g.objs.size)))).get? e=some (xOb C od (vs.setIfInBounds 1 (.ref g.objs.size)) sl):=Heap.get?_update_self _ e2 rfl;have t3:((g.push ob).update e (Obj.mapFields (·.setIfInBounds 1 (Value.ref g.objs.size)))).get? g.objs.size=some ob:=by
  rw[Heap.get?_update_other _ _ (Ne.symm ne)];exact zbz _ (Obj.isFreed_of_fields hdat)
 have v1:(vs.setIfInBounds 1 (Value.ref g.objs.size))[1]? = some (.ref g.objs.size):=by simp[hsz]
 unfold setFlight;refine zay (wpAny_field e3 rfl v1 ?_);rw[if_pos (show (Value.ref g.objs.size != Value.none)=true from by simp)];refine wpAny_setField t3 hdat hsz3 ?_;have dT:=Obj.data_mapFields hdat (·.setIfInBounds 3 ((none:Option Addr).elim Value.none fun f=>rawInt f));have t4:=Heap.get?_update_self (Obj.mapFields (·.setIfInBounds 3 ((none:Option Addr).elim Value.none fun f=>rawInt f))) t3 (Obj.isFreed_of_fields dT);have fresh:s.heap.get? g.objs.size=none:=Heap.get?_none_of_le (by rw[hs.1];exact zac _);have keep:∀ b o,b≠e->g.get? b=some o->(((g.push ob).update e (Obj.mapFields (·.setIfInBounds 1 (Value.ref g.objs.size)))).update g.objs.size (Obj.mapFields (·.setIfInBounds 3 ((none:Option Addr).elim Value.none fun f=>rawInt f)))).get? b=some o:=fun b o hb q=>by
  rw[Heap.get?_update_other _ _ (Nat.ne_of_gt (zbv q)),Heap.get?_update_other _ _ (Ne.symm hb)];exact zaz _ q
 refine h _ _ g.objs.size _ _ ?_ v1 fresh t4 dT (by simp[hsz3]) (fun b o q hb hbe=>keep b o hbe ((hs.2.1 b hb).trans q)) fun b o q hb=>?_
 ·rw[Heap.get?_update_other _ _ ne];exact e3
 ·obtain⟨sl',q'⟩:=hs.2.2 b o q;exact⟨sl',keep b _ (nfe b hb) q'⟩
theorem jxy{base:Heap}{env:Env}{outer:List Env}{L e:Addr}{od:Option Addr}{vs:Array Value}{sl:Array (Option Value)}{Q:Unit->Shared->Prop}
  (hfr:A.frames=some (env::outer)) (hl:s.heap.FunFrames base (env::outer)) (hf:env.frame=some L) (he:s.heap.get? e=some (xOb C od vs sl)) (tb:TbAt s.heap vs) (hne:vs[1]?≠some (.ref e))
  (h:∀ h',Note (env::outer) e C od vs sl s.heap h'->Q () { s with heap:=h' }):wpAny M A (noteFrame (.ref e) env) (fun _ s'=>wpAny M A (setFlight (.ref e) none) Q E s') E s:=by
 unfold noteFrame;simp only[hf]
 cases tb with
 | no h1 =>
  refine zay (wpAny_field he rfl h1 ?_);rw[if_neg (by decide)];refine jr4 hfr hl hf he (Array.getElem?_eq_some_iff.mp h1).1 fun h' vs' T oT ts a1 a2 a3 a4 a5 a6 a7 a8=>h h' ⟨vs',T,oT,ts,a1,a2,a3,a4,a5,a6,fun b o q hb hbe _=>a7 b o q hb hbe,a8,fun T z=>by rw[h1] at z;cases z⟩
 | yes T oT ts h1 h2 h3 h4 =>
  have hTe:T≠e:=fun z=>hne (by rw[h1,z])
  have nT:T∉frL (env::outer):=fun hb=>by
   obtain⟨_,o,ho,hnf⟩:=hl.mem hb;rw[h2] at ho;cases ho;exact hnf ts h3
  refine zay (wpAny_field he rfl h1 ?_);rw[if_pos (show (Value.ref T != Value.none)=true from by simp)];refine zay (wpAny_field h2 h3 h4 ?_);rw[if_neg (show ¬ ((Value.none == rawInt L)=true) from by simp[rawInt])];refine zay (wpAny_setField h2 h3 (Array.getElem?_eq_some_iff.mp h4).1 ?_);have other:∀ b,b≠T->(s.heap.update T (Obj.mapFields (·.setIfInBounds 3 Value.none))).get? b=s.heap.get? b:=fun b hb=>Heap.get?_update_other _ _ (Ne.symm hb)
  refine jr4 (s:={ s with heap:=s.heap.update T (Obj.mapFields (·.setIfInBounds 3 Value.none)) }) hfr (hl.of_keeps fun b o q nf=>⟨o,(other b fun z=>nf ts (by rw[z,h2] at q;cases q;exact h3)).trans q,rfl⟩) hf ((other e (Ne.symm hTe)).trans he) (Array.getElem?_eq_some_iff.mp h1).1
   fun h' vs' T' oT' ts' a1 a2 a3 a4 a5 a6 a7 a8=>h h' ⟨vs',T',oT',ts',a1,a2,?_,a4,a5,a6,fun b o q hb hbe hbT=>a7 b o ((other b fun z=>hbT (by rw[z];exact h1)).trans q) hb hbe,fun b o q hb=>a8 b o ((other b fun z=>nT (by rw[<- z];exact hb)).trans q) hb,fun T2 z=>?_⟩
  rotate_left
  ·rw[h1] at z;cases z;exact⟨_,_,a7 T _ (Heap.get?_update_self _ h2 (Obj.isFreed_of_fields (Obj.data_mapFields h3 _))) nT hTe,Obj.data_mapFields h3 _,by simp[(Array.getElem?_eq_some_iff.mp h4).1]⟩
  by_cases z:T'=T
  ·subst z;exact absurd a3 (by rw[Heap.get?_update_self _ h2 (Obj.isFreed_of_fields (Obj.data_mapFields h3 _))];exact fun z=>nomatch z)
  ·exact (other T' z).symm.trans a3
end
end L2
namespace L2
open PySem PySem.Spec PyProof.Rows
open PySem.W (Frag InstAt Looks findIn mroIn clsIn)
noncomputable def XT(T:Addr):HO:=.ext fun h=>∃ oT ts,h.get? T=some oT/\oT.data=.fields ts/\ts[3]? = some .none
inductive Fly(H:Hp)(a C:Addr)(od:Option Addr)(s:Shared):Prop
 | mk (e1:H a=some (XO a C od false)) (vs:Array Value) (sl:Array (Option Value)) (e2:s.heap.get? a=some (xOb C od vs sl)) (tb:TbAt s.heap vs) (ne:vs[1]?≠some (.ref a)) (tr:∀ T,vs[1]? = some (.ref T)->H T=some (XT T))
theorem jr5{P:Program}{w:World}{H:Hp}{h:Heap}{T:Addr}{oT:Obj}{ts:Array Value}(h1:h.get? T=some oT)(h2:oT.data=.fields ts)(h3:ts[3]? = some .none):ObjOk P w H h T (XT T) :=
 jl8 ⟨oT,ts,h1,h2,h3⟩ ⟨_,h1⟩ fun _ _ ⟨oT,ts,h1,h2,h3⟩ k=>⟨oT,ts,k _ h1,h2,h3⟩
section
variable {X:Cx}{pins:List (Addr×Obj)}{σ:St}{H:Hp}{s:Shared}{a C:Addr}{od:Option Addr}
theorem jz6{A':Around}{E':Value->Shared->Prop}{Q:Unit->Shared->Prop}(I:Inv X pins σ H s)(F:Fly H a C od s)(hst:X.stack=X.env::X.outer)(hf:X.env.frame=some X.env.locals)(hA:A'.frames=some X.stack)
  (k:∀ T h',H T=none->Inv X pins σ (upd H T (XT T)) { s with heap:=h' }->Fly (upd H T (XT T)) a C od { s with heap:=h' }->Q () { s with heap:=h' }) :
  wpAny (model X.prog X.w) A' (noteFrame (.ref a) X.env) (fun _ s'=>wpAny (model X.prog X.w) A' (setFlight (.ref a) none) Q E' s') E' s:=by
 obtain⟨e1,vs,sl,e2,tb,ne,tr⟩:=F;refine jxy (base:=X.base) (by rw[hA,hst]) (by rw[<- hst];exact I.stack) hf e2 tb ne fun h' N=>?_
 obtain⟨vs',T,oT,ts,n1,n2,n3,n4,n5,n6,n7,n8,n9⟩:=N;have hT:H T=none:=jhx (h:=s.heap) I n3;have nfr:∀ b∈frL (X.env::X.outer),H b=none:=fun b hb=>I.stkFree b (by rw[hst];exact hb)
 have na:∀ b,H b=none->b≠a:=fun b q z=>by rw[z,e1] at q;cases q
 have nTb:∀ b,H b=none->vs[1]?≠some (.ref b):=fun b q z=>by rw[tr b z] at q;cases q
 have nT:∀ b u,s.heap.get? b=some u->b≠T:=fun b u q z=>by rw[z,n3] at q;cases q
 have nT':∀ b u,H b=some u->b≠T:=fun b u q z=>by rw[z,hT] at q;cases q
 have there:∀ b o,s.heap.get? b=some o->∃ o',h'.get? b=some o':=fun b o q=>by
  by_cases z2:b=a
  ·rw[z2];exact⟨_,n1⟩
  ·by_cases z3:vs[1]? = some (.ref b)
   ·obtain⟨oT,ts,q',_⟩:=n9 b z3;exact⟨oT,q'⟩
   ·by_cases z4:b∈frL (X.env::X.outer)
    ·obtain⟨sl',q'⟩:=n8 b o q z4;exact⟨_,q'⟩
    ·exact⟨o,n7 b o q z4 z2 z3⟩
 have hok:HOk X.prog X.w (upd H T (XT T)) h':=fun b u e=>by
  by_cases z:b=T
  ·subst z;rw[jao] at e;cases e;exact jr5 n4 n5 n6
  ·rw[jah z] at e
   by_cases z2:b=a
   ·subst z2;rw[e1] at e;cases e;exact jl0 n1 fun z=>nomatch z
   ·by_cases z3:vs[1]? = some (.ref b)
    ·rw[tr b z3] at e;cases e;obtain⟨oT,ts,q1,q2,q3⟩:=n9 b z3;exact jr5 q1 q2 q3
    ·refine (I.hok b u e).stay (fun c v hc q=>?_) (fun c q=>by rw[jah (nT' c _ q)];exact q) fun c xs q=>by rw[jah (nT' c _ q)];exact q
     have hcn:H c≠none:=by
      rcases hc with r|r
      ·rw[r,e];exact fun z=>nomatch z
      ·rw[r];exact fun z=>nomatch z
     refine n7 c v q (fun z=>hcn (nfr c z)) (fun z=>?_) fun z=>?_
     ·rcases hc with r|r
      ·exact z2 (r.symm.trans z)
      ·rw[z,e1] at r;exact absurd (zby r) (fun z=>by unfold XO at z;cases z)
     ·rcases hc with r|r
      ·exact z3 (by rw[<- r];exact z)
      ·rw[tr c z] at r;exact absurd (zby r) (fun z=>by unfold XT at z;cases z)
 have J:Inv X pins σ (upd H T (XT T)) { s with heap:=h' }:=I.call (g':=s.gens) (t':=s.toks) (d':=s.drawn) (ch:=[]) ⟨fun b o q n hb _=>n7 b o q (by rw[hst] at hb;exact hb) (na b n) (nTb b n),fun b o q n hb _=>n8 b o q (by rw[hst] at hb;exact hb),
  fun b o q n _=>by rw[jah (nT b o q)];exact n,fun b o q _=>there b o q,fun b xs q=>by rw[jah (nT' b _ q)];exact q,fun b u xs q=>by rw[jah (nT' b _ q)];exact q,fun b ps q=>⟨#[],by rw[jah (nT' b _ q),q];simp⟩⟩ hok I.bare (fun b z=>nomatch z)
 refine k T h' hT J ⟨by rw[jah (nT' a _ e1)];exact e1,vs',sl,n1,.yes T oT ts n2 n4 n5 n6,fun z=>?_,fun T2 z=>?_⟩
 ·rw[n2] at z;cases z;exact nT' _ _ e1 rfl
 ·rw[n2] at z;cases z;exact jao
inductive CXr(P:Program)(w:World)(outer:List Env)(H:Hp)(s:Shared)(E:XK)(e:Value)(s':Shared):Prop
 | mk (a C:Addr) (od:Option Addr) (H1 H':Hp) (h1:e=.ref a) (h2:s'.os=s.os) (h3:AllBare s'.gens) (h4:Un (frs outer) [] H H' s.heap s'.heap) (h5:HOk P w H' s'.heap) (h6:Fly H' a C od s') (h7:∀ b o,H1 b=some o->H' b=some o) (h8:E (.ref a) od H1)
noncomputable def CX1(P:Program)(w:World):CXT:=fun outer H s E e s'=>CXr P w outer H s E e s'
inductive Back(X:Cx)(pins:List (Addr×Obj))(σ:St)(E:XK)(e:Value)(s:Shared):Prop
 | mk (a C:Addr) (od:Option Addr) (H1 H:Hp) (h1:e=.ref a) (I:Inv X pins σ H s) (F:Fly H a C od s) (h7:∀ b o,H1 b=some o->H b=some o) (h8:E (.ref a) od H1)
theorem jpb{E:XK}{e:Value}{s':Shared}(I:Inv X pins σ H s)(h:CX1 X.prog X.w X.stack H s E e s'):Back X pins σ E e s':=by
 obtain⟨a,C,od,H1,H',h1,h2,h3,h4,h5,h6,h7,h8⟩:=h;exact⟨a,C,od,H1,H',h1,I.call' h2 h4 h5 h3 (fun b z=>nomatch z),h6,h7,h8⟩
theorem jzh{P:Program}{w:World}{K:Frag}{mg:Str->Option Value}{base:Heap}{N:List Str}{qual:Str}{scope:Scope}{f:Addr}{cd:Value}{A:Around}{outer:List Env}{s:Shared}{H:Hp}{E:XK}{e:Value}{s2:Shared}
  (B:Back (cxOf (CX1 P w) P w K mg base N qual scope f cd A outer s H E) pins σ E e s2):(cxOf (CX1 P w) P w K mg base N qual scope f cd A outer s H E).xe e s2:=by
 obtain⟨a,C,od,H1,H2,rfl,I,F,h7,h8⟩:=B;show wpAny _ _ (leaving _ (.ref a)) _ _ s2;unfold leaving;refine zay (jz6 (X:=cxOf (CX1 P w) P w K mg base N qual scope f cd A outer s H E) I F rfl rfl I.ok.frames fun T h' hT J F'=>?_);exact⟨a,C,od,H1,_,rfl,J.os,J.bare,J.base,J.hok,F',fun b o q=>by rw[jah (fun z=>by rw[z,] at q;rw[h7 _ _ q] at hT;cases hT)];exact h7 b o q,h8⟩
theorem jtq{e:Expr}{te:TE}{pos:Pos}(he:PE X e te)(hc:X.calm=true):PS X (.Raise (some e) none pos) (fun D σ H=>te σ H fun v H1=>∃ a C od,v=.ref a/\H1 a=some (XO a C od true)/\XCls X.K C/\∀ pins s,Inv X pins σ (upd H1 a (XO a C od false)) s->Fly (upd H1 a (XO a C od false)) a C od s->X.xe (.ref a) s):=by
 intro pins s σ H D I h;show wpAny _ _ (do standAt pos;raiseStmt X.env (some (do let v <- eval e X.env;standAt pos;pure v)) none) _ _ s;refine zay (wpAny_standAt (jx1 (K:=X.K) (I.ok.hd hc) (zay (thn (he pins s σ H _ I h) fun u s1 ⟨v,H1,I1,rv,a,C,od,ev,ha,cl,k⟩=>zay (wpAny_standAt (zab ?_))))));subst ev;cases rv;obtain⟨vs,sl,h0,hf0⟩:=jm2 I1 ha;have h1:=hf0 rfl;refine⟨a,C,od,vs,sl,rfl,I1.kIn,cl.x,h0,h1,?_⟩;have J:Inv X pins σ (upd H1 a (XO a C od false)) { s1 with heap:=s1.heap,toks:=s1.toks }:=I1.write (x:=a) (e:=a) (by rw[ha];exact True.intro) (.inl rfl) (fun b u _ q=>q) ⟨_,h0⟩ (jl0 h0 fun z=>nomatch z);exact k pins s1 J ⟨jao,vs,sl,h0,.no h1,fun z=>by rw[h1] at z;(cases z),fun T z=>by rw[h1] at z;cases z⟩
end
end L2
namespace L2
open PySem PySem.Spec PyProof.Rows
open PySem.W (Frag InstAt Looks findIn mroIn clsIn)
section
variable {X:Cx}{pins:List (Addr×Obj)}{σ:St}{H:Hp}{s:Shared}{a C:Addr}{od:Option Addr}
noncomputable abbrev Cx.mk1(X:Cx)(v:Value)(E:Value->Shared->Prop):Cx:={ X with A:=X.A.mark (some v),calm:=false,xe:=E }
theorem Inv.mk1(I:Inv X pins σ H s)(v:Value)(E:Value->Shared->Prop):Inv (X.mk1 v E) pins σ H s :=
 ⟨⟨I.ok.mod,I.ok.kind,I.ok.glob,I.ok.blt,I.ok.above,I.ok.inj,I.ok.has,I.ok.cab,(fun z=>nomatch z),I.ok.frames,I.ok.stk,I.ok.exf,I.ok.bs,I.ok.bsz,I.ok.noex,I.ok.exfs,I.ok.funs,I.ok.frf⟩,I.os,I.bare,I.base,I.loc,I.cell,I.free,I.freeC,I.pin,I.hok,I.len⟩
theorem Inv.un1{v:Value}{E:Value->Shared->Prop}{σ':St}{H':Hp}{s':Shared}(I:Inv X pins σ H s)(J:Inv (X.mk1 v E) pins σ' H' s'):Inv X pins σ' H' s' :=
 ⟨I.ok,J.os,J.bare,J.base,J.loc,J.cell,J.free,J.freeC,J.pin,J.hok,J.len⟩
theorem jr0{M:Model}{A:Around}{E:Value->Shared->Prop}{i:Nat}{x:Str}{v:V}{pos:Pos}{Q:Unit->Shared->Prop}(I:Inv X pins σ H s)(hN:X.N.Nodup)(hi:X.N[i]? = some x)(hk:X.env.scope.names.lookup x=some .local)(hv:σ[i]? = some (some v))
  (h:∀ s',Inv X pins (σ.set i none) H s'->Q () s'):wpAny M A (unbindBehindTheSuite X.env x pos) Q E s:=by
 obtain⟨m,hn,hl⟩:=id I.loc;have hcls:(X.env.scope.kind == .class || (X.env.scope.kind == .module&&X.env.locals != X.env.globals))=false:=by rw[I.ok.kind];rfl
 have cne:=I.cne;obtain⟨u,ru,lk⟩:=hl i x v hi hv (.inl hk);have hu:m x=some u:=by
  rcases lk with ⟨_,e⟩|⟨k,_⟩
  ·exact e
  ·have hk':X.env.kindOf x=some .local:=hk;rcases k with k|k
   ·rw[hk'] at k;cases k
   ·rw[hk'] at k;cases k
 unfold unbindBehindTheSuite;refine wpAny_onRaise (wpAny_unbindName_local hk hn hu hcls fun h' u' hn' hs=>?_);obtain⟨oL,_,_,hoL,_⟩:=id hn;have low:∀ {b:Addr} {o:Obj},X.s₀.heap.get? b=some o->b≠X.env.locals:=fun e=>zcv (zcx (zbv e) I.ok.above)
 refine h _ ⟨I.ok,I.os,I.bare,⟨fun b o e n hb hx=>(hs.2 b (low e)).trans (I.base.keep b o e n hb hx),fun b o e n hb hx=>?_,I.base.free,fun b o e hx=>?_,I.base.tups,I.base.frzs,I.base.tbls⟩,⟨_,hn',fun j y v' e1 e2 e3=>?_⟩,fun y c e=>?_,I.free,I.freeC,fun p hp=>?_,fun b ob e=>?_,by simpa using I.len⟩
 ·obtain⟨sl,e1⟩:=I.base.slot b o e n hb hx;exact⟨sl,(hs.2 b (low e)).trans e1⟩
 ·obtain⟨o',e1⟩:=I.base.there b o e hx;exact⟨o',(hs.2 b (low e)).trans e1⟩
 ·have hj:j≠i:=fun z=>by
   rw[z,zcz (zbb.mp hv).1] at e2;cases e2
  rw[zbw (Ne.symm hj)] at e2;obtain⟨w,r',q⟩:=hl j y v' e1 e2 e3;refine⟨w,r',?_⟩;rcases q with ⟨k,e⟩|⟨k,c,e,z⟩
  ·refine .inl ⟨k,?_⟩;have:y≠x:=fun e=>hj (jkg hN e1 (e ▸ hi))
   simp[this,e]
  ·exact .inr ⟨k,c,e,z.sameBut hs (cne y c e)⟩
 ·obtain⟨w,z⟩:=I.cell y c e;exact⟨w,z.sameBut hs (cne y c e)⟩
 ·obtain⟨e,n,ne,nf,d⟩:=I.pin p hp;exact⟨(hs.2 p.1 ne).trans e,n,ne,nf,d⟩
 ·refine (I.hok b ob e).stay (fun c w hc q=>(hs.2 c ?_).trans q) (fun _ q=>q) fun _ _ q=>q
  rintro rfl;rcases hc with z|hc
  ·rw[<- z,I.free] at e;cases e
  ·rw[I.free] at hc;cases hc
theorem jCa{A':Around}{E':Value->Shared->Prop}{Q:Unit->Shared->Prop}(I:Inv X pins σ H s)(F:Fly H a C od s)(k:∀ s',Inv X pins σ H s'->Q () s'):wpAny (model X.prog X.w) A' (setFlight (.ref a) none) Q E' s:=by
 obtain⟨e1,vs,sl,e2,tb,ne,tr⟩:=F;unfold setFlight
 cases tb with
 | no h1 =>
  refine zay (wpAny_field e2 rfl h1 ?_);rw[if_neg (by decide)];exact zab (k s I)
 | yes T oT ts h1 h2 h3 h4 =>
  refine zay (wpAny_field e2 rfl h1 ?_);rw[if_pos (show (Value.ref T != Value.none)=true from by simp)];have hs:=(Array.getElem?_eq_some_iff.mp h4).1;refine wpAny_setField h2 h3 hs (k _ ?_);have dT:=Obj.data_mapFields h3 (·.setIfInBounds 3 ((none:Option Addr).elim Value.none fun f=>rawInt f));have q:=Heap.get?_update_self (Obj.mapFields (·.setIfInBounds 3 ((none:Option Addr).elim Value.none fun f=>rawInt f))) h2 (Obj.isFreed_of_fields dT);have hT:=tr T h1;have J:Inv X pins σ (upd H T (XT T)) { s with heap:=s.heap.update T (Obj.mapFields (·.setIfInBounds 3 ((none:Option Addr).elim Value.none fun f=>rawInt f))),toks:=s.toks } :=
   I.write (x:=T) (e:=T) (by rw[hT];exact True.intro) (.inl rfl) (fun b u hb z=>(Heap.get?_update_other _ _ (Ne.symm hb)).trans z) ⟨_,q⟩ (jr5 q dT (by simp[hs]))
  have eH:upd H T (XT T)=H:=by
   funext b
   by_cases z:b=T
   ·rw[z,jao,hT]
   ·rw[jah z]
  rw[eH] at J;exact J
theorem jv5{B n y:Str}{Bc:Addr}{j l:Nat}{np hpos py pn ypos:Pos}{Q:Flow->Shared->Prop}{E':Value->Shared->Prop}(I:Inv X pins σ H s)(F:Fly H a C od s)(hex:W.exmOne X.K (.ref C) (.ref Bc)=some true)(hg:Gl X B)(hm:X.mg B=some (.ref Bc))(hdb:(B == ("__debug__":Str))=false)
  (hN:X.N.Nodup) (hj:X.N[j]? = some n) (hn:X.env.scope.names.lookup n=some .local) (hl:X.N[l]? = some y) (hy:X.env.scope.names.lookup y=some .local) (hjl:j≠l)
  (hnd:(n == ("__debug__":Str))=false) (hncd:(n == ("__classdict__":Str))=false) (hs:swapsWith (.Name n pn) (some (.Name y py)) ypos.line X.env=pure false)
  (k:∀ s',Inv X pins (((σ.set j (some (.ref a))).set l (some (.ref a))).set j none) H s'->Q .next s') :
  wpAny (model X.prog X.w) X.A (handleBy (.ref a) X.env [.ExceptHandler (some (.Name B np)) (some n) [.Assign [.Name y py] (.Name n pn) ypos] hpos]) Q E' s:=by
 have e2:∃ vs sl,s.heap.get? a=some (xOb C od vs sl):=by obtain⟨_,vs,sl,e2,_⟩:=F;exact⟨vs,sl,e2⟩
 obtain⟨vs,sl,e2⟩:=e2;have jl:j<σ.length:=by rw[I.len];exact (zbb.mp hj).1
 have I':=I.mk1 (.ref a) fun _ _=>False
 have LT:Looks (model X.prog X.w) s.heap (typeOf (.ref a)) (.ref C):=by
  intro A' Q' E' s' k z;unfold typeOf;exact zay (wpAny_loadPart (k _ _ e2) (zab z))
 refine wpAny_handleBy_cons (codeAny_handlers_test (jg6 (X:=X.mk1 (.ref a) fun _ _=>False) I' hg hm ?_ hdb)) (by intro q;cases q);refine (W.exm_one I.kIn LT hex).here ?_;show codeAny _ _ (.handlers (.ref a) [.ExceptHandler none (some n) [.Assign [.Name y py] (.Name n pn) ypos] hpos] X.env) _ s;refine codeAny_handlers_suite_as (jCa (X:=X.mk1 (.ref a) fun _ _=>False) I' F fun s1 I1=>?_);refine jh0 (X:=X.mk1 (.ref a) fun _ _=>False) I1 hN hj (.inl hn) (v:=.ref a) rfl (fun s2 I2=>?_) (.inr hn);have hv:(σ.set j (some (V.ref a)))[j]? = some (some (.ref a)):=zcz jl;have PSx:=jis (jlp (X:=X.mk1 (.ref a) fun _ _=>False) (pos:=ypos) (pos':=py) hN hl (.inl hy) (jnt (pos:=pn) hj (.inl hn) hnd hncd) hs (.inr hy));refine wpAny_mono (PSx pins s2 _ H ⟨fun σ' H'=>σ'=(σ.set j (some (.ref a))).set l (some (.ref a))/\H'=H,fun _ _=>False,fun _ _=>False,fun _ _=>False⟩ I2 ⟨_,hv,rfl,rfl⟩) (fun f s3 q=>?_) fun _ _ z=>z.elim
 cases f with
 | brk=>obtain⟨_,_,_,z⟩:=q;exact z.elim
 | cont=>obtain⟨_,_,_,z⟩:=q;exact z.elim
 | ret u=>obtain⟨_,_,_,_,_,z⟩:=q;exact z.elim
 | next =>
  obtain⟨σ3,H3,I3,rfl,rfl⟩:=q;show wpAny _ X.A (do bindName X.env n .none;unbindBehindTheSuite X.env n hpos) (fun _ s₃=>Q .next s₃) E' s3;refine zay (wpAny_bindName (jh0 (I.un1 I3) hN hj (.inl hn) (v:=.non) rfl (fun s4 I4=>?_) (.inr hn)));refine jr0 I4 hN hj hn (zcz (by simpa using jl)) fun s5 I5=>k s5 ?_
  rw[List.set_set] at I5;exact I5
end
end L2
namespace L2
open PySem PySem.Spec PyProof.Rows
open PySem.W (Frag InstAt Looks findIn mroIn clsIn)
noncomputable def EX(Er:Addr->Addr->Option Addr->Hp->Prop):XK:=fun v od H=>∃ a C,v=.ref a/\H a=some (XO a C od false)/\Er a C od H
theorem ju7{X:Cx}{pins:List (Addr×Obj)}{σ:St}{H:Hp}{s:Shared}{a C C':Addr}{od od':Option Addr}{f f':Bool}(I:Inv X pins σ H s)(h:H a=some (XO a C od f))(h':H a=some (XO a C' od' f')):C=C':=by
 obtain⟨vs,sl,e,_⟩:=jm2 I h;obtain⟨vs',sl',e',_⟩:=jm2 I h';rw[e] at e';have:=congrArg Obj.cls (zby e');exact Value.ref.inj this
section
variable {X:Cx}{CX:CXT}{k:Nat}{f C:Addr}{fd:FuncData}{ps:List Str}{sp:Sp}{E:XK}{m:Str}{e o:Expr}{ta:TE}{t:TA}
theorem jAr{pins:List (Addr×Obj)}{σ:St}{H:Hp}{s:Shared}{Q:VK}{us:List Value}{vs:List V}(F:FnOk X.prog X.w X.K X.mg X.base CX k f fd ps sp)(hr:Room k X.A)(hb:Binds X.K fd ps [])(hx:∀ H1 s1 e s',Inv X pins σ H1 s1->CX X.stack H1 s1 E e s'->X.xe e s')
  (I:Inv X pins σ H s) (r:Vals vs us) (h:sp vs H Q E):wpAny (model X.prog X.w) X.A (call (.ref f) us) (EP X pins σ Q) X.xe s:=by
 have hl:(us++[]).length=ps.length:=by rw[List.append_nil,<- r.length];exact F.len _ _ _ _ h
 refine wpAny_call (codeAny_mono (F.run X.A X.stack s H ⟨us,[]⟩ (us++[]) vs Q E hr I.env0 (hb s us I.kIn hl) (by rw[List.append_nil];exact r) h) fun r s' hq=>?_)
 cases r with
 | error e=>exact hx H s e s' I hq
 | ok fl =>
  cases fl with
  | ret u=>exact I.after hq
  | next=>exact False.elim hq
  | brk=>exact False.elim hq
  | cont=>exact False.elim hq
inductive tTryM(K:Frag)(C:Addr)(m:Str)(sp:Sp)(ta:TE)(t:TA)(Bc:Addr)(i j l:Nat)(D:Ends)(σ:St)(H:Hp):Prop
 | mk (Er:Addr->Addr->Option Addr->Hp->Prop) (h1:jC2 C m sp [] (EX Er) ta t σ H fun v H1=>D.nx (σ.set i (some v)) H1)
  (h2:∀ a C' od H1,H1 a=some (XO a C' od false)->Er a C' od H1->(∃ C2 od2,H1 a=some (XO a C2 od2 false)/\W.exmOne K (.ref C2) (.ref Bc)=some true)/\∀ H2,(∀ b o,H1 b=some o->H2 b=some o)->D.nx (((σ.set j (some (.ref a))).set l (some (.ref a))).set j none) H2)
end
end L2
namespace DL
open PySem PySem.Spec L2
noncomputable def xdO(i:Nat):XD:=⟨"",[("",.obj i)]⟩
noncomputable def errI(x:XD):Option Nat:=match x.fs with
 | [(_,.obj i)]=>some i
 | _=>none
noncomputable def ErrK(K:W.Frag)(mg:Str->Option Value)(ρz:Rho)(Sz:Addr->Bool)(Hz:Hp)(F:Addr->Bool)(Ω':Sto)(x:XD)(E:XK):Prop :=
 ∀ i a C od ρ' S' H',errI x=some i->RT ρz Sz Hz F K mg ρ' S' H' Ω'->ρ' i=some a->H' a=some (XO a C od false)->E (.ref a) od H'
noncomputable def OkR(K:W.Frag)(mg:Str->Option Value)(O' B:List Nat)(ρz:Rho)(Sz:Addr->Bool)(Hz:Hp)(F:Addr->Bool)(ρ:Rho)(Hv:Hp)(Dn:Ends)(E:XK)(r:Except XD Out)(Ω':Sto):Prop:=match r with
 | .ok o=>OkE K mg O' B ρz Sz Hz F ρ Hv Dn (.ok o) Ω'
 | .error x=>ErrK K mg ρz Sz Hz F Ω' x E
theorem OkR.back{K:W.Frag}{mg:Str->Option Value}{O' B:List Nat}{ρz ρ ρ':Rho}{Sz:Addr->Bool}{Hz:Hp}{F:Addr->Bool}{Hv Hv':Hp}{Dn:Ends}{E:XK}{r:Except XD Out}{Ω':Sto}(l:RLe ρ ρ')(e:Same Hv Hv')(h:OkR K mg O' B ρz Sz Hz F ρ Hv Dn E r Ω') :
  OkR K mg O' B ρz Sz Hz F ρ' Hv' Dn E r Ω':=by
 cases r with
 | error x=>exact h
 | ok o=>exact OkE.back l e h
inductive sR(K:W.Frag)(mg:Str->Option Value)(O O' B:List Nat)(g:DSt->MS Out)(E:XK)(Dn:Ends)(σ:St)(H:Hp):Prop
 | mk (ρz:Rho) (Sz:Addr->Bool) (Hz:Hp) (F:Addr->Bool) (ρ:Rho) (S:Addr->Bool) (δ:DSt) (Ω:Sto) (R:RM ρz Sz Hz F K mg O ρ S H σ δ Ω) (r:Except XD Out) (Ω':Sto) (hf:g δ Ω=some (r,Ω')) (k:OkR K mg O' B ρz Sz Hz F ρ (hid H (fob (un F S) σ O)) Dn E r Ω')
noncomputable def MSr(X:Cx)(O O' B:List Nat)(E:XK)(st:Stmt)(g:DSt->MS Out):Prop:=PS X st (sR X.K X.mg O O' B g E)
noncomputable def MSsr(X:Cx)(O O' B:List Nat)(E:XK)(st:List Stmt)(g:DSt->MS Out):Prop:=PSs X st (sR X.K X.mg O O' B g E)
noncomputable def Wx(X:Cx)(E:XK):Prop:=∀ pins σ e s,Back X pins σ E e s->X.xe e s
noncomputable def jny(cs:List Str)(i:Nat):MS Out:=fun Ω=>match Ω[i]? with
 | some (.exc c (j,true))=>if cs.contains c then some (.error (xdO i),Ω.set i (.exc c (j,false))) else none
 | _=>none
noncomputable def jnh(cs:List Str)(fa:DSt->MS D):DSt->MS Out:=fun δ=>(fa δ).b fun d=>match d with
 | .obj i=>jny cs i
 | _=>fun _=>none
inductive RaiseI(cs:List Str)(d:D)(Ω Ω':Sto)(r:Except XD Out):Prop
 | mk (i:Nat) (c:Str) (j:Option Nat) (h1:d=.obj i) (h2:Ω[i]? = some (.exc c (j,true))) (h3:c∈cs) (h4:r=.error (xdO i)) (h5:Ω'=Ω.set i (.exc c (j,false)))
theorem jrh{cs:List Str}{d:D}{Ω Ω':Sto}{r:Except XD Out}(h:(match d with
 | .obj i=>jny cs i
 | _=>fun _=>none:MS Out) Ω=some (r,Ω')):RaiseI cs d Ω Ω' r:=by
 split at h
 ·rename_i i;unfold jny at h
  split at h
  ·rename_i c j hi
   split at h
   ·rename_i hc;cases h;exact⟨i,c,j,rfl,hi,zbc.mp hc,rfl,rfl⟩
   ·cases h
  ·cases h
 ·cases h
section
variable {X:Cx}{O O' O'' B:List Nat}{E:XK}{a c e o iter tg:Expr}{fa:DSt->MS D}{fi:DSt->MS (List D)}{pos:Pos}{st:Stmt}{rest:List Stmt}{g g1 g2:DSt->MS Out}{tc:DSt->MS Bool}{cs fs:List Str}{bn:Str}
theorem jqt(h:MSs X O O' B rest g):MSsr X O O' B E rest g:=by
 rintro pins s σ H Dn I ⟨ρz,Sz,Hz,F,ρ,S,δ,Ω,R,r,Ω',hf,k⟩;refine h pins s σ H Dn I ⟨ρz,Sz,Hz,F,ρ,S,δ,Ω,R,r,Ω',hf,?_⟩
 cases r with
 | ok o=>exact k
 | error x=>trivial
theorem jqs(h1:MSr X O O' B E st g1)(h2:MSsr X O' O'' B E rest g2):MSsr X O O'' B E (st::rest) (eSeq g1 g2):=by
 rintro pins s σ H Dn I ⟨ρz,Sz,Hz,F,ρ,S,δ,Ω,R,r,Ω',hf,k⟩;refine jkk h1 h2 pins s σ H Dn I ?_;rcases MS.b_inv hf with ⟨o,Ω1,e1,hf⟩|⟨x,e1,rfl⟩
 ·refine⟨ρz,Sz,Hz,F,ρ,S,δ,Ω,R,.ok o,Ω1,e1,?_⟩
  cases o with
  | nx δ'=>exact fun ρ1 S1 σ1 H1 R1 l1 v1=>⟨ρz,Sz,Hz,F,ρ1,S1,δ',Ω1,R1,r,Ω',hf,k.back l1 v1⟩
  | rt d=>cases hf;exact k
  | bk δ'=>cases hf;exact k
  | ct δ'=>cases hf;exact k
 ·exact⟨ρz,Sz,Hz,F,ρ,S,δ,Ω,R,.error x,_,e1,k⟩
theorem jgv(h1:MSr X O O' B E st g):MSsr X O O' B E [st] g:=fun pins s σ H Dn I h=>jis h1 pins s σ H Dn I h
theorem juq{s1 s2:List Stmt}(hc:MT X O c tc)(h1:MSsr X O O' B E s1 g1)(h2:MSsr X O O' B E s2 g2):MSr X O O' B E (.If c s1 s2 pos) (eIf tc g1 g2):=by
 rintro pins s σ H Dn I ⟨ρz,Sz,Hz,F,ρ,S,δ,Ω,R,r,Ω',hg,k⟩;refine jxc hc h1 h2 pins s σ H Dn I ?_;rcases MS.b_inv hg with ⟨z,Ω1,e1,hg⟩|⟨x,e1,rfl⟩
 ·refine⟨ρz,Sz,Hz,F,ρ,S,δ,Ω,R,.ok z,_,e1,fun ρ1 S1 H1 R1 l1 v1=>?_⟩
  cases z with
  | true=>exact iteT ⟨ρz,Sz,Hz,F,ρ1,S1,δ,Ω1,R1,r,Ω',hg,k.back l1 v1⟩
  | false=>exact iteF ⟨ρz,Sz,Hz,F,ρ1,S1,δ,Ω1,R1,r,Ω',hg,k.back l1 v1⟩
 ·exact⟨ρz,Sz,Hz,F,ρ,S,δ,Ω,R,.error x,_,e1,trivial⟩
theorem jwq{body:List Stmt}{h:D->DSt->Option DSt}(hp:PassesOwn (model X.prog X.w) X.A X.env X.xe)(hc:X.calm=true)(hi:MI X O tg iter fi)(hg:DG X O tg h)(hb:MSsr X O O O E body g)
  (hs:autoParam (∀ x,foldedSetIterable iter X.env x=pure x) zau3._auto_1):MSr X O O B E (.For tg iter body [] pos) (eFor fi h g):=by
 rintro pins s σ H Dn I ⟨ρz,Sz,Hz,F,ρ,S,δ,Ω,R,r,Ω',hgf,k⟩;refine jrc hp hc hi hg hb hs pins s σ H Dn I ?_;rcases MS.b_inv hgf with ⟨ds,Ω1,e1,hgf⟩|⟨y,e1,rfl⟩
 ·refine⟨ρz,Sz,Hz,F,ρ,S,δ,Ω,R,.ok ds,Ω1,e1,fun J ρ1 S1 H1 R1 l1 v1 it=>?_⟩;refine⟨fun i m σ' H'=>m=ds.length-i/\i<=ds.length/\∃ ρ' S' δ' Ω2,RM ρz Sz Hz F X.K X.mg O ρ' S' H' σ' δ' Ω2/\RLe ρ1 ρ'/\Same (hid H1 (fob (un F S1) σ O)) (hid H' (fob (un F S') σ' O))/\forE g h (ds.drop i) δ' Ω2=some (r,Ω'),
   ⟨ds.length,by simp,Nat.zero_le _,ρ1,S1,δ,Ω1,R1,RLe.refl _,Same.refl _,hgf⟩,?_⟩
  rintro i m σ' H' ⟨rfl,hil,ρ',S',δ',Ω2,R',l',f',hr⟩;obtain⟨j1,j2⟩:=it H' (fob (un F S') σ' O) i f' (fun p hp=>R'.fresh hp)
  by_cases hlt:i<ds.length
  ·obtain⟨go,yld⟩:=j1 hlt;refine .inr ⟨go,fun σ2 H2=>∃ ρ2 S2 δ2 Ω3,RM ρz Sz Hz F X.K X.mg O ρ2 S2 H2 σ2 δ2 Ω3/\RLe ρ1 ρ2/\Same (hid H1 (fob (un F S1) σ O)) (hid H2 (fob (un F S2) σ2 O))/\forE g h (ds.drop (i+1)) δ2 Ω3=some (r,Ω'),fun σ2 H2 ⟨ρ2,S2,δ2,Ω3,a1,a2,a3,a4⟩=>⟨ds.length-(i+1),by omega,rfl,hlt,ρ2,S2,δ2,Ω3,a1,a2,a3,a4⟩,fun x H2 y=>?_⟩;obtain⟨s2,d,hd,rd⟩:=yld x H2 y;have hdr:ds.drop i=d::ds.drop (i+1):=by
    rw[List.drop_eq_getElem_cons hlt];have:ds[i]=d:=by rw[zax hlt] at hd;exact zby hd
    rw[this]
   rw[hdr] at hr;unfold forE at hr
   cases e2:h d δ' with
   | none=>rw[e2] at hr;cases hr
   | some δ1 =>
    rw[e2] at hr;dsimp only at hr;have R2:=R'.mono s2;have f2:Same (hid H1 (fob (un F S1) σ O)) (hid H2 (fob (un F S') σ' O)):=f'.trans (jap s2);refine⟨ρ',_,un F S',δ',d,δ1,R2.rs,rd.rho l',e2,fun σ3 ef R3=>?_⟩;have R3':RM ρz Sz Hz F X.K X.mg O ρ' S' H2 σ3 δ1 Ω2:=R2.next R3 (by rw[ef];exact Same.refl _);rcases MS.b_inv hr with ⟨o,Ω3,e3,hr⟩|⟨y,e3,rfl⟩
    ·refine⟨ρz,Sz,Hz,F,ρ',S',δ1,Ω2,R3',.ok o,Ω3,e3,?_⟩;rw[ef]
     cases o with
     | nx δ4=>exact fun ρ4 S4 σ4 H4 R4 l4 v4=>⟨ρ4,S4,δ4,Ω3,R4,l'.trans l4,f2.trans v4,hr⟩
     | ct δ4=>exact fun ρ4 S4 σ4 H4 R4 l4 v4=>⟨ρ4,S4,δ4,Ω3,R4,l'.trans l4,f2.trans v4,hr⟩
     | bk δ4=>cases hr;exact fun ρ4 S4 σ4 H4 R4 l4 v4=>k ρ4 S4 σ4 H4 R4 (l1.trans (l'.trans l4)) (v1.trans (f2.trans v4))
     | rt v=>cases hr;exact k
    ·exact⟨ρz,Sz,Hz,F,ρ',S',δ1,Ω2,R3',.error y,_,e3,k⟩
  ·have ei:i=ds.length:=by omega
   subst ei;rw[List.drop_length] at hr;cases hr;exact .inl ⟨j2 rfl,k ρ' S' σ' H' R' (l1.trans l') (v1.trans f')⟩
 ·exact⟨ρz,Sz,Hz,F,ρ,S,δ,Ω,R,.error y,_,e1,trivial⟩
theorem jlc(T:ErrT X.K X.mg cs fs bn)(hc:X.calm=true)(hx:Wx X E)(ha:ME X O e fa):MSr X O O' B E (.Raise (some e) none pos) (jnh cs fa):=by
 rintro pins s σ H Dn I ⟨ρz,Sz,Hz,F,ρ,S,δ,Ω,R,r,Ω',hg,k⟩;refine jtq ha hc pins s σ H Dn I ?_;rcases MS.b_inv hg with ⟨d,Ω1,e1,hg⟩|⟨x,e1,rfl⟩
 ·refine⟨ρz,Sz,Hz,F,ρ,S,δ,Ω,R,.ok d,Ω1,e1,fun v ρ1 S1 H1 R1 l1 v1 r1=>?_⟩;obtain⟨i,c,j,rfl,hi,hcs,rfl,rfl⟩:=jrh hg;obtain⟨ad,q1,q2⟩:=rep_obj.mp r1;obtain⟨ad',p1,p2,p3⟩:=R1.sto.ats i _ hi;rw[q1] at p1;cases p1
  have fin:∀ C od,X.mg c=some (.ref C)->H1 ad=some (XO ad C od true)->SOk ρ1 S1 X.K X.mg (upd H1 ad (XO ad C od false)) (hid H1 (fob (un F S1) σ O)) ad (.exc c (j,false)) ->
    ∃ a C od,v=.ref a/\H1 a=some (XO a C od true)/\XCls X.K C/\∀ pins s,Inv X pins σ (upd H1 a (XO a C od false)) s->Fly (upd H1 a (XO a C od false)) a C od s->X.xe (.ref a) s:=fun C od g1 g2 g3=>by
   refine⟨ad,C,od,q2,g2,T.cls c hcs C g1,fun pins' s' J Fl=>?_⟩;obtain⟨w1,w2⟩:=R1.putS (so':=.exc c (j,false)) (o':=XO ad C od false) hi q1 p2 g2 ju8 g3;exact hx pins' σ _ s' ⟨ad,C,od,_,_,rfl,J,Fl,fun _ _ z=>z,k i ad C od ρ1 S1 _ rfl w1.rt q1 jao⟩
  cases p3 with
  | no f C g1 g2=>exact fin C none g1 g2 (ExcOk.no false C g1 jao)
  | yes f j C dx g1 g2 g3=>exact fin C (some dx) g1 g3 (ExcOk.yes false j C dx g1 g2 jao)
 ·exact⟨ρz,Sz,Hz,F,ρ,S,δ,Ω,R,.error x,_,e1,trivial⟩
end
inductive spR(K:W.Frag)(mg:Str->Option Value)(n:Nat)(m:List D->MS D)(vs:List V)(H:Hp)(Q:VK)(E:XK):Prop
 | mk (hn:vs.length=n) (ρ:Rho) (S F:Addr->Bool) (ds:List D) (Ω:Sto) (hF:∀ b,F b=true->H b≠none) (hS:∀ b,F b=true->S b=false) (hr:Reps ρ K (hid H (un F S)) ds vs) (hs:StoOk ρ S K mg H (hid H (un F S)) Ω) (r:Except XD D) (Ω':Sto) (hf:m ds Ω=some (r,Ω')) (k:match (generalizing:=false) r with
  | .ok d=>∀ v ρ' S' H',RT ρ S H F K mg ρ' S' H' Ω'->Rep ρ' K (hid H' (un F S')) d v->Q v H'
  | .error x=>ErrK K mg ρ S H F Ω' x E)
inductive CalY(P:Program)(w:World)(K:W.Frag)(mg:Str->Option Value)(base:Heap)(k:Nat)(x:Str)(n:Nat)(sp:Sp):Prop
 | mk (f:Addr) (fd:FuncData) (ps:List Str) (h1:ps.length=n) (h2:mg x=some (.ref f)) (h3:W.keepIn K (.ref f)=true) (h4:Binds K fd ps []) (h5:FnOk P w K mg base (CX1 P w) k f fd ps sp)
inductive MetY(P:Program)(w:World)(K:W.Frag)(mg:Str->Option Value)(base:Heap)(k:Nat)(c x:Str)(n:Nat)(sp:Sp):Prop
 | mk (C f:Addr) (fd:FuncData) (ps:List Str) (h1:ps.length=n) (h2:mg c=some (.ref C)) (h3:Cls K C) (h4:Meth K C x f) (h5:Binds K fd ps []) (h6:FnOk P w K mg base (CX1 P w) k f fd ps sp)
structure CalR(P:Program)(w:World)(K:W.Frag)(mg:Str->Option Value)(base:Heap)(k:Nat)(x:Str)(n:Nat)(m:List D->MS D):Prop where
 ex:CalY P w K mg base k x n (spR K mg n m)
 ar:∀ ds Ω r,m ds Ω=some r->ds.length=n
structure MetR(P:Program)(w:World)(K:W.Frag)(mg:Str->Option Value)(base:Heap)(k:Nat)(c x:Str)(n:Nat)(m:List D->MS D):Prop where
 ex:MetY P w K mg base k c x n (spR K mg n m)
 ar:∀ ds Ω r,m ds Ω=some r->ds.length=n
section
variable {P:Program}{w:World}{K:W.Frag}{mg:Str->Option Value}{base:Heap}
theorem jxw{N:List Str}{qual:Str}{scope:Scope}{f:Addr}{cd:Value}{A:Around}{outer:List Env}{s:Shared}{H:Hp}{E:XK}:Wx (cxOf (CX1 P w) P w K mg base N qual scope f cd A outer s H E) E:=fun _ _ _ _ B=>jzh B
theorem fn_R{x q:Str}{st:Stmt}{N ps:List Str}{k:Nat}{O':List Nat}{g:DSt->MS Out}{f:Addr}{fd:FuncData}(F:Fun K x q st f fd)(Sc:FnScope N ps (jae st))
  (hbody:∀ (f:Addr) (cdv:Value) (A:Around) (outer:List Env) (s:Shared) (H:Hp) (E:XK),Room k (A.deeper (PyProof.Rows.envOfC q (jae st) s.heap.objs.size f cdv)) ->
   MSsr (cxOf (CX1 P w) P w K mg base N q (jae st) f cdv A outer s H E) [] O' [] E (jak st) g):FnOk P w K mg base (CX1 P w) (k+1) f fd ps (spR K mg ps.length (mirE ps.length N.length g)):=by
 obtain⟨oc,od,kV,doc,pm,an,cdv,ct,osl,rfl,lk,hcd⟩:=F.ex;refine jv1 lk hcd Sc (fun vs H Q E h=>h.1) fun A outer s H vs Q E hr h=>?_
 obtain⟨hl,ρ,S,F',ds,Ω,fin,ff,rp,sto,r,Ω',hmr,k0⟩:=h;refine⟨_,hbody f cdv A outer s H E hr,?_⟩;have hpl:ps.length<=N.length:=by have:=congrArg List.length Sc.pre;rw[List.length_take] at this;omega
 have hdl:ds.length=ps.length:=by rw[<- rp.length];exact hl
 unfold mirE at hmr;rw[if_pos hdl] at hmr;have R:RM ρ S H F' K mg [] ρ S H (L2.start N vs) (startD N.length ds) Ω:=by
  refine⟨⟨?_,jaj,fun b hb=>?_,fun i d hd _=>?_,fun i hi=>absurd hi (by simp),fun i hi=>absurd hi (by simp)⟩,RLe.refl _,fun b o _ h=>h,fun b h=>h,fun b h=>.inl h,fun i hi=>absurd hi (by simp),ff,by rw[jdo];exact sto⟩
  ·simp[L2.start,startD,rp.length]
  ·rcases un_t.mp hb with z|z
   ·exact fin b z
   ·exact sto.fin b z
  ·obtain⟨v,e,rv⟩:=rp.get (jf0 hd);exact⟨v,jgy e,by rw[jdo];exact rv⟩
 rcases MS.b_inv hmr with ⟨o,Ω1,e1,hmr⟩|⟨y,e1,rfl⟩
 ·refine⟨ρ,S,H,F',ρ,S,_,Ω,R,.ok o,Ω1,e1,?_⟩
  cases o with
  | rt d =>
   cases hmr;exact fun v ρ' S' H' T rv=>k0 v ρ' S' H' T rv
  | nx δ =>
   cases hmr;exact fun ρ' S' σ' H' R' _ _=>k0 .non ρ' S' H' R'.rt (rep_non.mpr rfl)
  | bk δ=>cases hmr
  | ct δ=>cases hmr
 ·exact⟨ρ,S,H,F',ρ,S,_,Ω,R,.error y,_,e1,k0⟩
theorem jpg{x:Str}{st:Stmt}{N ps:List Str}{k:Nat}{O':List Nat}{g:DSt->MS Out}(hf:jb7 K mg x st ps)(S:FnScope N ps (jae st))
  (hbody:∀ (f:Addr) (cdv:Value) (A:Around) (outer:List Env) (s:Shared) (H:Hp) (E:XK),Room k (A.deeper (PyProof.Rows.envOfC x (jae st) s.heap.objs.size f cdv)) ->
   MSsr (cxOf (CX1 P w) P w K mg base N x (jae st) f cdv A outer s H E) [] O' [] E (jak st) g):CalR P w K mg base (k+1) x ps.length (mirE ps.length N.length g):=by
 obtain⟨f,fd,hm,F,hb⟩:=hf;exact⟨⟨f,fd,ps,rfl,hm,F.kp,hb,fn_R F S hbody⟩,jmg⟩
end
section
variable {X:Cx}{O B:List Nat}{E:XK}{a b e:Expr}{es:List Expr}{fl:DSt->MS (List D)}{pos p:Pos}{x c:Str}{k n:Nat}
variable {ρz ρ:Rho}{Sz S F:Addr->Bool}{Hz H:Hp}{σ:St}{δ:DSt}{Ω Ω':Sto}
theorem jrs{m:List D->MS D}{ds:List D}{vs:List V}{r:Except XD D}{Q:VK}(R:RM ρz Sz Hz F X.K X.mg O ρ S H σ δ Ω)(hl:ds.length=n)(hr:Reps ρ X.K (hid H (fob (un F S) σ O)) ds vs)(hm:m ds Ω=some (r,Ω'))
  (k:match (generalizing:=false) r with
   | .ok d=>∀ v ρ' S' H',RM ρz Sz Hz F X.K X.mg O ρ' S' H' σ δ Ω'->RLe ρ ρ'->Same (hid H (fob (un F S) σ O)) (hid H' (fob (un F S') σ O))->Rep ρ' X.K (hid H' (fob (un F S') σ O)) d v->Q v H'
   | .error x=>∀ i a C od ρ' S' H',errI x=some i->RM ρz Sz Hz F X.K X.mg O ρ' S' H' σ δ Ω'->RLe ρ ρ'->Same (hid H (fob (un F S) σ O)) (hid H' (fob (un F S') σ O))->ρ' i=some a->H' a=some (XO a C od false)->E (.ref a) od H'):spR X.K X.mg n m vs H Q E:=by
 refine⟨by rw[hr.length];exact hl,ρ,S,fob F σ O,ds,Ω,fun b hb=>?_,fun b hb=>?_,by rw[jd8];exact hr,by rw[jd8];exact R.sto,r,Ω',hm,?_⟩
 ·intro z;have:=R.fresh z;rw[<- jd8,un_t.mpr (.inl hb)] at this;cases this
 ·rcases fob_t.mp hb with z|z
  ·exact R.ff b z
  ·cases e:S b with
   | false=>rfl
   | true=>exact absurd z (R.base_S e)
 ·cases r with
  | error x =>
   intro i a C od ρ' S' H' hx T hρ hH;obtain⟨t1,t2⟩:=R.call T.rho T.same T.old T.new T.ff T.sto;exact k i a C od ρ' S' H' hx t1 T.rho t2 hρ hH
  | ok d =>
   intro v ρ' S' H' T rv;obtain⟨t1,t2⟩:=R.call T.rho T.same T.old T.new T.ff T.sto;rw[jd8] at rv;exact k v ρ' S' H' t1 T.rho t2 rv
theorem jqr{m:List D->MS D}{spos:Pos}(C:CalR X.prog X.w X.K X.mg X.base k x n m)(hr:Room k X.A)(hx:Wx X E)(ha:MA X O (e::es) fl)(hg:autoParam (Gl X x) zau2._auto_1)(hdb:autoParam ((x == ("__debug__":Str))=false) zau1._auto_1)(he:autoParam (starEach (e::es) X.env=(false,eval e X.env)::starEach es X.env) zau2._auto_1)
  (hpl:autoParam ((backTo pos (starEach es X.env)).any (·.1)=false) zau2._auto_1) (hs:autoParam (swapsWith (.Call (.Name x p) (e::es) [] pos) none spos.line X.env=pure false) zau2._auto_1):MSr X O O B E (.Expr (.Call (.Name x p) (e::es) [] pos) spos) (jl6 (jdp m fl)):=by
 obtain⟨f,fd,ps,hl,hm,hk,hb,G⟩:=C.ex;rintro pins s σ H Dn I ⟨ρz,Sz,Hz,F,ρ,S,δ,Ω,R,r,Ω',hf,k⟩;refine jmp (jhb G hr hg hm hk hb .nil (fun pins σ H s e s' I c=>hx pins σ e s' (jpb I c)) ha hdb he hpl) hs pins s σ H Dn I ?_;have go:∀ {ds:List D} {Ω1:Sto},fl δ Ω=some (.ok ds,Ω1)->(∀ vs ρ1 S1 H1,RM ρz Sz Hz F X.K X.mg O ρ1 S1 H1 σ δ Ω1->RLe ρ ρ1->Same (hid H (fob (un F S) σ O)) (hid H1 (fob (un F S1) σ O))->Reps ρ1 X.K (hid H1 (fob (un F S1) σ O)) ds vs->spR X.K X.mg n m (vs++[]) H1 (fun _ H2=>Dn.nx σ H2) E)->jAx (jrv (spR X.K X.mg n m) [] E (tEL X.K X.mg O fl)) Dn σ H:=fun e1 q =>
  ⟨ρz,Sz,Hz,F,ρ,S,δ,Ω,R,.ok _,_,e1,q⟩
 rcases MS.b_inv hf with ⟨d,Ω2,e2,hf⟩|⟨y,e2,rfl⟩
 ·cases hf;rcases MS.b_inv e2 with ⟨ds,Ω1,e1,e3⟩|⟨y,e1,z⟩
  ·refine go e1 fun vs ρ1 S1 H1 R1 l1 v1 r1=>?_
   rw[List.append_nil];exact jrs R1 (C.ar ds Ω1 _ e3) r1 e3 fun v ρ2 S2 H2 R2 l2 v2 r2=>k ρ2 S2 σ H2 R2 (l1.trans l2) (v1.trans v2)
  ·cases z
 ·rcases MS.b_inv e2 with ⟨ds,Ω1,e1,e3⟩|⟨y,e1,z⟩
  ·refine go e1 fun vs ρ1 S1 H1 R1 l1 v1 r1=>?_
   rw[List.append_nil];exact jrs R1 (C.ar ds Ω1 _ e3) r1 e3 fun i a C od ρ2 S2 H2 hi R2 l2 v2 hρ hH=>k i a C od ρ2 S2 H2 hi R2.rt hρ hH
  ·exact⟨ρz,Sz,Hz,F,ρ,S,δ,Ω,R,.error _,_,e1,trivial⟩
end
structure ErrM(K:W.Frag)(mg:Str->Option Value)(cs:List Str)(b:Str):Prop where
 atb:∃ C,mg b=some (.ref C)
 ex:∀ c∈cs,∀ C,mg c=some (.ref C)->∀ D,mg b=some (.ref D)->W.exmOne K (.ref C) (.ref D)=some true
noncomputable def jA6(K:W.Frag)(es:List (Str×Addr))(B:Addr):Bool:=es.all fun p=>W.exmOne K (.ref p.2) (.ref B) == some true
theorem jvy{K:W.Frag}{mg:Str->Option Value}{es:List (Str×Addr)}{B:Addr}{b:Str}(hm:∀ p∈es,mg p.1=some (.ref p.2))(hb:mg b=some (.ref B))(h:jA6 K es B=true):ErrM K mg (es.map (·.1)) b:=by
 refine⟨⟨B,hb⟩,fun c hc C hC D hD=>?_⟩;rw[hb] at hD;cases hD;obtain⟨p,hp,rfl⟩:=List.mem_map.mp hc;rw[hm p hp] at hC;cases hC;exact beq_iff_eq.mp (List.all_eq_true.mp h p hp)
noncomputable def jm9(cs:List Str)(j l:Nat)(δ:DSt)(y:XD)(Ω':Sto):Option (Except XD Out×Sto):=match errI y with
 | some q=>match Ω'[q]? with
  | some (.exc c (_,false))=>if cs.contains c then some (.ok (.nx (((δ.set j (some (.obj q))).set l (some (.obj q))).set j none)),Ω') else none
  | _=>none
 | none=>none
inductive CaughtI(cs:List Str)(j l:Nat)(δ:DSt)(y:XD)(Ω Ω':Sto)(r:Except XD Out):Prop
 | mk (q:Nat) (c:Str) (jj:Option Nat) (h1:errI y=some q) (h2:Ω[q]? = some (.exc c (jj,false))) (h3:c∈cs) (h4:r=.ok (.nx (((δ.set j (some (.obj q))).set l (some (.obj q))).set j none))) (h5:Ω'=Ω)
theorem jod{cs:List Str}{j l:Nat}{δ:DSt}{y:XD}{Ω Ω':Sto}{r:Except XD Out}(h:jm9 cs j l δ y Ω=some (r,Ω')):CaughtI cs j l δ y Ω Ω' r:=by
 unfold jm9 at h
 split at h
 ·rename_i q hq
  split at h
  ·rename_i c jj hi
   split at h
   ·rename_i hc;cases h;exact⟨q,c,jj,hq,hi,zbc.mp hc,rfl,rfl⟩
   ·cases h
  ·cases h
 ·cases h
section
variable {ρz ρ:Rho}{Sz S F:Addr->Bool}{Hz H:Hp}{K:W.Frag}{mg:Str->Option Value}{O:List Nat}{σ:St}{δ:DSt}{Ω:Sto}
theorem jeo{F:Addr->Bool}{j:Nat}(h:j∉O):fob F (σ.set j none) O=fob F σ O:=by
 funext b
 rw[Bool.eq_iff_iff,fob_t,fob_t];refine or_congr Iff.rfl ⟨?_,?_⟩
 ·rintro⟨i,hi,q⟩;rw[zbw (by rintro rfl;exact h hi)] at q;exact⟨i,hi,q⟩
 ·rintro⟨i,hi,q⟩;exact⟨i,hi,by rw[zbw (by rintro rfl;exact h hi)];exact q⟩
theorem RM.unset(R:RM ρz Sz Hz F K mg O ρ S H σ δ Ω){j:Nat}(ho:j∉O):RM ρz Sz Hz F K mg O ρ S H (σ.set j none) (δ.set j none) Ω:=by
 have ne:∀ i∈O,j≠i:=fun i hi e=>ho (e ▸ hi)
 refine⟨⟨by simp[R.rs.len],?_,R.rs.fin,fun i d hd hi=>?_,fun i hi=>?_,fun i hi k hk a q1 q2=>?_⟩,R.rho,R.same,R.old,R.new,fun i hi a q=>?_,R.ff,by rw[jeo ho];exact R.sto⟩
 ·rw[jeo ho];exact R.rs.same
 ·rw[jeo ho];have hij:j≠i:=fun z=>by
   subst z
   by_cases q:j<δ.length
   ·rw[zcz q] at hd;cases hd
   ·rw[List.getElem?_eq_none (by simpa using q)] at hd;cases hd
  rw[zbw hij] at hd |-
  exact R.rs.val i d hd hi
 ·rw[zbw (ne i hi),zbw (ne i hi),jeo ho,jeo ho];exact R.rs.own i hi
 ·rw[zbw (ne i hi)] at q1;rw[zbw (ne k hk)] at q2;exact R.rs.nd i hi k hk a q1 q2
 ·rw[zbw (ne i hi)] at q;exact R.own0 i hi a q
end
section
end
end DL
namespace L2
open PySem PySem.Spec PyProof.Rows
open PySem.W (Frag InstAt Looks findIn mroIn clsIn)
section
variable {X:Cx}{CX:CXT}{k:Nat}{f:Addr}{fd:FuncData}{ps:List Str}{sp:Sp}{E:XK}{x:Str}{p pos:Pos}{e:Expr}{es:List Expr}{t:TA}
theorem jy2{pins:List (Addr×Obj)}{σ:St}{H:Hp}{s:Shared}{Q:VK}(F:FnOk X.prog X.w X.K X.mg X.base CX k f fd ps sp)(hr:Room k X.A)(hg:Gl X x)(hm:X.mg x=some (.ref f))(hk:W.keepIn X.K (.ref f)=true)(hb:Binds X.K fd ps [])
  (hx:∀ H1 s1 e s',Inv X pins σ H1 s1->CX X.stack H1 s1 E e s'->X.xe e s') (ha:PA X (e::es) t) (hdb:(x == ("__debug__":Str))=false) (he:starEach (e::es) X.env=(false,eval e X.env)::starEach es X.env) (hpl:(backTo pos (starEach es X.env)).any (·.1)=false)
  (I:Inv X pins σ H s) (h:jrv sp [] E t σ H Q):wpAny (model X.prog X.w) X.A (eval (.Call (.Name x p) (e::es) [] pos) X.env) (EP X pins σ Q) X.xe s:=by
 refine wpAny_Call_Name_kw (jg6 I hg hm ?_ hdb);refine W.callWith_K (h₀:=X.base) I.ok.mod.kin hk (thn (ha pos pins s σ H _ I h) fun us s1 ⟨vs,H1,I1,r,q⟩=>⟨I1.kIn,?_⟩) he hpl;have q3:sp (vs++[]) H1 Q E:=q;rw[List.append_nil] at q3;exact jAr F hr hb hx I1 r q3
inductive tTryF(K:Frag)(sp:Sp)(t:TA)(Bc:Addr)(j l:Nat)(D:Ends)(σ:St)(H:Hp):Prop
 | mk (Er:Addr->Addr->Option Addr->Hp->Prop) (h1:jrv sp [] (EX Er) t σ H fun v H1=>D.nx σ H1)
  (h2:∀ a C' od H1,H1 a=some (XO a C' od false)->Er a C' od H1->(∃ C2 od2,H1 a=some (XO a C2 od2 false)/\W.exmOne K (.ref C2) (.ref Bc)=some true)/\∀ H2,(∀ b o,H1 b=some o->H2 b=some o)->D.nx (((σ.set j (some (.ref a))).set l (some (.ref a))).set j none) H2)
theorem jxd{B n y:Str}{Bc:Addr}{j l:Nat}{np hpos py pn ypos spos tpos:Pos}(F:FnOk X.prog X.w X.K X.mg X.base (CX1 X.prog X.w) k f fd ps sp)(hr:Room k X.A)(hgx:Gl X x)(hmx:X.mg x=some (.ref f))(hk:W.keepIn X.K (.ref f)=true)(hb:Binds X.K fd ps [])(ha:∀ W,PA (X.wish W) (e::es) t)
  (hst:X.stack=X.env::X.outer) (hfr:X.env.frame=some X.env.locals) (hg:Gl X B) (hmB:X.mg B=some (.ref Bc)) (hN:X.N.Nodup) (hj:X.N[j]? = some n) (hn:X.env.scope.names.lookup n=some .local) (hl:X.N[l]? = some y) (hy:X.env.scope.names.lookup y=some .local) (hjl:j≠l)
  (hdx:(x == ("__debug__":Str))=false) (hdb:(B == ("__debug__":Str))=false) (hnd:(n == ("__debug__":Str))=false) (hncd:(n == ("__classdict__":Str))=false) (hs:swapsWith (.Name n pn) (some (.Name y py)) ypos.line X.env=pure false)
  (hs1:swapsWith (.Call (.Name x p) (e::es) [] pos) none spos.line X.env=pure false) (hse:starEach (e::es) X.env=(false,eval e X.env)::starEach es X.env) (hpl:(backTo pos (starEach es X.env)).any (·.1)=false) :
  PS X (.Try [.Expr (.Call (.Name x p) (e::es) [] pos) spos] [.ExceptHandler (some (.Name B np)) (some n) [.Assign [.Name y py] (.Name n pn) ypos] hpos] [] [] tpos) (tTryF X.K sp t Bc j l):=by
 rintro pins s σ H D I ⟨Er,h1,h2⟩;refine wpAny_Try_except ?_;generalize hW:(fun (e:Value) (s₁:Shared)=>wpAny (model X.prog X.w) X.A (noteFrame e X.env) (fun _ s₂=>wpAny (model X.prog X.w) X.A (setFlight e none) (fun _ s₃=>wpAny (model X.prog X.w) X.A (handleBy e X.env [.ExceptHandler (some (.Name B np)) (some n) [.Assign [.Name y py] (.Name n pn) ypos] hpos]) (SP X pins D) X.xe s₃) X.xe s₂) X.xe s₁)=W;have hxW:∀ H1 s1 e s',Inv (X.wish W) pins σ H1 s1->CX1 X.prog X.w X.stack H1 s1 (EX Er) e s'->W e s':=fun H1 s1 e' s' I1 hc=>by
  obtain⟨a,C',od,Ha,H2,rfl,J,Fl,g7,a2,C2,g8,g9,g10⟩:=jpb (X:=X) I1.unwish hc;cases g8;rw[<- hW];have e1:H2 a=some (XO a C' od false):=by obtain⟨e1,_⟩:=Fl;exact e1
  obtain rfl:C'=C2:=ju7 J e1 (g7 _ _ g9);obtain⟨⟨C3,od3,g11,q1⟩,q2⟩:=h2 a C' od Ha g9 g10;obtain rfl:C'=C3:=ju7 J e1 (g7 _ _ g11);refine jz6 J Fl hst hfr I.ok.frames fun T h' hT J2 F2=>?_
  refine jv5 J2 F2 q1 hg hmB hdb hN hj hn hl hy hjl hnd hncd hs fun s5 J5=>?_
  refine⟨_,_,J5,q2 _ fun b ob q=>?_⟩;rw[jah (fun z=>by rw[z] at q;rw[g7 _ _ q] at hT;cases hT)];exact g7 b ob q
 have I1:Inv (X.wish W) pins σ H s:=I.wish W;have body:wpAny (model X.prog X.w) X.A (exec (.Expr (.Call (.Name x p) (e::es) [] pos) spos) X.env) (SP (X.wish W) pins D) W s :=
  wpAny_Expr_any (thn (jy2 (X:=X.wish W) F hr hgx hmx hk hb hxW (ha W) hdx hse hpl I1 h1) fun v s1 ⟨z,H1,J1,rz,q⟩=>⟨σ,H1,J1,q⟩) I1.quiet hs1
 refine wpAny_execs_cons (thn body fun f s1 q=>?_)
 cases f with
 | next=>exact wpAny_execs_nil (wpAny_execs_nil (SP.unwish q))
 | ret v=>exact SP.unwish q
 | brk=>exact SP.unwish q
 | cont=>exact SP.unwish q
end
end L2
namespace DL
open PySem PySem.Spec L2
noncomputable def jsj(m:List D->MS D)(cs:List Str)(j l:Nat)(fl:DSt->MS (List D)):DSt->MS Out:=fun δ Ω=>match jdp m fl δ Ω with
 | some (.ok _,Ω')=>some (.ok (.nx δ),Ω')
 | some (.error y,Ω')=>jm9 cs j l δ y Ω'
 | none=>none
section
variable {X:Cx}{O B:List Nat}{E:XK}{e:Expr}{es:List Expr}{fl:DSt->MS (List D)}{pos p:Pos}{x:Str}{k n:Nat}
variable {ρz ρ:Rho}{Sz S F:Addr->Bool}{Hz H:Hp}{σ:St}{δ:DSt}{Ω Ω':Sto}
theorem jj3{m:List D->MS D}{r:Except XD D}{Q:VK}(ar:∀ ds Ω r,m ds Ω=some r->ds.length=n)(R:RM ρz Sz Hz F X.K X.mg O ρ S H σ δ Ω)(hf:jdp m fl δ Ω=some (r,Ω'))
  (k:match (generalizing:=false) r with
   | .ok d=>∀ v ρ' S' H',RM ρz Sz Hz F X.K X.mg O ρ' S' H' σ δ Ω'->RLe ρ ρ'->Same (hid H (fob (un F S) σ O)) (hid H' (fob (un F S') σ O))->Rep ρ' X.K (hid H' (fob (un F S') σ O)) d v->Q v H'
   | .error y=>∀ i a C od ρ' S' H',errI y=some i->RM ρz Sz Hz F X.K X.mg O ρ' S' H' σ δ Ω'->RLe ρ ρ'->Same (hid H (fob (un F S) σ O)) (hid H' (fob (un F S') σ O))->ρ' i=some a->H' a=some (XO a C od false)->E (.ref a) od H'):jrv (spR X.K X.mg n m) [] E (tEL X.K X.mg O fl) σ H Q:=by
 rcases MS.b_inv hf with ⟨ds,Ω2,e2,hf3⟩|⟨y,e2,rfl⟩
 ·refine⟨ρz,Sz,Hz,F,ρ,S,δ,Ω,R,.ok ds,Ω2,e2,fun vs ρ2 S2 H2 R2 l2 v2 r2=>?_⟩;show spR X.K X.mg n m (vs++[]) H2 Q E;rw[List.append_nil];refine jrs R2 (ar _ _ _ hf3) r2 hf3 ?_
  cases r with
  | error y=>exact fun i a C od ρ3 S3 H3 he R3 l3 v3 hρ hH=>k i a C od ρ3 S3 H3 he R3 (l2.trans l3) (v2.trans v3) hρ hH
  | ok d=>exact fun v' ρ3 S3 H3 R3 l3 v3 r3=>k v' ρ3 S3 H3 R3 (l2.trans l3) (v2.trans v3) r3
 ·exact⟨ρz,Sz,Hz,F,ρ,S,δ,Ω,R,.error y,_,e2,trivial⟩
theorem jwp{m:List D->MS D}{cs:List Str}{n' y bn:Str}{j l:Nat}{np hpos py pn ypos spos tpos:Pos}(C:CalR X.prog X.w X.K X.mg X.base k x n m)(Em:ErrM X.K X.mg cs bn)(hr:Room k X.A)(ha:∀ W,MA (X.wish W) O (e::es) fl)
  (hst:X.stack=X.env::X.outer) (hfr:X.env.frame=some X.env.locals) (hN:X.N.Nodup) (hjo:O.contains j=false) (hlo:O.contains l=false) (hjl:j≠l)
  (hj:autoParam (X.N[j]? = some n') zau2._auto_1) (hn:autoParam (X.env.scope.names.lookup n'=some .local) zau2._auto_1) (hl:autoParam (X.N[l]? = some y) zau2._auto_1) (hy:autoParam (X.env.scope.names.lookup y=some .local) zau2._auto_1) (hgx:autoParam (Gl X x) zau2._auto_1) (hg:autoParam (Gl X bn) zau2._auto_1)
  (hdx:autoParam ((x == ("__debug__":Str))=false) zau1._auto_1) (hdb:autoParam ((bn == ("__debug__":Str))=false) zau1._auto_1) (hnd:autoParam ((n' == ("__debug__":Str))=false) zau1._auto_1) (hncd:autoParam ((n' == ("__classdict__":Str))=false) zau1._auto_1) (hs:autoParam (swapsWith (.Name n' pn) (some (.Name y py)) ypos.line X.env=pure false) zau2._auto_1)
  (hs1:autoParam (swapsWith (.Call (.Name x p) (e::es) [] pos) none spos.line X.env=pure false) zau2._auto_1) (hse:autoParam (starEach (e::es) X.env=(false,eval e X.env)::starEach es X.env) zau2._auto_1) (hpl:autoParam ((backTo pos (starEach es X.env)).any (·.1)=false) zau2._auto_1) :
  MSt X O O B (.Try [.Expr (.Call (.Name x p) (e::es) [] pos) spos] [.ExceptHandler (some (.Name bn np)) (some n') [.Assign [.Name y py] (.Name n' pn) ypos] hpos] [] [] tpos) (jsj m cs j l fl):=by
 have no:∀ {q:Nat},O.contains q=false->q∉O:=fun h z=>by rw[zbc.mpr z] at h;cases h
 obtain⟨f,fd,ps,hln,hm,hk,hb,G⟩:=C.ex;obtain⟨Bc,hB⟩:=Em.atb;rintro pins s σ H Dn I ⟨ρz,Sz,Hz,F,ρ,S,δ,Ω,R,r,Ω',hf,k⟩;refine jxd (X:=X) (t:=tEL X.K X.mg O fl) G hr hgx hm hk hb (fun W=>ha W) hst hfr hg hB hN hj hn hl hy hjl hdx hdb hnd hncd hs hs1 hse hpl pins s σ H Dn I ?_;unfold jsj at hf
 cases e0:jdp m fl δ Ω with
 | none=>rw[e0] at hf;cases hf
 | some pr =>
  obtain⟨r0,Ω0⟩:=pr;rw[e0] at hf
  cases r0 with
  | ok d =>
   cases hf;refine⟨fun _ _ _ _=>False,jj3 C.ar R e0 fun v ρ1 S1 H1 R1 l1 v1 r1=>?_,fun _ _ _ _ _ z=>z.elim⟩;exact k ρ1 S1 σ H1 R1 l1 v1
  | error y0 =>
   obtain⟨q,c',jj,g1,g2,g3,rfl,rfl⟩:=jod hf;refine⟨fun a C' od H1=>∃ ρ1 S1,RM ρz Sz Hz F X.K X.mg O ρ1 S1 H1 σ δ Ω'/\RLe ρ ρ1/\Same (hid H (fob (un F S) σ O)) (hid H1 (fob (un F S1) σ O))/\ρ1 q=some a,jj3 C.ar R e0 fun i' a C' od ρ1 S1 H1 he R1 l1 v1 hρ hH=>?_,fun a C' od H1 hH ⟨ρ1,S1,R1,l1,v1,hρ⟩=>⟨?_,fun H2 sm=>?_⟩⟩
   ·rw[g1] at he;cases he;exact⟨a,C',rfl,hH,ρ1,S1,R1,l1,v1,hρ⟩
   ·obtain⟨a',p1,p2,p3⟩:=R1.sto.ats q _ g2;rw[hρ] at p1;cases p1
    cases p3 with
    | no f C2 w1 w2=>exact⟨C2,none,w2,Em.ex c' g3 C2 w1 Bc hB⟩
    | yes f j2 C2 dx w1 w2 w3=>exact⟨C2,some dx,w3,Em.ex c' g3 C2 w1 Bc hB⟩
   ·have R2:=R1.mono (H':=H2) sm;have hob:∀ {Hx:Hp},Rep ρ1 X.K Hx (.obj q) (.ref a):=rep_obj.mpr ⟨a,hρ,rfl⟩;have R3:=((R2.set (i:=j) (d:=.obj q) (v:=.ref a) (no hjo) hob).set (i:=l) (d:=.obj q) (v:=.ref a) (no hlo) hob).unset (no hjo);refine k ρ1 S1 _ H2 R3 l1 ?_;rw[jeo (no hjo),jc5 (no hlo),jc5 (no hjo)];exact v1.trans (jap sm)
noncomputable def jwf(fa:DSt->MS D):DSt->MS D:=fun δ=>(fa δ).b fun x=>MS.o (gNot x)
theorem jzr{a:Expr}{fa:DSt->MS D}(ha:ME X O a fa):ME X O (.UnaryOp .Not a pos) (jwf fa):=by
 rintro pins s σ H Q I ⟨ρz,Sz,Hz,F,ρ,S,δ,Ω,R,r,Ω',hf,k⟩;refine jAc ha pins s σ H Q I ?_;rcases MS.b_inv hf with ⟨x,Ω1,e1,hf⟩|⟨x,e1,rfl⟩
 ·refine⟨ρz,Sz,Hz,F,ρ,S,δ,Ω,R,.ok x,Ω1,e1,fun u ρ1 S1 H1 R1 l1 v1 r1=>?_⟩;obtain⟨z,hz,rfl,rfl⟩:=MS.o_inv hf
  cases x with
  | bl c=>cases hz;exact⟨c,rep_bl.mp r1,k _ ρ1 S1 H1 R1 l1 v1 (rep_bl.mpr rfl)⟩
  | _=>cases hz
 ·exact⟨ρz,Sz,Hz,F,ρ,S,δ,Ω,R,.error x,_,e1,trivial⟩
end
noncomputable def rs1(Ω:Sto):D->Option D
 | .obj i=>match Ω[i]? with
  | some (.lst ds)=>some (.lst ds)
  | _=>none
 | d=>some d
noncomputable def rsL(Ω:Sto):List D->Option (List D)
 | []=>some []
 | d::ds=>(rs1 Ω d).bind fun x=>(rsL Ω ds).map fun xs=>x::xs
noncomputable def rsT(Ω:Sto):D->Option D
 | .tup ds=>(rsL Ω ds).map .tup
 | d=>rs1 Ω d
section
variable {ρz ρ:Rho}{Sz S F:Addr->Bool}{Hz H Hw:Hp}{K:W.Frag}{mg:Str->Option Value}{O:List Nat}{σ:St}{δ:DSt}{Ω:Sto}
theorem RM.rs1(R:RM ρz Sz Hz F K mg O ρ S H σ δ Ω)(hw:Same (hid H (fob (un F S) σ O)) Hw)(hS:∀ b ys,S b=true->H b=some (.lst ys)->Hw b=some (.lst ys)){d x:D}{v:V}(h:rs1 Ω d=some x)(r:Rep ρ K (hid H (fob (un F S) σ O)) d v):Rep ρ K Hw x v:=by
 cases d with
 | obj i =>
  unfold DL.rs1 at h;dsimp only at h
  split at h
  ·rename_i ds hi;cases h;obtain⟨ad,q1,q2⟩:=rep_obj.mp r;obtain⟨ad',p1,p2,xs,p3,p4⟩:=R.sto.ats i _ hi;rw[q1] at p1;cases p1
   exact rep_lst.mpr ⟨ad,xs,q2,SqL.of (hS _ _ p2 p3),p4.mono hw⟩
  ·cases h
 | _=>cases h;exact r.mono hw
theorem RM.rsL(R:RM ρz Sz Hz F K mg O ρ S H σ δ Ω)(hw:Same (hid H (fob (un F S) σ O)) Hw)(hS:∀ b ys,S b=true->H b=some (.lst ys)->Hw b=some (.lst ys)):∀ {ds xs:List D} {vs:List V},rsL Ω ds=some xs->Reps ρ K (hid H (fob (un F S) σ O)) ds vs->Reps ρ K Hw xs vs
 | [],xs,vs,h,r=>by
  cases h;rw[reps_nil.mp r];exact Reps.nil
 | d::ds,xs,vs,h,r=>by
  unfold DL.rsL at h;obtain⟨x,f1,h⟩:=Option.bind_eq_some_iff.mp h;obtain⟨xs',f2,rfl⟩:=Option.map_eq_some_iff.mp h;obtain⟨v,r',rfl,q1,q2⟩:=reps_cons.mp r;exact Reps.cons (R.rs1 hw hS f1 q1) (R.rsL hw hS f2 q2)
theorem RM.rsT(R:RM ρz Sz Hz F K mg O ρ S H σ δ Ω)(hw:Same (hid H (fob (un F S) σ O)) Hw)(hS:∀ b ys,S b=true->H b=some (.lst ys)->Hw b=some (.lst ys)){d x:D}{v:V}(h:rsT Ω d=some x)(r:Rep ρ K (hid H (fob (un F S) σ O)) d v):Rep ρ K Hw x v:=by
 cases d with
 | tup ds =>
  unfold DL.rsT at h;obtain⟨xs,f,rfl⟩:=Option.map_eq_some_iff.mp h;obtain⟨a,ys,rfl,q1,q2⟩:=rep_tup.mp r;exact rep_tup.mpr ⟨a,ys,rfl,jc1 hw q1,R.rsL hw hS f q2⟩
 | _=>unfold DL.rsT at h;exact R.rs1 hw hS h r
end
noncomputable def neR(x y:D):MS D:=fun Ω=>match rsT Ω x,rsT Ω y with
 | some x',some y'=>if (okD x'&&okD y'&&decide (depD x'<=20))=true then some (.ok (.bl !(eqB x' y')),Ω) else none
 | _,_=>none
inductive NeRI(x y:D)(Ω Ω':Sto)(r:Except XD D):Prop
 | mk (x' y':D) (h1:rsT Ω x=some x') (h2:rsT Ω y=some y') (h3:(okD x'&&okD y'&&decide (depD x'<=20))=true) (h4:r=.ok (.bl !(eqB x' y'))) (h5:Ω'=Ω)
theorem jwt{x y:D}{Ω Ω':Sto}{r:Except XD D}(h:neR x y Ω=some (r,Ω')):NeRI x y Ω Ω' r:=by
 unfold neR at h
 split at h
 ·rename_i x' y' h1 h2
  split at h
  ·rename_i h3;cases h;exact⟨x',y',h1,h2,h3,rfl,rfl⟩
  ·cases h
 ·cases h
noncomputable def mNeR(fa fb:DSt->MS D):DSt->MS D:=fun δ=>(fa δ).b fun x=>(fb δ).b fun y=>neR x y
noncomputable def jy1:D->Bool
 | .tup ds=>ds.all jmy
 | d=>jmy d
theorem jlv{ρ:Rho}{K:W.Frag}{H H':Hp}:∀ {ds:List D} {vs:List V},ds.all jmy=true->Reps ρ K H ds vs->Reps ρ K H' ds vs
 | [],vs,_,r=>by rw[reps_nil.mp r];exact Reps.nil
 | d::ds,vs,h,r=>by
  rw[List.all_cons,Bool.and_eq_true] at h;obtain⟨v,r',rfl,q1,q2⟩:=reps_cons.mp r;exact Reps.cons (jn0 h.1 q1) (jlv h.2 q2)
noncomputable def jst:Option HO->Bool
 | some (.lst _)=>true
 | _=>false
noncomputable def unl(F S:Addr->Bool)(H:Hp):Addr->Bool:=fun b=>un F S b&&!jst (H b)
theorem jxu{F S:Addr->Bool}{H:Hp}{b:Addr}(h:unl F S H b=true):un F S b=true:=by
 unfold unl at h;rw[Bool.and_eq_true] at h;exact h.1
theorem jAq{H H':Hp}{q:Addr}{xs:List V}(h:Rd H q (.tup xs))(k:∀ o,(∀ ys,o≠.lst ys)->H q=some o->H' q=some o):Rd H' q (.tup xs):=by
 rcases h with h|⟨o,h⟩
 ·exact .inl (k _ (fun _ z=>nomatch z) h)
 ·exact .inr ⟨o,k _ (fun _ z=>nomatch z) h⟩
noncomputable def jhi(i:Nat)(f:DSt->M D):DSt->MS D:=fun δ Ω=>match (δ[i]?).join with
 | some d=>match rsT Ω d with
  | some d'=>MS.l ((f (δ.set i (some d'))).b fun x=>if jy1 x=true then M.p x else none) Ω
  | none=>none
 | none=>none
section
variable {X:Cx}{O:List Nat}{a b c e o:Expr}{es:List Expr}{fa fb:DSt->MS D}{fl:DSt->MS (List D)}{pos:Pos}
theorem jz2{σ:St}{H:Hp}{Q:VK}(h:tE X.K X.mg O (mNeR fa fb) σ H Q):tOp (rEqD X.K true) (tE X.K X.mg O fa) (tE X.K X.mg O fb) σ H Q:=by
 obtain⟨ρz,Sz,Hz,F,ρ,S,δ,Ω,R,r,Ω',hf,k⟩:=h;rcases MS.b_inv hf with ⟨x,Ω1,e1,hf⟩|⟨x,e1,rfl⟩
 ·refine⟨ρz,Sz,Hz,F,ρ,S,δ,Ω,R,.ok x,Ω1,e1,fun u ρ1 S1 H1 R1 l1 v1 r1=>?_⟩;rcases MS.b_inv hf with ⟨y,Ω2,e2,hf⟩|⟨y,e2,rfl⟩
  ·refine⟨ρz,Sz,Hz,F,ρ1,S1,δ,Ω1,R1,.ok y,Ω2,e2,fun w ρ2 S2 H2 R2 l2 v2 r2=>?_⟩;obtain⟨x',y',f1,f2,hh,rfl,rfl⟩:=jwt hf;rw[Bool.and_eq_true,Bool.and_eq_true,decide_eq_true_eq] at hh;exact⟨ρ2,x',y',hh.1.1,hh.1.2,hh.2,R2.rsT jaj (fun _ _ _ z=>z) f1 ((r1.rho l2).mono v2),R2.rsT jaj (fun _ _ _ z=>z) f2 r2,k _ ρ2 S2 H2 R2 (l1.trans l2) (v1.trans v2) (rep_bl.mpr rfl)⟩
  ·exact⟨ρz,Sz,Hz,F,ρ1,S1,δ,Ω1,R1,.error y,_,e2,trivial⟩
 ·exact⟨ρz,Sz,Hz,F,ρ,S,δ,Ω,R,.error x,_,e1,trivial⟩
theorem jzy(ho:OpR X (compareOp .NotEq) (rEqD X.K true))(ha:ME X O a fa)(hb:ME X O b fb)(hm:behindInMarks .NotEq b=false):MT X O (.Compare a [.NotEq] [b] pos) (mB (mNeR fa fb)):=by
 rintro pins s σ H Q I ⟨ρz,Sz,Hz,F,ρ,S,δ,Ω,R,rr,Ω',hf,k⟩;refine jmq ho ha hb hm pins s σ H Q I (jz2 ?_);rcases MS.b_inv hf with ⟨x,Ω1,e1,hf⟩|⟨x,e1,rfl⟩
 ·cases x with
  | bl kk=>cases hf;exact⟨ρz,Sz,Hz,F,ρ,S,δ,Ω,R,.ok (.bl kk),_,e1,fun v ρ' S' H' R' l sm rv=>⟨kk,rep_bl.mp rv,k ρ' S' H' R' l sm⟩⟩
  | _=>cases hf
 ·exact⟨ρz,Sz,Hz,F,ρ,S,δ,Ω,R,.error x,Ω',e1,k⟩
theorem jnm{i:Nat}{f:DSt->M D}(ho:O.contains i=false)(h:DE X O E0 e f):ME X O e (jhi i f):=by
 rintro pins s σ H Q I ⟨ρz,Sz,Hz,F,ρ,S,δ,Ω,R,r,Ω',hf,k⟩;have ho':i∉O:=fun z=>by rw[zbc.mpr z] at ho;cases ho
 unfold jhi at hf
 split at hf
 ·rename_i d hn
  split at hf
  ·rename_i d' hds;have hδ:δ[i]? = some (some d):=by
    cases z:δ[i]? with
    | none=>rw[z] at hn;cases hn
    | some y=>rw[z] at hn;exact congrArg some hn
   have le:Same (hid H (fob (un F S) σ O)) (hid H (fob (unl F S H) σ O)):=jee fun b q=>by
    rcases fob_t.mp q with z|z
    ·exact fob_t.mpr (.inl (jxu z))
    ·exact fob_t.mpr (.inr z)
   have hS:∀ b ys,S b=true->H b=some (.lst ys)->hid H (fob (unl F S H) σ O) b=some (.lst ys):=fun b ys hb q=>hid_some.mpr ⟨by
    cases z:fob (unl F S H) σ O b with
    | false=>rfl
    | true =>
     rcases fob_t.mp z with z|z
     ·unfold unl at z;rw[q] at z;simp[jst] at z
     ·exact absurd z (R.base_S hb),q⟩
   have hil:i<δ.length:=(zbb.mp hδ).1;obtain⟨v,s1,rv⟩:=R.rs.val i _ hδ ho';have rs:RS ρ X.K (hid H (fob nof σ O)) H (unl F S H) O σ (δ.set i (some d')):=by
    refine⟨by rw[List.length_set];exact R.rs.len,jaj,fun b z=>R.rs.fin b (jxu z),fun j d2 hd hj=>?_,fun j hj=>?_,R.rs.nd⟩
    ·by_cases ej:j=i
     ·subst ej;rw[zcz hil] at hd;cases hd;exact⟨v,s1,R.rsT le hS hds rv⟩
     ·rw[zbw (Ne.symm ej)] at hd;obtain⟨v,t1,t2⟩:=R.rs.val j d2 hd hj;exact⟨v,t1,t2.mono le⟩
    ·obtain⟨a,ys,es,t1,t2,t3,t4,t5⟩:=R.rs.own j hj;exact⟨a,ys,es,by rw[zbw (by rintro rfl;exact ho' hj)];exact t1,t2,t3,⟨t4.1,by cases z:unl F S H a with|false=>rfl|true=>rw[jxu z] at t4;exact absurd t4.2 (by decide)⟩,t5.mono le⟩
   obtain⟨hg,rfl⟩:=MS.l_inv hf;rcases M.b_inv hg with ⟨x,e1,hg⟩|⟨x,e1,rfl⟩
   ·split at hg
    ·rename_i hs;cases hg;refine h pins s σ H Q I ⟨ρ,_,unl F S H,_,.ok x,rs,e1,fun v H' s' rv=>k v ρ S H' (R.mono s') (RLe.refl _) (jap s') ?_⟩
     cases x with
     | tup ds =>
      obtain⟨q,xs,rfl,q2,q3⟩:=rep_tup.mp rv;refine rep_tup.mpr ⟨q,xs,rfl,?_,jlv hs q3⟩;refine q2.imp (fun z=>?_) id;refine jAq z fun o hn h1=>?_
      obtain⟨z1,z2⟩:=hid_some.mp h1;refine hid_some.mpr ⟨?_,z2⟩
      cases w:fob (un F S) σ O q with
      | false=>rfl
      | true =>
       rcases fob_t.mp w with w|w
       ·cases w2:jst (H q) with
        | false=>rw[fob_t.mpr (.inl (show unl F S H q=true by unfold unl;rw[w,w2];rfl))] at z1;cases z1
        | true =>
         unfold jst at w2
         split at w2
         ·rename_i ys w3;rw[s' _ _ w3] at z2;cases z2;exact absurd rfl (hn _)
         ·cases w2
       ·rw[fob_t.mpr (.inr w)] at z1;cases z1
     | _=>exact jn0 hs rv
    ·cases hg
   ·exact h pins s σ H Q I ⟨ρ,_,unl F S H,_,.error x,rs,e1,fun c dx H' _ z=>z.elim⟩
  ·cases hf
 ·cases hf
noncomputable def jmf(xs:List D):MS D:=fun Ω=>match xs with
 | [d]=>match rs1 Ω d with
  | some (.lst ds)=>some (.ok (.lst ds),Ω)
  | _=>none
 | _=>none
theorem jkd{p:Pos}(hG:Gl X "list")(hm:X.mg "list"=none)(hl:MA X O [a] fl)(he:autoParam (starEach [a] X.env=(false,eval a X.env)::starEach [] X.env) zau2._auto_1)(hpl:autoParam ((backTo pos (starEach [] X.env)).any (·.1)=false) zau2._auto_1) :
  ME X O (.Call (.Name "list" p) [a] [] pos) (fun δ=>(fl δ).b jmf):=by
 rintro pins s σ H Q I ⟨ρz,Sz,Hz,F,ρ,S,δ,Ω,R,r,Ω',hf,k⟩;refine jfp jcx hG hm jg0 hl (by decide) (by decide) he hpl pins s σ H Q I ?_;rcases MS.b_inv hf with ⟨xs,Ω1,e1,hf⟩|⟨x,e1,rfl⟩
 ·refine⟨ρz,Sz,Hz,F,ρ,S,δ,Ω,R,.ok xs,Ω1,e1,fun us ρ1 S1 H1 R1 l1 v1 r1=>?_⟩;unfold jmf at hf
  split at hf
  ·rename_i d
   split at hf
   ·rename_i ds hn;cases hf;obtain⟨v,rfl,q⟩:=jgk r1;have view:∃ ad ys,v=.ref ad/\SqL X.K H1 ad ys/\Reps ρ1 X.K (hid H1 (fob (un F S1) σ O)) ds ys:=by
     cases d with
     | obj n =>
      unfold DL.rs1 at hn;dsimp only at hn
      split at hn
      ·rename_i ds' hi;cases hn;obtain⟨ad,q1,q2⟩:=rep_obj.mp q;obtain⟨ad',p1,p2,ys,p3,p4⟩:=R1.sto.ats n _ hi;rw[q1] at p1;cases p1
       exact⟨ad,ys,q2,SqL.of p3,p4⟩
      ·cases hn
     | lst ds' =>
      cases hn;obtain⟨ad,ys,rfl,q2,q3⟩:=rep_lst.mp q;exact⟨ad,ys,rfl,jcm jaj q2,q3⟩
     | _=>cases hn
    obtain⟨ad,ys,rfl,p3,p4⟩:=view;refine⟨ad,ys,rfl,.inl p3,fun l hl'=>?_⟩;exact k _ ρ1 S1 _ (R1.mono (ja1 hl')) l1 (v1.trans (jap (ja1 hl'))) (jcq hl' (R1.fresh hl') p4)
   ·cases hf
  ·cases hf
 ·exact⟨ρz,Sz,Hz,F,ρ,S,δ,Ω,R,.error x,_,e1,trivial⟩
noncomputable def jla(xs:List D):MS D:=fun Ω=>match xs with
 | [.lst ds]=>some (.ok (.obj Ω.length),Ω++[.lst ds])
 | _=>none
theorem jkc{p:Pos}(hG:Gl X "list")(hm:X.mg "list"=none)(hl:MA X O [a] fl)(he:autoParam (starEach [a] X.env=(false,eval a X.env)::starEach [] X.env) zau2._auto_1)(hpl:autoParam ((backTo pos (starEach [] X.env)).any (·.1)=false) zau2._auto_1) :
  ME X O (.Call (.Name "list" p) [a] [] pos) (fun δ=>(fl δ).b jla):=by
 rintro pins s σ H Q I ⟨ρz,Sz,Hz,F,ρ,S,δ,Ω,R,r,Ω',hf,k⟩;refine jfp jcx hG hm jg0 hl (by decide) (by decide) he hpl pins s σ H Q I ?_;rcases MS.b_inv hf with ⟨xs,Ω1,e1,hf⟩|⟨x,e1,rfl⟩
 ·refine⟨ρz,Sz,Hz,F,ρ,S,δ,Ω,R,.ok xs,Ω1,e1,fun us ρ1 S1 H1 R1 l1 v1 r1=>?_⟩;unfold jla at hf
  split at hf
  ·rename_i ds;cases hf;obtain⟨v,rfl,q⟩:=jgk r1;obtain⟨ad,ys,rfl,q2,q3⟩:=rep_lst.mp q;refine⟨ad,ys,rfl,.inl (jcm jaj q2),fun l hl'=>?_⟩;obtain⟨t1,t2,t3⟩:=R1.newL hl' q3;exact k _ _ _ _ t1 (l1.trans t2) (v1.trans t3) (rep_obj.mpr ⟨l,by unfold addR;rw[if_pos rfl],rfl⟩)
  ·cases hf
 ·exact⟨ρz,Sz,Hz,F,ρ,S,δ,Ω,R,.error x,_,e1,trivial⟩
end
end DL
namespace L2
open PySem PySem.Spec PyProof.Rows PySem.W
section
variable {X:Cx}
theorem joc(hn:specialIn X.K (.builtin "object.__class__") "__get__"=some (some (.builtin "getset_descriptor.__get__")))(htk:takesIn X.K (.builtin "object.__class__")=some true) :
  CallR X (.builtin "isinstance") (fun xs H Q=>∃ a C od fr p,∃ as:List Addr,∃ b,xs=[.ref a,.ref p]/\H a=some (XO a C od fr)/\XCls X.K C/\(∀ dx,od=some dx->∃ fs,H dx=some (XDc dx fs))/\H p=some (.tup (as.map V.ref))/\W.kitAny X.K (.ref C) (as.map Value.ref)=some b/\Q (.bl b) H):=by
 intro pins s σ H xs us Q I r h;obtain⟨a,C,od,fr,p,as,b,rfl,ea,cl,hd,hp,hk,q⟩:=h;obtain⟨u,c',rfl,ru,rc⟩:=r.two;cases ru;cases rc;obtain⟨hz,its,vi,o,ho,hc,n,hda⟩:=I.hok p _ hp;have ei:its=as.map Value.ref:=by
  have go:∀ {as:List Addr} {us:List Value},Vals (as.map V.ref) us->us=as.map Value.ref:=by
   intro as
   induction as with
   | nil=>intro us z;rw[List.map_nil] at z;cases z;rfl
   | cons x as ih =>
    intro us z;rw[List.map_cons] at z
    cases z with
    | cons z1 z2=>cases z1;rw[ih z2];rfl
  exact go vi
 subst ei;obtain⟨oc,odd,oda,osl⟩:=o;dsimp only at hc hda;subst hc;subst hda;obtain⟨vs,sl,h0,hf0⟩:=jm2 I ea;have J:∃ ox od',InstAt s.heap a ox C od':=by
  cases od with
  | none=>exact⟨_,_,jm0 h0⟩
  | some dx =>
   obtain⟨fs,ed⟩:=hd dx rfl;obtain⟨mA,⟨o,_,_,e,_⟩,_⟩:=jx3 I ed;exact⟨_,_,jm1 h0 e⟩
 exact W.kia_tup (juj cl.x cl.ga cl.gh cl.cl hn htk) I.kIn J ho hk (fun z=>nomatch z) fun tk=>⟨.bl b,H,I.tok _,rfl,q⟩
noncomputable def jC6(as:List Addr):TA:=fun _ H Q=>Q (as.map V.ref) H
end
end L2
namespace DL
open PySem PySem.Spec L2
section
variable {X:Cx}{O:List Nat}{e:Expr}{es:List Expr}{fa:DSt->MS D}{cs fs:List Str}{bn d:Str}{ds:List Str}{p p2 p3 pos:Pos}
inductive ClL(X:Cx)(es:List Expr)(ds:List Str):Prop
 | mk (as:List Addr) (h1:PA X es (jC6 as)) (h2:Paired (fun (d:Str) (a:Addr)=>X.mg d=some (.ref a)) ds as)
theorem jub:ClL X [] []:=⟨[],jhj,.nil⟩
theorem jd0(T:ErrT X.K X.mg cs fs bn)(h:ClL X es ds)(hd:autoParam (cs.contains d=true) zau2._auto_1)(hg:autoParam (Gl X d) zau2._auto_1)(hdb:autoParam ((d == ("__debug__":Str))=false) zau1._auto_1)(hs:autoParam (starEach (.Name d p::es) X.env=(false,eval (.Name d p) X.env)::starEach es X.env) zau2._auto_1):ClL X (.Name d p::es) (d::ds):=by
 obtain⟨as,h1,h2⟩:=h;obtain⟨a,ha⟩:=T.ats d (zbc.mp hd);exact⟨a::as,jd6 (jmn (v:=.ref a) hg ha rfl hdb) h1 hs,.cons ha h2⟩
theorem jun{x1}(T:ErrT X.K X.mg cs fs bn)(hL:ClL X es ds)(hds:ds.all (cs.contains ·)=true)(hm:X.mg "isinstance"=none)(ha:ME X O e fa)(hl:ds.length<=100)(hG:autoParam (Gl X "isinstance") zau2._auto_1)
  (he:autoParam (starEach (e::[.Tuple es x1 p3]) X.env=(false,eval e X.env)::starEach [.Tuple es x1 p3] X.env) zau2._auto_1) (he2:autoParam (starEach [.Tuple es x1 p3] X.env=(false,eval (.Tuple es x1 p3) X.env)::starEach [] X.env) zau2._auto_1) (hpl:autoParam ((backTo pos (starEach [.Tuple es x1 p3] X.env)).any (·.1)=false) zau2._auto_1) :
  ME X O (.Call (.Name "isinstance" p) [e,.Tuple es x1 p3] [] pos) (mIsX cs (fun c=>ds.contains c) fa):=by
 obtain⟨as,h1,h2⟩:=hL;rintro pins s σ H Q I ⟨ρz,Sz,Hz,F,ρ,S,δ,Ω,R,r,Ω',hg,k⟩;have kA:∀ c∈cs,∀ C,X.mg c=some (.ref C)->W.kitAny X.K (.ref C) (as.map Value.ref)=some (ds.contains c):=by
  intro c hc C hC
  clear h1 hl he he2 hpl hg k
  induction h2 with
  | nil=>rfl
  | @cons d a ds as z zs ih =>
   rw[List.all_cons,Bool.and_eq_true] at hds;obtain⟨D1,g1,g2⟩:=T.pair c hc d (zbc.mp hds.1) C hC;rw[z] at g1;cases g1
   have ih:=ih hds.2
   show (match W.kitOne X.K (.ref C) (.ref a) with
    | some true=>some true
    | some false=>W.kitAny X.K (.ref C) (as.map Value.ref)
    | none=>none)=_
   rw[g2,List.contains_cons]
   cases hcd:(c == d) with
   | true=>rfl
   | false=>rw[Bool.false_or];exact ih
 have la:(as.map V.ref).length<=sizeLine:=by
  rw[zav,<- h2.length,sizeLine_eq];exact zcc hl (by decide)
 refine jhz (joc T.sp T.tk) hG hm jgn (jd6 ha (jd6 (jq7 h1) jhj he2) he) (by decide) (by decide) he hpl pins s σ H Q I ?_;rcases MS.b_inv hg with ⟨x,Ω1,e1,hg⟩|⟨x,e1,rfl⟩
 ·refine⟨ρz,Sz,Hz,F,ρ,S,δ,Ω,R,.ok x,Ω1,e1,fun w ρ1 S1 H1 R1 l1 v1 r1=>?_⟩;obtain⟨i,c,oj,fr,rfl,hi,hj,hc,rfl,rfl⟩:=jp8 hg;obtain⟨ad,q1,q2⟩:=rep_obj.mp r1;obtain⟨ad',p1,p2,p3⟩:=R1.sto.ats i _ hi;rw[q1] at p1;cases p1
  subst q2;refine⟨la,fun pt hpt=>?_⟩;have sm:Same H1 (upd H1 pt (.tup (as.map V.ref))):=ja1 hpt;have R2:=R1.mono sm;have fin:Q (.bl (ds.contains c)) (upd H1 pt (.tup (as.map V.ref))):=k _ ρ1 S1 _ R2 l1 (v1.trans (jap sm)) (rep_bl.mpr rfl)
  cases p3 with
  | no fr C h1' h2'=>exact⟨ad,C,none,fr,pt,as,ds.contains c,rfl,sm _ _ h2',T.cls c hc C h1',(fun dx z=>nomatch z),jao,kA c hc C h1',fin⟩
  | yes fr j C dx h1' h2' h3' =>
   obtain⟨fl,hj⟩:=hj j rfl;obtain⟨dx',s1,s2,vfs,s3,s4⟩:=R1.sto.ats j _ hj;rw[h2'] at s1;cases s1
   exact⟨ad,C,some dx,fr,pt,as,ds.contains c,rfl,sm _ _ h3',T.cls c hc C h1',(fun dx' z=>by cases z;exact⟨vfs,sm _ _ s3⟩),jao,kA c hc C h1',fin⟩
 ·exact⟨ρz,Sz,Hz,F,ρ,S,δ,Ω,R,.error x,_,e1,trivial⟩
end
end DL
namespace L2
open PySem PySem.Spec PyProof.Rows
section
variable {κ:Type}[DecidableEq κ]
noncomputable def met(f:Nat->κ):Nat->List κ
 | 0=>[]
 | i+1=>if f i∈met f i then met f i else met f i++[f i]
theorem juo(f:Nat->κ):∀ i,(met f i).length<=i
 | 0=>zac _
 | i+1=>by
  have h:=juo f i;unfold met
  split
  ·exact Nat.le_succ_of_le h
  ·rw[zca];exact Nat.succ_le_succ h
theorem jzu(f:Nat->κ)(i:Nat)(x:κ):decide (x∈met f (i+1))=(decide (x∈met f i) || decide (x=f i)):=by
 rw[Bool.eq_iff_iff,Bool.or_eq_true,decide_eq_true_iff,decide_eq_true_iff,decide_eq_true_iff];show x∈(if f i∈met f i then met f i else met f i++[f i])↔_
 split
 ·rename_i h;exact⟨.inl,fun z=>z.elim id fun e=>e ▸ h⟩
 ·rw[List.mem_append,List.mem_singleton]
theorem jwj(f:Nat->κ)(i:Nat):(met f (i+1)).length=if decide (f i∈met f i)=true then (met f i).length else (met f i).length+1:=by
 show (if f i∈met f i then met f i else met f i++[f i]).length=_
 by_cases h:f i∈met f i
 ·rw[if_pos h,decide_eq_true h,if_pos rfl]
 ·rw[if_neg h,decide_eq_false h,zca];rfl
variable {prog:Program}{w:World}{knd:KeyKind prog w κ}{A:Around}{R:Result->Shared->Prop}{I S:Addr}{fp wr:List Addr}{G:Array GenState->Array GenState->Prop}{n:Nat}{P:Nat->Value->Prop}{St:Nat->Shared->Prop}{f:Nat->κ}
noncomputable abbrev SetAt(knd:KeyKind prog w κ)(f:Nat->κ)(h:Heap)(a:Addr)(i:Nat):Prop:=h.SetOf knd a (fun x=>decide (x∈met f i)) (met f i).length
theorem SetAt.go{h h':Heap}{a:Addr}{i:Nat}(z:SetAt knd f h a i)(k:∀ o,h.get? a=some o->h'.get? a=some o):SetAt knd f h' a i:=by
 obtain⟨o,es,ep,t,ho,r⟩:=z;exact⟨o,es,ep,t,k o ho,r⟩
theorem jtv(W:WalksS prog w A.in1 I fp wr G n P St)(hS:S∉fp)(hf:∀ i v,P i v->knd.is (f i) v=true/\v.scannable=true)(hn:n+1<scanBound) :
  ∀ (k i:Nat) (s:Shared),i+k=n->St i s->SetAt knd f s.heap S i->(∀ s',Moved (S::wr) G s s'->SetAt knd f s'.heap S n->R (.ok (.ret .none)) s') ->
   codeAny (model prog w) A (.builtin "set.update.loop" ⟨[.ref S,.ref I],[]⟩) R s:=by
 have nw:S∉wr:=fun z=>hS (W.sub _ z)
 have up:∀ b∈wr,b∈S::wr:=fun _ z=>.tail _ z
 intro k
 induction k with
 | zero =>
  intro i s e st z q;cases e;refine codeAny_builtin PyProof.Rows.F.entry_set_update_loop ?_;rw[Around.under_plainId PyProof.Rows.F.plain_set_update_loop _];exact zay (W.done s _ _ st fun s2 m=>zab (q s2 (m.mono up) (z.go fun o=>m.heap S o nw)))
 | succ k ih =>
  intro i s e st z q;have il:i<n:=by omega
  refine codeAny_builtin PyProof.Rows.F.entry_set_update_loop ?_;rw[Around.under_plainId PyProof.Rows.F.plain_set_update_loop _];refine zay (W.item i s _ _ il st fun v s2 p st2 m=>?_);obtain⟨h1,h2⟩:=hf i v p;have z2:SetAt knd f s2.heap S i:=z.go fun o=>m.heap S o nw
  refine zay (m:=holding [v] (setAdd S v)) (wpAny_holding ?_);unfold setAdd;refine wpAny_holding (zay (knd.pyHash h1 ?_));have room:(met f i).length+1<scanBound:=by have:=juo f i;omega
  refine wpAny_setAddHashed_of (s:={ s2 with toks:=s2.toks+1 }) h1 h2 z2 room fun h3 sb z3=>?_
  have z4:SetAt knd f h3 S (i+1):=by
   have e1:(fun x=>decide (x∈met f i) || decide (x=f i))=fun x=>decide (x∈met f (i+1)):=funext fun x=>(jzu f i x).symm
   have z5:=z3;rw[e1,<- jwj f i] at z5;exact z5
  refine zab ⟨plainId_quiet PyProof.Rows.F.plain_set_update_loop _,ih (i+1) _ (by omega) (W.frame _ s2 _ _ st2 (Nat.le_succ _) fun b hb o e2=>?_) z4 fun s5 m5 z6=>?_⟩
  ·rw[sb.2 b fun c=>hS (c ▸ hb)];exact e2
  ·refine q s5 (Moved.trans W.gtrans ((m.mono up).then_heap (Nat.le_succ _) fun b o hb e2=>?_) m5) z6;rw[sb.2 b fun c=>hb (c ▸ zaa)];exact e2
end
noncomputable abbrev nSet(led:Bool):Obj:=⟨.type "set",none,.set #[] 0 (.fresh 0 0 led),#[]⟩
section
variable {κ:Type}[DecidableEq κ]{prog:Program}{w:World}{knd:KeyKind prog w κ}{A:Around}{E:Value->Shared->Prop}{s:Shared}{f:Nat->κ}
theorem jpk{l:Addr}{its:Array Value}{Q:Value->Shared->Prop}(hh:A.handled=none)(hl:s.heap.IsList l its)(hf:∀ i v,its[i]? = some v->knd.is (f i) v=true/\v.scannable=true)(hn:its.size+1<scanBound)
  (q:∀ h2 tk,SetAt knd f h2 s.heap.objs.size its.size->(∀ b o,b<s.heap.objs.size->s.heap.get? b=some o->h2.get? b=some o)->Q (.ref s.heap.objs.size) { s with heap:=h2,toks:=tk }) :
  wpAny (model prog w) A (call (.type "set") [.ref l]) Q E s:=by
 obtain⟨c0,tl,hm⟩:=PySem.F.called_set.mro;have m1:=PySem.F.called_set.made;have m2:=PySem.F.called_set.sub;refine wpAny_call (codeAny_of_tree (zab ⟨Code.quiet_builtin _ (by decide +kernel),codeAny_builtin PySem.F.entry_type_call ?_⟩));rw[Around.under_plain (weight_type_call_type "set" [.ref l] []) rfl];have m3:=PySem.F.called_set.notType;have m4:=PySem.F.called_set.canCreate;have m5:=PySem.F.typeCall_set_1 (.ref l)
 repeat (any_goals (first|assumption|wp_step))
 refine codeAny_mono (code_set_new_1 (.ref l) (E:=E) (Q₁:=fun ob s1=>∃ led,ob=.ref s.heap.objs.size/\s1={ s with heap:=s.heap.push (nSet led) }) fun led=>⟨led,rfl,rfl⟩) fun r s1 hr=>?_
 match r,hr with
 | .error e,hr=>exact hr
 | .ok (.ret ob),hr =>
  obtain⟨led,rfl,rfl⟩:=hr;have g0:(s.heap.push (nSet led)).get? s.heap.objs.size=some (nSet led):=zbz _ rfl;have ty:Shared.TypeIs { s with heap:=s.heap.push (nSet led) } (.ref s.heap.objs.size) "set":=⟨_,g0,rfl⟩
  have i1:=PySem.F.called_set.init.lookup;have i2:=PySem.F.called_set.init.bind (.ref s.heap.objs.size)
  repeat (any_goals (first|assumption|wp_step))
  refine codeAny_mono (codeAny_call_builtin (R:=wants (fun r s2=>r=.none/\∃ h2 tk,s2={ s with heap:=h2,toks:=tk }/\SetAt knd f h2 s.heap.objs.size its.size/\∀ b o,b<s.heap.objs.size->s.heap.get? b=some o->h2.get? b=some o) E) PySem.F.called_set.init.plain PySem.F.entry_set_init (check_set_init_1 ty ?_)) fun r2 s2 hr2=>?_
  ·obtain⟨⟨oc,od,oda,osl⟩,ho,hc,nl,hd⟩:=hl;dsimp only at hc hd;subst hc;subst hd;have ho2:(s.heap.push (nSet led)).get? l=some ⟨.type "list",od,.seq its nl,osl⟩:=zaz _ ho;have u1:=PySem.F.sub_list_set;have u2:=PySem.F.sub_list_frozenset;have u3:(Value.type "list" == Value.type "dict")=false:=by decide
   have li:(s.heap.push (nSet led)).IsList l its:=⟨_,ho2,rfl,nl,rfl⟩
   unfold Builtin.«set.__init__» noKeywords Builtin.Frozenset.updateFrom;generalize hp:pyIter=PI
   wp_walk
   subst hp;refine wpAny_pyIter_list li (zay (wpAny_runValue ?_));have lt:l<s.heap.objs.size:=zbv ho;have sz:(s.heap.push (nSet led)).objs.size=s.heap.objs.size+1:=Heap.size_push _ _;have ni:l≠(s.heap.push (nSet led)).objs.size:=by rw[sz];exact zcv (Nat.lt_succ_of_lt lt)
   refine jtv (knd:=knd) (f:=f) (S:=s.heap.objs.size) ((Walks.list (show A.in1.in1.in1.handled=none by simp[hh]) _ l ni its).toS) (by
    rw[sz];intro z;rcases List.mem_cons.mp z with z|z
    ·exact zcv (Nat.lt_succ_self _) z
    ·exact Nat.ne_of_gt lt (List.mem_singleton.mp z)) hf hn its.size 0 _ (Nat.zero_add _) ⟨⟨_,zbz _ rfl,rfl,rfl⟩,li.push _⟩ ?_ ?_
   ·exact SetOf_congr ((setObjOf_fresh (knd:=knd) led).setOf (zaz _ g0) (by unfold scanBound;omega)) (fun _=>rfl) rfl
   ·rintro⟨h2,g2,d2,t2,o2⟩ mv z;cases (show g2=s.gens from mv.gens);cases (show d2=s.drawn from mv.drawn);cases (show o2=s.os from mv.os);refine zab (zab ⟨rfl,h2,t2,rfl,z,fun b o hb e=>?_⟩);refine mv.heap b o (fun c=>?_) (zaz _ (zaz _ e));rcases List.mem_cons.mp c with c|c
    ·exact zcv hb c
    ·have:=List.mem_singleton.mp c;rw[sz] at this;exact zcv (Nat.lt_succ_of_lt hb) this
  ·match r2,hr2 with
   | .error e,hr2=>exact hr2
   | .ok (.ret r),hr2 =>
    obtain⟨rfl,h2,tk,rfl,z,kp⟩:=hr2
    repeat (any_goals (first|assumption|wp_step))
    exact q _ _ z kp
   | .ok .next,hr2=>exact hr2.elim
   | .ok .brk,hr2=>exact hr2.elim
   | .ok .cont,hr2=>exact hr2.elim
 | .ok .next,hr=>exact hr.elim
 | .ok .brk,hr=>exact hr.elim
 | .ok .cont,hr=>exact hr.elim
theorem jpi{a:Addr}{n:Nat}{Q:Value->Shared->Prop}(z:SetAt knd f s.heap a n)(hn:n<4096)(q:∀ t tk,Q (.int (met f n).length t) { s with toks:=tk }):wpAny (model prog w) A (call (.builtin "len") [.ref a]) Q E s:=by
 obtain⟨o,es,ep,t,ho,ex,hd,_,_,hb,ht,e⟩:=z;refine call_len_set ho ex hd ht (by unfold scanBound at hb;omega) ?_;have:=q (s.toks+1) (s.toks+1+1);rw[<- e] at this;exact this
end
theorem jwl{κ:Type}[DecidableEq κ]{f:Nat->κ}{i:Nat}(h:f i∉met f i):met f (i+1)=met f i++[f i]:=if_neg h
noncomputable def jfi(ks:List Key)(i:Nat):Key:=(ks[i]?).getD (.inl 0)
noncomputable def SetF(P:Program)(w:World)(a:Addr)(ks:List Key):Heap->Prop:=fun h=>SetAt (jfk P w) (jfi ks) h a ks.length
noncomputable def cntK(ks:List Key):Nat:=(met (jfi ks) ks.length).length
section
variable {X:Cx}
theorem jv9{k:Key}{u:Value}(r:RelV (kV k) u):u.scannable=true:=by
 cases k with
 | inl i=>obtain⟨t,e⟩:=(show ∃ t,u=Value.int i t from r);subst e;rfl
 | inr x=>obtain⟨t,e⟩:=(show ∃ t,u=Value.str x t from r);subst e;rfl
theorem jr2:∀ {ks:List Key} {us:List Value},Vals (ks.map kV) us->∀ (i:Nat) (v:Value),us[i]? = some v->RelV (kV (jfi ks i)) v
 | [],us,r,i,v,h=>by rw[List.map_nil] at r;cases r;cases h
 | k::ks,us,r,i,v,h=>by
  rw[List.map_cons] at r
  cases r with
  | cons a b =>
   cases i with
   | zero=>cases h;exact a
   | succ i=>exact jr2 b i v h
theorem jpl(hc:X.calm=true):CallR X (.type "set") (fun xs H Q=>∃ p ks,xs=[.ref p]/\SqL X.K H p (ks.map kV)/\ks.length<4000/\∀ l,H l=none->Q (.ref l) (upd H l (.ext (SetF X.prog X.w l ks)))):=by
 intro pins s σ H xs us Q I r h;obtain⟨p,ks,rfl,hq,hn,q⟩:=h;obtain⟨u,rfl,rx⟩:=jly r;cases rx;obtain⟨its,r',pl,hz⟩:=I.list hq;have hl:its.length=ks.length:=by rw[<- r'.length,zav]
 refine jpk (knd:=jfk X.prog X.w) (f:=jfi ks) (I.ok.hd hc) pl.isList (fun i v e=>?_) (by rw[zbx,hl];unfold scanBound;omega) fun h2 tk z kp=>?_
 ·rw[List.getElem?_toArray] at e;have g:=jr2 r' i v e;exact⟨jB7 g,jv9 g⟩
 ·have z1:its.toArray.size=ks.length:=by rw[zbx,hl]
  rw[z1] at z;refine⟨.ref s.heap.objs.size,_,I.laid (t':=tk) (fun b o e=>kp b o (zbv e) e) (zac _) ?_,rfl,q _ (I.hok.fresh (zac _))⟩;show SetF X.prog X.w s.heap.objs.size ks h2/\_/\_;obtain⟨o,es,ep,t,ho,w1⟩:=id z;exact⟨z,⟨o,ho⟩,fun h3 h4 z3 k4=>SetAt.go z3 k4⟩
theorem jpj:CallR X (.builtin "len") (fun xs H Q=>∃ a ks,xs=[.ref a]/\H a=some (.ext (SetF X.prog X.w a ks))/\ks.length<4000/\Q (.int (cntK ks)) H):=by
 intro pins s σ H xs us Q I r h;obtain⟨a,ks,rfl,ha,hn,q⟩:=h;obtain⟨u,rfl,rx⟩:=jly r;cases rx;have z:SetF X.prog X.w a ks s.heap:=(I.hok a _ ha).1;exact jpi z (by omega) fun t tk=>⟨.int (cntK ks),H,I.tok _,⟨t,rfl⟩,q⟩
end
end L2
namespace DL
open PySem PySem.Spec L2
noncomputable def keyS:D->Option Key
 | .str x=>some (.inr x)
 | .int i=>some (.inl i)
 | _=>none
noncomputable def jif:List D->Option (List Key)
 | []=>some []
 | d::ds=>(keyS d).bind fun k=>(jif ds).map fun ks=>k::ks
noncomputable def jma:D->Option D
 | .lst ds=>(jif ds).bind fun ks=>if ks.length<4000 then some (.int (cntK ks)) else none
 | _=>none
theorem jsx{ρ:Rho}{K:W.Frag}{H:Hp}{d:D}{k:Key}{v:V}(h:keyS d=some k)(r:Rep ρ K H d v):v=kV k:=by
 cases d with
 | str x=>cases h;exact rep_str.mp r
 | int i=>cases h;exact rep_int.mp r
 | _=>cases h
theorem jk8{ρ:Rho}{K:W.Frag}{H:Hp}:∀ {ds:List D} {ks:List Key} {vs:List V},jif ds=some ks->Reps ρ K H ds vs->vs=ks.map kV
 | [],ks,vs,h,r=>by cases h;rw[reps_nil.mp r];rfl
 | d::ds,ks,vs,h,r=>by
  unfold jif at h
  cases hk:keyS d with
  | none=>rw[hk] at h;cases h
  | some k =>
   rw[hk] at h
   cases hs:jif ds with
   | none=>rw[hs] at h;cases h
   | some ks' =>
    rw[hs] at h;cases h;obtain⟨v,vs',rfl,q1,q2⟩:=reps_cons.mp r;rw[jsx hk q1,jk8 hs q2];rfl
section
variable {X:Cx}{O:List Nat}{E:XK}{e:Expr}{fa:DSt->M D}{p p2 p3 p4:Pos}
theorem jvs(hc:X.calm=true)(ms:X.mg "set"=none)(ml:X.mg "len"=none)(ha:DE X O E e fa)(gs:autoParam (Gl X "set") zau2._auto_1)(gl:autoParam (Gl X "len") zau2._auto_1)
  (he:autoParam (starEach [e] X.env=(false,eval e X.env)::starEach [] X.env) zau2._auto_1) (he2:autoParam (starEach [.Call (.Name "set" p2) [e] [] p3] X.env=(false,eval (.Call (.Name "set" p2) [e] [] p3) X.env)::starEach [] X.env) zau2._auto_1)
  (hp:autoParam ((backTo p3 (starEach [] X.env)).any (·.1)=false) zau2._auto_1) (hp2:autoParam ((backTo p4 (starEach [] X.env)).any (·.1)=false) zau2._auto_1) :
  DE X O E (.Call (.Name "len" p) [.Call (.Name "set" p2) [e] [] p3] [] p4) (f1 jma fa):=by
 rintro pins s σ H Q I ⟨ρ,Hz,F,δ,r,R,hf,k⟩;refine jhz jpj gl ml jdj (jd6 (jfp (jpl hc) gs ms jyb (jd6 ha jhj he) (by decide) (by decide) he hp) jhj he2) (by decide) (by decide) he2 hp2 pins s σ H Q I ?_;rcases M.b_inv hf with ⟨x,e1,hf⟩|⟨x,e1,rfl⟩
 ·refine⟨ρ,Hz,F,δ,.ok x,R,e1,fun v H1 s1 r1=>?_⟩;obtain⟨d,hd,rfl⟩:=M.o_inv hf
  cases x with
  | lst ds =>
   have hd:((jif ds).bind fun ks=>if ks.length<4000 then some (D.int (cntK ks)) else none)=some d:=hd
   cases hk:jif ds with
   | none=>rw[hk] at hd;cases hd
   | some ks =>
    rw[hk] at hd;have hd2:(if ks.length<4000 then some (D.int (cntK ks)) else none)=some d:=hd
    split at hd2
    ·rename_i hn;cases hd2;obtain⟨a,ys,rfl,q1,q2⟩:=rep_lst.mp r1;rw[jk8 hk q2] at q1;exact⟨a,ks,rfl,jcm jaj q1,hn,fun l hl=>⟨l,ks,rfl,jao,hn,k _ _ (s1.trans (ja1 hl)) (rep_int.mpr rfl)⟩⟩
    ·cases hd2
  | _=>cases hd
 ·exact⟨ρ,Hz,F,δ,.error x,R,e1,k⟩
end
theorem jvp{ks:List Key}(h:ks.Nodup):cntK ks=ks.length:=by
 have go:∀ i,i<=ks.length->met (jfi ks) i=ks.take i:=by
  intro i
  induction i with
  | zero=>intro _;rfl
  | succ i ih =>
   intro hi;have il:i<ks.length:=hi;have e:jfi ks i=ks[i]:=by unfold jfi;rw[zax il];rfl
   have ni:jfi ks i∉ks.take i:=by
    rw[e];intro c;obtain⟨j,hj,ej⟩:=List.mem_take_iff_getElem.mp c;have jl:j<i:=zcx hj (Nat.min_le_left _ _);exact absurd ((List.getElem_inj h).mp ej) (zcv jl)
   have im:=ih (Nat.le_of_lt il);rw[jwl (by rw[im];exact ni),im,e,List.take_append_getElem il]
 unfold cntK;rw[go _ (zac _),List.take_length]
theorem jk9(xs:List Str):jif (xs.map .str)=some (xs.map .inr):=by
 induction xs with
 | nil=>rfl
 | cons x xs ih=>rw[List.map_cons];unfold jif;rw[ih];rfl
theorem js1{xs:List Str}(h:xs.Nodup)(hn:xs.length<4000):jma (.lst (xs.map .str))=some (.int xs.length):=by
 show ((jif (xs.map .str)).bind fun ks=>if ks.length<4000 then some (D.int (cntK ks)) else none)=_;rw[jk9];show (if (xs.map (Sum.inr:Str->Key)).length<4000 then _ else none)=_;rw[zav,if_pos hn,jvp (List.Pairwise.map _ (fun a b c e=>c (Sum.inr.inj e)) h),zav]
noncomputable def txtD:D->Option (List D)
 | .str x=>some ((List.range x.cps.size).map fun i=>.str ⟨#[x.cps.getD i 0]⟩)
 | _=>none
noncomputable def jy4(f:DSt->M D):DSt->M (List D):=fun δ=>(f δ).b fun d=>M.o (txtD d)
section
variable {X:Cx}{O:List Nat}{E:XK}{tg iter:Expr}{fa:DSt->M D}
theorem jyi(h:DE X O E iter fa):DI X O E tg iter (jy4 fa):=by
 rintro pins s σ H R I ⟨ρ,Hz,F,δ,r,RS0,hf,k⟩;refine jAg h pins s σ H R I ?_;rcases M.b_inv hf with ⟨d,e1,hf⟩|⟨y,e1,rfl⟩
 ·refine⟨ρ,Hz,F,δ,.ok d,RS0,e1,fun v H1 s1 r1=>?_⟩;obtain⟨ds,hd,rfl⟩:=M.o_inv hf
  cases d with
  | str x =>
   cases hd;refine⟨x,rep_str.mp r1,k _ H1 s1 (jqc (by rw[zav,List.length_range]) fun i d hi H=>?_)⟩;rw[zba] at hi;obtain⟨j,hj,rfl⟩:=Option.map_eq_some_iff.mp hi;obtain⟨hl,e⟩:=zbb.mp hj;rw[List.getElem_range] at e;subst e;exact rep_str.mpr rfl
  | _=>cases hd
 ·exact⟨ρ,Hz,F,δ,.error y,RS0,e1,k⟩
end
end DL
namespace L2
open PySem PySem.Spec PyProof.Rows
section
variable {prog:Program}{w:World}{κ:Type}[DecidableEq κ]{knd:HeapKind prog w κ}{A:Around}{E:Value->Shared->Prop}{s:Shared}{d a:Addr}{xs:List (κ×Addr×Value)}{k:κ}
end
section
end
section
end
end L2
namespace DL
open PySem PySem.Spec L2
inductive LookV(ρ:Rho)(K:W.Frag)(H:Hp)(o:Option D)(v:Option V):Prop
 | none (h1:o=none) (h2:v=none)
 | some (d:D) (u:V) (h1:o=some d) (h2:v=some u) (h3:Rep ρ K H d u)
inductive ChkDI(x:D)(Ω Ω':Sto)(r:Except XD D):Prop
 | mk (n:Nat) (kvs:List (List Int×D)) (h1:x=.obj n) (h2:Ω[n]? = some (.dct kvs)) (h3:r=.ok (.obj n)) (h4:Ω'=Ω)
inductive AtDI(g:List (List Int×D)->List Int->Option (D×List (List Int×D)))(x:D)(ks:List D)(Ω Ω':Sto)(r:Except XD D):Prop
 | mk (n:Nat) (i j:Int) (kvs kvs':List (List Int×D)) (d:D) (h1:x=.obj n) (h2:ks=[.int i,.int j]) (h3:Ω[n]? = some (.dct kvs)) (h4:g kvs [i,j]=some (d,kvs')) (h5:r=.ok d) (h6:Ω'=Ω.set n (.dct kvs'))
section
end
section
end
noncomputable def jA5(Ω:Sto):D->Option (List D)
 | .obj n=>match Ω[n]? with
  | some (.lst ds)=>if ds.all jmy=true then some ds else none
  | _=>none
 | d=>seqD d
section
variable {ρ:Rho}{S:Addr->Bool}{H:Hp}{K:W.Frag}
inductive WalkI(ρ:Rho)(K:W.Frag)(S G0:Addr->Bool)(H:Hp)(ds:List D)(v:V):Prop
 | mk (k:Bool) (l:Addr) (xs:List V) (e:v=.ref l) (h:∀ G:Addr->Bool,(∀ b,G b=true->G0 b=true)->(S l=true->G l=false)->SqV k K (hid H G) l xs/\Reps ρ K (hid H G) ds xs)
end
inductive CompZI(own:Nat)(caps:List (Str×Nat))(h:D->DSt->Option DSt)(tc:DSt->M Bool)(fe:DSt->M D)(δ:DSt)(xs:List D)(Ω:Sto)(tot:List D):Prop
 | mk (x y:D) (ds es:List D) (h1:xs=[x,y]) (h2:jA5 Ω x=some ds) (h3:jA5 Ω y=some es) (h4:jet h tc fe (zipD ds es) (jf3 own caps δ)=some tot) (h5:tot.length<=sizeLine) (h6:tot.all jmy=true)
section
end
section
end
section
inductive TupSI(xs:List D)(Ω Ω':Sto)(r:Except XD D):Prop
 | mk (n:Nat) (ds:List D) (h1:xs=[.obj n]) (h2:Ω[n]? = some (.lst ds)) (h3:ds.all jmy=true) (h4:r=.ok (.tup ds)) (h5:Ω'=Ω)
end
end DL
namespace L2
open PySem PySem.Spec PyProof.Rows
section
variable {prog:Program}{w:World}{A:Around}{E:Value->Shared->Prop}{s:Shared}
theorem jsd{t b:Addr}{vs ws:List Value}{Q:Value->Shared->Prop}(ht:IsTup s.heap t vs.toArray)(hb:IsTup s.heap b ws.toArray)(hv:vs=[])(h1:Q (.ref b) s):wpAny (model prog w) A (binaryOp .Add (.ref t) (.ref b)) Q E s:=by
 obtain⟨⟨cls,dd,data,sl⟩,ho,hc,n,hd⟩:=id ht;obtain⟨⟨cls2,dd2,data2,sl2⟩,ho2,hc2,n2,hd2⟩:=id hb;simp only at hc hd hc2 hd2;subst hc hd hc2 hd2;exact concat_meets ⟨_,ho,rfl⟩ ⟨_,ho2,rfl⟩ noFill_tuple_add seq_tuple_add PySem.F.slot_tuple_add PySem.F.entry_tuple_add (PySem.F.args_tuple_add_2 _ _)
  (tuple_addW0 t b vs.toArray ws.toArray n n2 dd dd2 sl sl2 (by simp[hv])) ⟨ho,ho2,h1⟩
end
noncomputable def jxi(K:W.Frag):R2:=fun x y H Q=>∃ a b xs ys,x=.ref a/\y=.ref b/\SqT K H a xs/\SqT K H b ys/\xs=[]/\Q (.ref b) H
theorem op_catE{X:Cx}:OpR X (binaryOp .Add) (jxi X.K):=by
 intro pins s σ H x y v u Q I rx ry h;obtain⟨a,b,xs,ys,rfl,rfl,ha,hb,hx,q⟩:=h;cases rx;cases ry;obtain⟨its,r1,p1,_⟩:=I.tuple ha;obtain⟨its2,r2,p2,_⟩:=I.tuple hb;exact jsd p1 p2 (r1.nil_iff.mpr hx) ⟨.ref b,H,I,rfl,q⟩
end L2
namespace DL
open PySem PySem.Spec L2
noncomputable def jh9:D->D->Option D
 | .tup xs,.tup ys=>if xs.length+ys.length<=sizeLine then some (.tup (xs++ys)) else none
 | _,_=>none
section
variable {X:Cx}{e:Expr}
theorem jhy:OpD X.K jh9 (fun x y H Q=>jxi X.K x y H Q\/jrg X.K x y H Q):=by
 intro x y d hd ρ H G u v Q hG ru rv k;unfold jh9 at hd
 split at hd
 ·rename_i xs ys
  split at hd
  ·rename_i hz;cases hd;obtain⟨p,us,rfl,q1,q2⟩:=rep_tup.mp ru;obtain⟨q,ws,rfl,q3,q4⟩:=rep_tup.mp rv
   by_cases hx:xs=[]
   ·subst hx;refine .inl ⟨p,q,us,ws,rfl,rfl,jc1 jaj q1,jc1 jaj q3,reps_nil.mp q2,?_⟩;exact k _ H (Same.refl H) rv
   ·refine .inr ⟨p,q,us,ws,rfl,rfl,jc1 jaj q1,jc1 jaj q3,?_,by rw[q2.length,q4.length];exact hz,fun hw=>?_,fun hw l hl=>?_⟩
    ·intro z;have:=q2.length;rw[z] at this;exact hx (List.eq_nil_of_length_eq_zero this.symm)
    ·have hy:ys=[]:=by
      have:=q4.length;rw[hw] at this;exact List.eq_nil_of_length_eq_zero this.symm
     rw[hy,List.append_nil] at k;exact k _ H (Same.refl H) ru
    ·exact k _ _ (ja1 hl) (jby hl (hG l hl) (q2.append q4))
  ·cases hd
 ·cases hd
theorem jkj:OpR X (binaryOp .Add) (fun x y H Q=>jxi X.K x y H Q\/jrg X.K x y H Q):=op_catE.or jqz
theorem jq3:OpD X.K jni (fun x y H Q=>y=.non/\Q (.bl (!decide (x=.non))) H):=by
 intro x y d hd ρ H G u v Q hG ru rv k
 cases y with
 | non =>
  cases hd;refine⟨rep_non.mp rv,?_⟩;have e:decide (u=V.non)=juh x:=by
   cases x with
   | non=>cases rep_non.mp ru;rfl
   | bl _=>cases rep_bl.mp ru;rfl
   | int _=>cases rep_int.mp ru;rfl
   | str _=>cases rep_str.mp ru;rfl
   | ty _=>cases rep_ty.mp ru;rfl
   | obj _=>obtain⟨_,_,rfl⟩:=rep_obj.mp ru;rfl
   | tup _=>obtain⟨_,_,rfl,_⟩:=rep_tup.mp ru;rfl
   | lst _=>obtain⟨_,_,rfl,_⟩:=rep_lst.mp ru;rfl
  rw[e];exact k _ H (Same.refl H) (rep_bl.mpr rfl)
 | _=>cases hd
end
end DL
namespace L2
open PySem PySem.Spec PyProof.Rows
section
end
section
variable {n:Nat}{k:Nat->Int}
variable (kd:∀ i j,i<n->j<n->k i=k j->i=j)
include kd
end
open Att
section
end
open Att
inductive RwAt(h:Heap)(v:Value)(q:Int×Int):Prop
 | mk (ad:Addr) (its:Array Value) (t u:Tok) (rest:List Value) (e:v=.ref ad) (h1:IsTup h ad its) (h2:its.toList=.int q.1 t::.int q.2 u::rest)
noncomputable def rk(q:Int×Int):Int:=q.1*1000+q.2
noncomputable abbrev kk(ks:List (Int×Int))(i:Nat):Int:=rk (ks.getD i (0,0))
section
end
section
noncomputable def okK(ks:List (Int×Int)):Bool:=decide (ks.length<64)&&ks.all (fun q=>decide (0<=q.2)&&decide (q.2<1000))&&decide ((ks.map rk).Nodup)
inductive OkK(ks:List (Int×Int)):Prop
 | mk (h1:ks.length<64) (h2:∀ q∈ks,0<=q.2/\q.2<1000) (h3:∀ i j,i<ks.length->j<ks.length->kk ks i=kk ks j->i=j)
inductive RowV(K:W.Frag)(H:Hp)(v:V)(q:Int×Int):Prop
 | mk (a:Addr) (r:List V) (e:v=.ref a) (h:SqT K H a (.int q.1::.int q.2::r))
inductive rSortR(K:W.Frag)(xs:List V)(H:Hp)(Q:VK):Prop
 | mk (p:Addr) (ys:List V) (ks:List (Int×Int)) (h1:xs=[.ref p]) (h2:SqL K H p ys) (h3:ks.length=ys.length) (h4:∀ (i:Nat) v q,ys[i]? = some v->ks[i]? = some q->RowV K H v q) (h5:OkK ks)
  (h6:∀ pp:List Nat,pp.Perm (List.range ys.length)->pp.Pairwise (fun i j=>kk ks i<kk ks j)->∀ l,H l=none->Q (.ref l) (upd H l (.lst (pp.map fun i=>ys.getD i .non))))
end
end L2
namespace DL
open PySem PySem.Spec PyProof.Rows L2
noncomputable def keyD:D->Option (Int×Int)
 | .tup (.int a::.int b::_)=>some (a,b)
 | _=>none
noncomputable def jzg:List D->Option (List (Int×Int))
 | []=>some []
 | d::ds=>(keyD d).bind fun q=>(jzg ds).map fun qs=>q::qs
noncomputable def kdD(d:D):Int:=((keyD d).map rk).getD 0
noncomputable def jCy(ds:List D):List D:=ds.mergeSort fun a b=>decide (kdD a<=kdD b)
section
end
section
inductive ListSI(xs:List D)(Ω Ω':Sto)(r:Except XD D):Prop
 | mk (n:Nat) (ds:List D) (h1:xs=[.obj n]) (h2:Ω[n]? = some (.lst ds)) (h4:r=.ok (.lst ds)) (h5:Ω'=Ω)
inductive SortDI(xs:List D)(Ω Ω':Sto)(r:Except XD D):Prop
 | mk (n:Nat) (h1:xs=[.obj n]) (h2:Ω[n]? = some (.dct [])) (h4:r=.ok (.lst [])) (h5:Ω'=Ω)
end
end DL
namespace L2
open PySem PySem.Spec PyProof.Rows
section
end
end L2
namespace DL
open PySem PySem.Spec L2
section
end
end DL
namespace L2
open PySem PySem.Spec PyProof.Rows
open Att
inductive RawD(h:Heap)(d:Addr)(es:Array DictEntry)(ep:Nat):Prop
 | mk (o:Obj) (g:h.get? d=some o) (x:o.ExactDict) (y:o.data=.dict es ep)
section
end
noncomputable abbrev ofK(q:Int×Int):List Key:=[Sum.inl q.1,Sum.inl q.2]
inductive rSortD(xs:List V)(H:Hp)(Q:VK):Prop
 | mk (p:Addr) (kvs:List (List Key×V)) (ks:List (Int×Int)) (h1:xs=[.ref p]) (h2:H p=some (.dT kvs)) (h3:kvs.map (·.1)=ks.map ofK) (h4:OkK ks)
  (h5:∀ ads:List Addr,ads.length=ks.length->(∀ (i:Nat) ad q,ads[i]? = some ad->ks[i]? = some q->H ad=some (.tup [.int q.1,.int q.2]))->∀ pp:List Nat,pp.Perm (List.range ks.length)->pp.Pairwise (fun i j=>kk ks i<kk ks j)->∀ l,H l=none->Q (.ref l) (upd H l (.lst (pp.map fun i=>(ads.map V.ref).getD i .non))))
inductive DAt(K:W.Frag)(H:Hp)(x y:V)(a:Addr)(kvs:List (List Key×V))(k:List Key):Prop
 | mk (b:Addr) (h1:x=.ref a) (h2:y=.ref b) (h3:H a=some (.dT kvs)) (h4:SqT K H b (k.map kV))
section
end
section
end
end L2
namespace DL
open PySem PySem.Spec L2
noncomputable def res1(Ω:Sto):D->Option D
 | .obj i=>match Ω[i]? with
  | some (.lst ds)=>some (.lst ds)
  | _=>none
 | d=>some d
noncomputable def resL(Ω:Sto):List D->Option (List D)
 | []=>some []
 | d::ds=>(res1 Ω d).bind fun x=>(resL Ω ds).map fun xs=>x::xs
noncomputable def resD(Ω:Sto):D->Option D
 | .lst ds=>(resL Ω ds).map .lst
 | d=>res1 Ω d
section
end
inductive NeSI(x y:D)(Ω Ω':Sto)(r:Except XD D):Prop
 | mk (x' y':D) (h1:resD Ω x=some x') (h2:resD Ω y=some y') (h3:(okD x'&&okD y'&&decide (depD x'<=20))=true) (h4:r=.ok (.bl !(eqB x' y'))) (h5:Ω'=Ω)
section
end
inductive AtSI(g:List (List Int×D)->List Int->Option (D×List (List Int×D)))(x y:D)(Ω Ω':Sto)(r:Except XD D):Prop
 | mk (n:Nat) (i j:Int) (kvs kvs':List (List Int×D)) (d:D) (h1:x=.obj n) (h2:y=.tup [.int i,.int j]) (h3:Ω[n]? = some (.dct kvs)) (h4:g kvs [i,j]=some (d,kvs')) (h5:r=.ok d) (h6:Ω'=Ω.set n (.dct kvs'))
section
variable {ρ:Rho}{S:Addr->Bool}{H:Hp}{K:W.Frag}
inductive DctAt(ρ:Rho)(S:Addr->Bool)(K:W.Frag)(H Hv:Hp)(n:Nat)(kvs:List (List Int×D))(u:V):Prop
 | mk (a:Addr) (vk:List (List Key×V)) (h1:u=.ref a) (h2:ρ n=some a) (h3:S a=true) (h4:H a=some (.dT vk)) (h5:vk.map (·.1)=kvs.map (fun p=>p.1.map Sum.inl)) (h6:Reps ρ K Hv (kvs.map (·.2)) (vk.map (·.2)))
inductive PairAt(K:W.Frag)(H:Hp)(i j:Int)(u:V):Prop
 | mk (b:Addr) (h1:u=.ref b) (h2:SqT K H b [.int i,.int j])
end
section
noncomputable def keyT(p:List Int×D):D:=.tup (p.1.map .int)
inductive SortI2(xs:List D)(Ω Ω':Sto)(r:Except XD (List D)):Prop
 | mk (n:Nat) (kvs:List (List Int×D)) (ks:List (Int×Int)) (h1:xs=[.obj n]) (h2:Ω[n]? = some (.dct kvs)) (h3:jzg (kvs.map keyT)=some ks) (h4:okK ks=true) (h5:kvs.map (·.1)=ks.map fun q=>[q.1,q.2]) (h6:r=.ok (jCy (kvs.map keyT))) (h7:Ω'=Ω)
end
end DL
namespace L2
open PySem PySem.Spec PyProof.Rows
section
end
end L2
namespace DL
open PySem PySem.Spec L2
mutual
noncomputable def jsn:D->Bool
 | .tup ds=>freeL ds
 | .lst _=>false
 | _=>true
noncomputable def freeL:List D->Bool
 | []=>true
 | d::ds=>jsn d&&freeL ds
end
noncomputable def Ny(H:Hp)(G G':Addr->Bool):Prop:=∀ b,G' b=true->G b=true\/(∀ xs,¬ Rd H b (.tup xs))
mutual
theorem jso{ρ:Rho}{K:W.Frag}{H:Hp}{G G':Addr->Bool}(n:Ny H G G'):∀ {d:D} {v:V},jsn d=true->Rep ρ K (hid H G) d v->Rep ρ K (hid H G') d v
 | .non,_,_,h=>by unfold Rep at h |-;exact h
 | .bl _,_,_,h=>by unfold Rep at h |-;exact h
 | .int _,_,_,h=>by unfold Rep at h |-;exact h
 | .str _,_,_,h=>by unfold Rep at h |-;exact h
 | .ty _,_,_,h=>by unfold Rep at h |-;exact h
 | .obj _,_,_,h=>by unfold Rep at h |-;exact h
 | .lst _,_,f,_=>by unfold jsn at f;cases f
 | .tup ds,_,f,h=>by
  unfold jsn at f;unfold Rep at h |-
  obtain⟨a,xs,q1,q2,q3⟩:=h;refine⟨a,xs,q1,q2.imp (fun z=>?_) id,free_reps n f q3⟩;have hv:∀ o,hid H G a=some o->hid H G' a=some o:=fun o q=>by
   obtain⟨g1,g2⟩:=hid_some.mp q;refine hid_some.mpr ⟨?_,g2⟩
   cases e:G' a with
   | false=>rfl
   | true =>
    rcases n a e with w|w
    ·rw[g1] at w;cases w
    ·exfalso;rcases z with z|⟨o',z⟩
     ·exact w xs (.inl (hid_some.mp z).2)
     ·exact w xs (.inr ⟨o',(hid_some.mp z).2⟩)
  rcases z with z|⟨o,z⟩
  ·exact .inl (hv _ z)
  ·exact .inr ⟨o,hv _ z⟩
theorem free_reps{ρ:Rho}{K:W.Frag}{H:Hp}{G G':Addr->Bool}(n:Ny H G G'):∀ {ds:List D} {vs:List V},freeL ds=true->Reps ρ K (hid H G) ds vs->Reps ρ K (hid H G') ds vs
 | [],_,_,h=>by unfold Reps at h |-;exact h
 | d::ds,_,f,h=>by
  unfold freeL at f;rw[Bool.and_eq_true] at f;unfold Reps at h |-
  obtain⟨v,vs,q1,q2,q3⟩:=h;exact⟨v,vs,q1,jso n f.1 q2,free_reps n f.2 q3⟩
end
section
variable {O:List Nat}{E:XK}{e:Expr}{es:List Expr}
section
end
inductive tDP(K:W.Frag)(O:List Nat)(f:DSt->M D)(σ:L2.St)(H:Hp)(Q:VK):Prop
 | mk (ρ:Rho) (Hz:Hp) (F:Addr->Bool) (δ:DSt) (es:List D) (R:RS ρ K Hz H F O σ δ) (hf:f δ=some (.ok (.tup es))) (k:∀ l xs H',Same H H'->H' l=some (.tup xs)->fob F σ O l=false->Reps ρ K (hid H' (fob F σ O)) es xs->Q (.ref l) H')
inductive spT(K:W.Frag)(n:Nat)(m:List D->M D)(vs:List V)(H:Hp)(Q:VK)(E:XK):Prop
 | mk (hn:vs.length=n) (ρ:Rho) (ds es:List D) (F:Addr->Bool) (hF:∀ b,F b=true->H b≠none) (hr:Reps ρ K (hid H F) ds vs) (hf:m ds=some (.ok (.tup es))) (k:∀ l xs H',Same H H'->H' l=some (.tup xs)->F l=false->Reps ρ K (hid H' F) es xs->Q (.ref l) H')
structure CalT(P:Program)(w:World)(K:W.Frag)(mg:Str->Option Value)(base:Heap)(k:Nat)(x:Str)(n:Nat)(m:List D->M D):Prop where
 ex:CalX P w K mg base k x n (spT K n m)
 ar:∀ ds r,m ds=some r->ds.length=n
end
section
end
end DL
namespace L2
open PySem PySem.Spec PyProof.Rows
end L2
namespace DL
open PySem PySem.Spec L2
inductive AtGI(g:List (List Int×D)->List Int->Option (D×List (List Int×D)))(x:D)(k:List Int)(Ω Ω':Sto)(r:Except XD D):Prop
 | mk (n:Nat) (kvs kvs':List (List Int×D)) (d:D) (h1:x=.obj n) (h3:Ω[n]? = some (.dct kvs)) (h4:g kvs k=some (d,kvs')) (h5:r=.ok d) (h6:Ω'=Ω.set n (.dct kvs'))
section
end
end DL
namespace L2
open PySem PySem.Spec PyProof.Rows
noncomputable abbrev jBq:Obj:={ cls:=.type "cell",data:=.cell none }
structure CapsX(X:Cx)(scope:Scope)(caps:List (Str×Nat))(y:Str):Prop where
 kind:scope.kind=.function
 only:∀ x∈scope.names,x.2=.cell->x.1=y
 yc:scope.names.lookup y=some .cell
 loc:∀ x∈scope.names,x.2=.local->scope.names.lookup x.1=some .local
 fre:∀ p∈scope.names,p.2=.free->X.env.kindOf p.1=some .cell\/X.env.kindOf p.1=some .free
 cap:∀ p∈caps,X.N[p.2]? = some p.1/\scope.names.lookup p.1=some .free
 cf:∀ n acc,cellsFrom n scope.names acc=(y,n)::acc
 pc:∀ h,pushCells h scope.names=h.push jBq
section
end
end L2
namespace DL
open PySem PySem.Spec L2
noncomputable def jsf(h:D->DSt->Option DSt)(tc:DSt->M Bool)(fe:DSt->MS D):List D->DSt->MS (List D)
 | [],_=>MS.p []
 | d::ds,δ=>match h d δ with
  | none=>fun _=>none
  | some δ1=>match tc δ1 with
   | some (.ok true)=>(fe δ1).b fun y=>(jsf h tc fe ds δ1).b fun ys=>MS.p (y::ys)
   | some (.ok false)=>jsf h tc fe ds δ1
   | _=>fun _=>none
inductive CTI(h:D->DSt->Option DSt)(tc:DSt->M Bool)(fe:DSt->MS D)(ds:List D)(δ1:DSt)(Ω Ω':Sto)(r:Except XD (List D)):Prop
 | yes (e:tc δ1=some (.ok true)) (k:((fe δ1).b fun y=>(jsf h tc fe ds δ1).b fun ys=>MS.p (y::ys)) Ω=some (r,Ω'))
 | no (e:tc δ1=some (.ok false)) (k:jsf h tc fe ds δ1 Ω=some (r,Ω'))
inductive CET(X:Cx)(ρ1:Rho)(S1:Addr->Bool)(H1 Hv:Hp)(G:Addr->Bool)(Dd:Addr)(T:Except XD (List D))(Ωe:Sto)(cd:DSt->MS (List D))(i:Nat)(σ:St)(H:Hp):Prop
 | mk (ρ:Rho) (S:Addr->Bool) (δ:DSt) (Ω:Sto) (done:List D) (zs:List V) (rr:Except XD (List D)) (hR:RM ρ S H G X.K X.mg [] ρ S H σ δ Ω) (hD:H Dd=some (.lst zs)) (hz:Reps ρ X.K (hid H (un G S)) done zs) (hlen:zs.length<=i)
  (hc:cd δ Ω=some (rr,Ωe)) (hT:T=jzb done rr) (hv:Same Hv (hid H (un G S))) (hl:RLe ρ1 ρ) (hsm:∀ b o,S1 b=false->H1 b=some o->H b=some o) (hold:∀ b,S1 b=true->S b=true) (hnew:∀ b,S b=true->S1 b=true\/H1 b=none)
section
end
end DL
namespace L2
open PySem PySem.Spec PyProof.Rows
end L2
namespace DL
open PySem PySem.Spec L2
mutual
noncomputable def plD:D->Bool
 | .tup ds=>plL ds
 | .lst _=>false
 | .obj _=>false
 | _=>true
noncomputable def plL:List D->Bool
 | []=>true
 | d::ds=>plD d&&plL ds
end
mutual
theorem jAj{ρ ρ':Rho}{K:W.Frag}{Ha Hb:Hp}(n:∀ b xs,Rd Ha b (.tup xs)->Rd Hb b (.tup xs)):∀ {d:D} {v:V},plD d=true->Rep ρ K Ha d v->Rep ρ' K Hb d v
 | .non,_,_,h=>by unfold Rep at h |-;exact h
 | .bl _,_,_,h=>by unfold Rep at h |-;exact h
 | .int _,_,_,h=>by unfold Rep at h |-;exact h
 | .str _,_,_,h=>by unfold Rep at h |-;exact h
 | .ty _,_,_,h=>by unfold Rep at h |-;exact h
 | .obj _,_,f,_=>by unfold plD at f;cases f
 | .lst _,_,f,_=>by unfold plD at f;cases f
 | .tup ds,_,f,h=>by
  unfold plD at f;unfold Rep at h |-
  obtain⟨a,xs,q1,q2,q3⟩:=h;exact⟨a,xs,q1,q2.imp (n a xs) id,pl_reps n f q3⟩
theorem pl_reps{ρ ρ':Rho}{K:W.Frag}{Ha Hb:Hp}(n:∀ b xs,Rd Ha b (.tup xs)->Rd Hb b (.tup xs)):∀ {ds:List D} {vs:List V},plL ds=true->Reps ρ K Ha ds vs->Reps ρ' K Hb ds vs
 | [],_,_,h=>by unfold Reps at h |-;exact h
 | d::ds,_,f,h=>by
  unfold plL at f;rw[Bool.and_eq_true] at f;unfold Reps at h |-
  obtain⟨v,vs,q1,q2,q3⟩:=h;exact⟨v,vs,q1,jAj n f.1 q2,pl_reps n f.2 q3⟩
end
noncomputable def apart:List D->List D->Bool
 | [],_::_=>true
 | .tup _::_,.int _::_=>true
 | .tup a::_,.tup b::_=>a.length != b.length
 | _,_=>false
inductive OwnI(m:List D->MS D)(fl:DSt->M (List D))(δ:DSt)(Ω:Sto)(r:Except XD D)(Ω':Sto):Prop
 | nil (hs:List D) (n:Int) (s:Str) (G:Sto) (h0:Ω=[]) (h1:fl δ=some (.ok [.lst hs,.int n])) (h2:plL hs=true) (h3:m [.lst hs,.int n] []=some (.ok (.tup [.str s,.lst []]),G)) (h4:r=.ok (.tup [.str s,.lst []])) (h5:Ω'=[])
 | own (hs:List D) (n:Int) (s:Str) (G:Sto) (es:List D) (h0:Ω=[]) (h1:fl δ=some (.ok [.lst hs,.int n])) (h2:plL hs=true) (h3:m [.lst hs,.int n] []=some (.ok (.tup [.str s,.lst es]),G)) (h4:r=.ok (.tup [.str s,.obj 0])) (h5:Ω'=[.lst es]) (h6:apart hs es=true) (h7:plL es=true)
noncomputable def jwd:Option HO->Bool
 | some (.lst _)=>true
 | some (.frz _ (.lst _))=>true
 | _=>false
noncomputable def hidL(F S:Addr->Bool)(H:Hp)(h:Addr):Addr->Bool:=fun b=>F b || (jwd (H b)&&!(S b)&&!(b == h))
section
variable {X:Cx}{O:List Nat}{o:Expr}
variable {ρ ρ':Rho}{S S' F:Addr->Bool}{H H1 H':Hp}{σ:St}{G:Sto}
inductive OwnQ(X:Cx)(F S:Addr->Bool)(O:List Nat)(ρ:Rho)(σ:St)(H:Hp)(hs:List D)(d:D)(G:Sto)(v:V)(H':Hp):Prop
 | mk (h:Addr) (xs:List V) (H1:Hp) (ρ':Rho) (S':Addr->Bool) (s1:Same H H1) (hh:SqL X.K (hid H1 (fob (un F S) σ O)) h xs) (hr:Reps ρ X.K (hid H1 (fob (un F S) σ O)) hs xs)
   (sm:∀ b o,S b=false->H1 b=some o->H' b=some o) (old:∀ b,S b=true->S' b=true) (new:∀ b,S' b=true->S b=true\/H1 b=none) (sto:StoOk ρ' S' X.K X.mg H' (hid H' (un (hidL (fob F σ O) S H1 h) S')) G) (rv:Rep ρ' X.K (hid H' (un (hidL (fob F σ O) S H1 h) S')) d v)
end
open Classical in
noncomputable def jik(m:List D->M D)(fl:DSt->MS (List D)):DSt->MS D:=fun δ Ω=>match fl δ Ω with
 | some (.ok [.obj i,.int j],Ω1)=>match Ω1[i]? with
  | some (.lst a)=>match m [.lst a,.int j] with
   | some (.ok (.lst es))=>if okDs a=true/\okDs es=true/\plL es=true/\a≠es then some (.ok (.lst es),Ω1) else none
   | _=>none
  | _=>none
 | _=>none
inductive ClLI(m:List D->M D)(fl:DSt->MS (List D))(δ:DSt)(Ω:Sto)(r:Except XD D)(Ω':Sto):Prop
 | mk (i:Nat) (j:Int) (a es:List D) (h1:fl δ Ω=some (.ok [.obj i,.int j],Ω')) (h2:Ω'[i]? = some (.lst a)) (h3:m [.lst a,.int j]=some (.ok (.lst es))) (oa:okDs a=true) (oe:okDs es=true) (pe:plL es=true) (ne:a≠es) (h4:r=.ok (.lst es))
theorem jvn{m:List D->M D}{fl:DSt->MS (List D)}{δ:DSt}{Ω:Sto}{r:Except XD D}{Ω':Sto}(h:jik m fl δ Ω=some (r,Ω')):ClLI m fl δ Ω r Ω':=by
 unfold jik at h
 split at h
 ·rename_i i j Ω1 e1
  split at h
  ·rename_i a e2
   split at h
   ·rename_i es e3
    split at h
    ·rename_i e4;cases h;exact⟨i,j,a,es,e1,e2,e3,e4.1,e4.2.1,e4.2.2.1,e4.2.2.2,rfl⟩
    ·cases h
   ·cases h
  ·cases h
 ·cases h
section
variable {X:Cx}{O:List Nat}{a b e o:Expr}{es:List Expr}{fl:DSt->MS (List D)}{fa fb:DSt->MS D}{pos p:Pos}{x:Str}{k n:Nat}
inductive ClQ(X:Cx)(ρz:Rho)(Sz:Addr->Bool)(Hz:Hp)(F:Addr->Bool)(O:List Nat)(ρ:Rho)(S:Addr->Bool)(H:Hp)(σ:St)(δ:DSt)(Ω':Sto)(a es:List D)(v:V)(H':Hp):Prop
 | mk (ρ1:Rho) (S1:Addr->Bool) (H1:Hp) (ad:Addr) (xs:List V) (R1:RM ρz Sz Hz F X.K X.mg O ρ1 S1 H1 σ δ Ω') (l1:RLe ρ ρ1) (v1:Same (hid H (fob (un F S) σ O)) (hid H1 (fob (un F S1) σ O))) (hH:H1 ad=some (.lst xs)) (r1:Reps ρ1 X.K (hid H1 (fob (un F S1) σ O)) a xs)
   (sm:Same H1 H') (rv:Rep ρ1 X.K (hid H' fun b=>fob (un F S1) σ O b&&!(b == ad)) (.lst es) v)
theorem js8{m:List D->M D}(C:Cal X.prog X.w X.K X.mg X.base k x n m)(hr:Room k X.A)(ha:MA X O (e::es) fl)(hg:autoParam (Gl X x) zau2._auto_1)(hdb:autoParam ((x == ("__debug__":Str))=false) zau1._auto_1)(he:autoParam (starEach (e::es) X.env=(false,eval e X.env)::starEach es X.env) zau2._auto_1)
  (hpl:autoParam ((backTo pos (starEach es X.env)).any (·.1)=false) zau2._auto_1):ME X O (.Call (.Name x p) (e::es) [] pos) (jik m fl):=by
 rintro pins s σ H Q I ⟨ρz,Sz,Hz,F,ρ,S,δ,Ω,R,r,Ω',hf,k⟩;obtain⟨f,fd,ps,hl,hm,hk,hb,G⟩:=C.ex;obtain⟨i,j,as,es',e1,e2,e3,oa,oe,pe,ne,rfl⟩:=jvn hf;refine thn (jhb G hr hg hm hk hb .nil (fun _ _ _ _ _ _ _ z=>z.elim) ha hdb he hpl pins s σ H (ClQ X ρz Sz Hz F O ρ S H σ δ Ω' as es') I (E:=E0) ⟨ρz,Sz,Hz,F,ρ,S,δ,Ω,R,.ok [.obj i,.int j],Ω',e1,fun vs ρ1 S1 H1 R1 l1 v1 r1=>?_⟩) fun u s2 ⟨v,H',I',ru,ρ1,S1,H1,ad,xs,R1,l1,v1,hH,r1,sm,rv⟩=>?_
 ·show spD X.K n m (vs++[]) H1 _ E0;rw[List.append_nil];obtain⟨v,vs',rfl,q1,rt⟩:=reps_cons.mp r1;obtain⟨v',vs2,rfl,q2,rn⟩:=reps_cons.mp rt;cases reps_nil.mp rn;obtain⟨ad,p1,rfl⟩:=rep_obj.mp q1;obtain⟨ad',p2,p3,xs,p4,p5⟩:=R1.sto.ats i _ e2;rw[p1] at p2;cases p2
  have le:Same (hid H1 (fob (un F S1) σ O)) (hid H1 fun b=>fob (un F S1) σ O b&&!(b == ad)):=jee fun b q=>by
   rw[Bool.and_eq_true] at q;exact q.1
  refine⟨C.ar _ _ e3,ρ1,[.lst as,.int j],.ok (.lst es'),fun b=>fob (un F S1) σ O b&&!(b == ad),fun b hb z=>?_,?_,e3,fun v H' sm rv=>?_⟩
  ·rw[Bool.and_eq_true] at hb;rw[R1.fresh z] at hb;exact absurd hb.1 (by decide)
  ·refine Reps.cons (rep_lst.mpr ⟨ad,xs,rfl,SqL.of (hid_some.mpr ⟨by rw[beq_self_eq_true];simp,p4⟩),p5.mono le⟩) (Reps.cons (q2.mono le) Reps.nil)
  ·exact⟨ρ1,S1,H1,ad,xs,R1,l1,v1,p4,p5,sm,rv⟩
 ·have R2:=R1.mono sm;refine⟨v,H',I',ru,k v ρ1 S1 H' R2 l1 (v1.trans (jap sm)) ?_⟩;obtain⟨l,zs,rfl,q3,q4⟩:=rep_lst.mp rv;have hH':=sm _ _ hH;have lne:l≠ad:=fun z=>by
   subst z;have w1:Rep ρ1 X.K H' (.lst as) (.ref l):=rep_lst.mpr ⟨l,xs,rfl,SqL.of hH',r1.mono ((jap sm).trans jaj)⟩;have w2:Rep ρ1 X.K H' (.lst es') (.ref l):=rv.mono jaj;have:=jms I' (by unfold okD;exact oa) (by unfold okD;exact oe) w1 w2;cases this;exact ne rfl
  have up:∀ {b:Addr} {w:HO},b≠ad->hid H' (fun b=>fob (un F S1) σ O b&&!(b == ad)) b=some w->hid H' (fob (un F S1) σ O) b=some w:=fun {b w} hb q=>by
   obtain⟨q1,q2⟩:=hid_some.mp q;refine hid_some.mpr ⟨?_,q2⟩
   cases z:fob (un F S1) σ O b with
   | false=>rfl
   | true =>
    rw[z,beq_eq_false_iff_ne.mpr hb] at q1;cases q1
  refine rep_lst.mpr ⟨l,zs,rfl,q3.imp (fun z=>?_) id,pl_reps (fun b ys z=>?_) pe q4⟩
  ·rcases z with z|⟨o,z⟩
   ·exact .inl (up lne z)
   ·exact .inr ⟨o,up lne z⟩
  ·have bne:b≠ad:=fun w=>by
    subst w;rcases z with z|⟨o,z⟩
    ·rw[(hid_some.mp z).2] at hH';cases hH'
    ·rw[(hid_some.mp z).2] at hH';cases hH'
   rcases z with z|⟨o,z⟩
   ·exact .inl (up bne z)
   ·exact .inr ⟨o,up bne z⟩
noncomputable def mSlL(fa:DSt->MS D)(fl fh:DSt->M (Option Int)):DSt->MS D:=fun δ=>(fa δ).b fun x=>(MS.l (fl δ)).b fun lo=>(MS.l (fh δ)).b fun hi Ω=>match rs1 Ω x with
 | some (.lst ds)=>some (.ok (.lst (cutL ds lo hi)),Ω)
 | _=>none
theorem jzt{lo hi:Option Expr}{fl fh:DSt->M (Option Int)}{p2:Pos}(ha:ME X O e fa)(hl:DO X O E0 lo fl)(hh:DO X O E0 hi fh):ME X O (.Subscript e (.Slice lo hi none p2) pos) (mSlL fa fl fh):=by
 rintro pins s σ H Q I ⟨ρz,Sz,Hz,F,ρ,S,δ,Ω,R,r,Ω',hf,k⟩;refine jns sl_list ha hl hh pins s σ H Q I ?_;rcases MS.b_inv hf with ⟨x,Ω1,e1,hf⟩|⟨x,e1,rfl⟩
 ·refine⟨ρz,Sz,Hz,F,ρ,S,δ,Ω,R,.ok x,Ω1,e1,fun v ρ1 S1 H1 R1 l1 v1 r1=>?_⟩;rcases MS.b_inv hf with ⟨l,Ω2,e2,hf2⟩|⟨y,e2,rfl⟩
  ·obtain⟨g2,rfl⟩:=MS.l_inv e2;refine⟨ρ1,_,un F S1,δ,.ok l,R1.rs,g2,fun H2 s2=>?_⟩;rcases MS.b_inv hf2 with ⟨h,Ω3,e3,hf3⟩|⟨y,e3,rfl⟩
   ·obtain⟨g3,rfl⟩:=MS.l_inv e3;have R2:=R1.mono s2;refine⟨ρ1,_,un F S1,δ,.ok h,R2.rs,g3,fun H3 s3=>?_⟩;have R3:=R2.mono s3;have r3:=r1.mono (jap (s2.trans s3))
    split at hf3
    ·rename_i ds hds;cases hf3;have view:∃ ad ys,v=.ref ad/\SqL X.K H3 ad ys/\Reps ρ1 X.K (hid H3 (fob (un F S1) σ O)) ds ys:=by
      cases x with
      | obj n =>
       unfold DL.rs1 at hds;dsimp only at hds
       split at hds
       ·rename_i ds' hi';cases hds;obtain⟨ad,q1,q2⟩:=rep_obj.mp r3;obtain⟨ad',p1,p2,ys,p3,p4⟩:=R3.sto.ats n _ hi';rw[q1] at p1;cases p1
        exact⟨ad,ys,q2,SqL.of p3,p4⟩
       ·cases hds
      | lst ds' =>
       cases hds;obtain⟨ad,ys,rfl,q2,q3⟩:=rep_lst.mp r3;exact⟨ad,ys,rfl,jcm jaj q2,q3⟩
      | _=>cases hds
     obtain⟨ad,ys,rfl,p3,p4⟩:=view;exact⟨ad,ys,rfl,p3,fun q hq=>k _ ρ1 S1 _ (R3.mono (ja1 hq)) l1 (v1.trans (jap (s2.trans (s3.trans (ja1 hq))))) (jcq hq (R3.fresh hq) (p4.cut l h))⟩
    ·cases hf3
   ·obtain⟨g3,rfl⟩:=MS.l_inv e3;exact⟨ρ1,_,un F S1,δ,.error y,(R1.mono s2).rs,g3,fun c dx H' _ z=>z.elim⟩
  ·obtain⟨g2,rfl⟩:=MS.l_inv e2;exact⟨ρ1,_,un F S1,δ,.error y,R1.rs,g2,fun c dx H' _ z=>z.elim⟩
 ·exact⟨ρz,Sz,Hz,F,ρ,S,δ,Ω,R,.error x,_,e1,trivial⟩
noncomputable def jil(m:List D->MS D)(fl:DSt->MS (List D)):DSt->MS D:=fun δ Ω=>match jdp m fl δ Ω with
 | some (.ok d,Ω')=>some (.ok d,Ω')
 | _=>none
theorem js9{m:List D->MS D}(C:CalR X.prog X.w X.K X.mg X.base k x n m)(hr:Room k X.A)(ha:MA X O (e::es) fl)(hg:autoParam (Gl X x) zau2._auto_1)(hdb:autoParam ((x == ("__debug__":Str))=false) zau1._auto_1)(he:autoParam (starEach (e::es) X.env=(false,eval e X.env)::starEach es X.env) zau2._auto_1)
  (hpl:autoParam ((backTo pos (starEach es X.env)).any (·.1)=false) zau2._auto_1):ME X O (.Call (.Name x p) (e::es) [] pos) (jil m fl):=by
 rintro pins s σ H Q I ⟨ρz,Sz,Hz,F,ρ,S,δ,Ω,R,r,Ω',hf,k⟩;obtain⟨f,fd,ps,hl,hm,hk,hb,G⟩:=C.ex;unfold jil at hf
 split at hf
 ·rename_i d Ω2 e1;cases hf;exact jhb G hr hg hm hk hb .nil (fun _ _ _ _ _ _ _ ⟨_,_,_,_,_,_,_,_,_,_,_,_,z⟩=>z.elim) ha hdb he hpl pins s σ H Q I (E:=E0) (jj3 C.ar R e1 k)
 ·cases hf
noncomputable def eqR(x y:D):MS D:=fun Ω=>match rsT Ω x,rsT Ω y with
 | some x',some y'=>if (okD x'&&okD y'&&decide (depD x'<=20))=true then some (.ok (.bl (eqB x' y')),Ω) else none
 | _,_=>none
inductive EqRI(x y:D)(Ω Ω':Sto)(r:Except XD D):Prop
 | mk (x' y':D) (h1:rsT Ω x=some x') (h2:rsT Ω y=some y') (h3:(okD x'&&okD y'&&decide (depD x'<=20))=true) (h4:r=.ok (.bl (eqB x' y'))) (h5:Ω'=Ω)
theorem jvx{x y:D}{Ω Ω':Sto}{r:Except XD D}(h:eqR x y Ω=some (r,Ω')):EqRI x y Ω Ω' r:=by
 unfold eqR at h
 split at h
 ·rename_i x' y' h1 h2
  split at h
  ·rename_i h3;cases h;exact⟨x',y',h1,h2,h3,rfl,rfl⟩
  ·cases h
 ·cases h
noncomputable def mEqR(fa fb:DSt->MS D):DSt->MS D:=fun δ=>(fa δ).b fun x=>(fb δ).b fun y=>eqR x y
theorem jyz{σ:St}{H:Hp}{Q:VK}(h:tE X.K X.mg O (mEqR fa fb) σ H Q):tOp (rEqD X.K false) (tE X.K X.mg O fa) (tE X.K X.mg O fb) σ H Q:=by
 obtain⟨ρz,Sz,Hz,F,ρ,S,δ,Ω,R,r,Ω',hf,k⟩:=h;rcases MS.b_inv hf with ⟨x,Ω1,e1,hf⟩|⟨x,e1,rfl⟩
 ·refine⟨ρz,Sz,Hz,F,ρ,S,δ,Ω,R,.ok x,Ω1,e1,fun u ρ1 S1 H1 R1 l1 v1 r1=>?_⟩;rcases MS.b_inv hf with ⟨y,Ω2,e2,hf⟩|⟨y,e2,rfl⟩
  ·refine⟨ρz,Sz,Hz,F,ρ1,S1,δ,Ω1,R1,.ok y,Ω2,e2,fun w ρ2 S2 H2 R2 l2 v2 r2=>?_⟩;obtain⟨x',y',f1,f2,hh,rfl,rfl⟩:=jvx hf;rw[Bool.and_eq_true,Bool.and_eq_true,decide_eq_true_eq] at hh;exact⟨ρ2,x',y',hh.1.1,hh.1.2,hh.2,R2.rsT jaj (fun _ _ _ z=>z) f1 ((r1.rho l2).mono v2),R2.rsT jaj (fun _ _ _ z=>z) f2 r2,k _ ρ2 S2 H2 R2 (l1.trans l2) (v1.trans v2) (rep_bl.mpr rfl)⟩
  ·exact⟨ρz,Sz,Hz,F,ρ1,S1,δ,Ω1,R1,.error y,_,e2,trivial⟩
 ·exact⟨ρz,Sz,Hz,F,ρ,S,δ,Ω,R,.error x,_,e1,trivial⟩
theorem jzo(ho:OpR X (compareOp .Eq) (rEqD X.K false))(ha:ME X O a fa)(hb:ME X O b fb)(hm:behindInMarks .Eq b=false):ME X O (.Compare a [.Eq] [b] pos) (mEqR fa fb) :=
 fun pins s σ H Q I h=>jq6 ho ha hb hm pins s σ H Q I (jyz h)
noncomputable def jqh(xs:List D):MS D:=fun Ω=>match xs with
 | [d]=>match rs1 Ω d with
  | some (.lst ds)=>some (.ok (.obj Ω.length),Ω++[.lst ds])
  | _=>none
 | _=>none
theorem jta{p:Pos}(hG:Gl X "list")(hm:X.mg "list"=none)(hl:MA X O [a] fl)(he:autoParam (starEach [a] X.env=(false,eval a X.env)::starEach [] X.env) zau2._auto_1)(hpl:autoParam ((backTo pos (starEach [] X.env)).any (·.1)=false) zau2._auto_1) :
  ME X O (.Call (.Name "list" p) [a] [] pos) (fun δ=>(fl δ).b jqh):=by
 rintro pins s σ H Q I ⟨ρz,Sz,Hz,F,ρ,S,δ,Ω,R,r,Ω',hf,k⟩;refine jfp jcx hG hm jg0 hl (by decide) (by decide) he hpl pins s σ H Q I ?_;rcases MS.b_inv hf with ⟨xs,Ω1,e1,hf⟩|⟨x,e1,rfl⟩
 ·refine⟨ρz,Sz,Hz,F,ρ,S,δ,Ω,R,.ok xs,Ω1,e1,fun us ρ1 S1 H1 R1 l1 v1 r1=>?_⟩;unfold jqh at hf
  split at hf
  ·rename_i d
   split at hf
   ·rename_i ds hn;cases hf;obtain⟨v,rfl,q⟩:=jgk r1;have view:∃ ad ys,v=.ref ad/\SqL X.K H1 ad ys/\Reps ρ1 X.K (hid H1 (fob (un F S1) σ O)) ds ys:=by
     cases d with
     | obj n =>
      unfold DL.rs1 at hn;dsimp only at hn
      split at hn
      ·rename_i ds' hi;cases hn;obtain⟨ad,q1,q2⟩:=rep_obj.mp q;obtain⟨ad',p1,p2,ys,p3,p4⟩:=R1.sto.ats n _ hi;rw[q1] at p1;cases p1
       exact⟨ad,ys,q2,SqL.of p3,p4⟩
      ·cases hn
     | lst ds' =>
      cases hn;obtain⟨ad,ys,rfl,q2,q3⟩:=rep_lst.mp q;exact⟨ad,ys,rfl,jcm jaj q2,q3⟩
     | _=>cases hn
    obtain⟨ad,ys,rfl,p3,p4⟩:=view;refine⟨ad,ys,rfl,.inl p3,fun l hl'=>?_⟩;obtain⟨t1,t2,t3⟩:=R1.newL hl' p4;exact k _ _ _ _ t1 (l1.trans t2) (v1.trans t3) (rep_obj.mpr ⟨l,by unfold addR;rw[if_pos rfl],rfl⟩)
   ·cases hf
  ·cases hf
 ·exact⟨ρz,Sz,Hz,F,ρ,S,δ,Ω,R,.error x,_,e1,trivial⟩
end
end DL
namespace DL
open PySem PySem.Spec PyProof.Rows L2
noncomputable def jto(fl:DSt->MS (List D)):Option (Except XD Out×Sto)->Option (Except XD D×Sto)
 | some (.ok (.nx δ'),Ω')=>match fl δ' Ω' with
  | some (.ok es,Ω2)=>if es.length<=sizeLine then some (.ok (.lst es),Ω2) else none
  | _=>none
 | _=>none
noncomputable def mirL(n N:Nat)(g:DSt->MS Out)(fl:DSt->MS (List D)):List D->MS D:=fun ds=>if ds.length=n then fun Ω=>jto fl (g (startD N ds) Ω) else fun _=>none
inductive PickL(fl:DSt->MS (List D))(q:Option (Except XD Out×Sto))(r:Except XD D)(Ω2:Sto):Prop
 | mk (δ':DSt) (Ω':Sto) (es:List D) (h1:q=some (.ok (.nx δ'),Ω')) (h2:fl δ' Ω'=some (.ok es,Ω2)) (h3:es.length<=sizeLine) (h4:r=.ok (.lst es))
theorem jq8{fl:DSt->MS (List D)}{q:Option (Except XD Out×Sto)}{r:Except XD D}{Ω2:Sto}(h:jto fl q=some (r,Ω2)):PickL fl q r Ω2:=by
 unfold jto at h
 split at h
 ·rename_i δ' Ω'
  split at h
  ·rename_i es Ω3 e
   split at h
   ·rename_i hz;cases h;exact⟨δ',Ω',es,rfl,e,hz,rfl⟩
   ·cases h
  ·cases h
 ·cases h
theorem jke{n N:Nat}{g:DSt->MS Out}{fl:DSt->MS (List D)}{ds:List D}{Ω:Sto}{r:Except XD D}{Ω':Sto}(h:mirL n N g fl ds Ω=some (r,Ω')):ds.length=n/\PickL fl (g (startD N ds) Ω) r Ω':=by
 unfold mirL at h
 split at h
 ·rename_i hl;exact⟨hl,jq8 h⟩
 ·cases h
section
variable {P:Program}{w:World}{K:W.Frag}{mg:Str->Option Value}{base:Heap}
theorem jsa{x:Str}{st:Stmt}{N ps:List Str}{k:Nat}{g:DSt->MS Out}{fl:DSt->MS (List D)}{b:List Stmt}{es:List Expr}{p1 p2:Pos}(hf:jb7 K mg x st ps)(Sc:FnScope N ps (jae st))(hB:jak st=b++[.Return (some (.List es p1)) p2])
  (hbody:∀ (f:Addr) (cdv:Value) (A:Around) (outer:List Env) (s:Shared) (H:Hp) (E:XK),Room k (A.deeper (envOfC x (jae st) s.heap.objs.size f cdv)) ->
   MSs (cxOf CX0 P w K mg base N x (jae st) f cdv A outer s H E).nox [] [] [] b g)
  (hes:∀ (f:Addr) (cdv:Value) (A:Around) (outer:List Env) (s:Shared) (H:Hp) (E:XK),Room k (A.deeper (envOfC x (jae st) s.heap.objs.size f cdv)) ->
   MA (cxOf CX0 P w K mg base N x (jae st) f cdv A outer s H E).nox [] es fl):CalF P w K mg base (k+1) x ps.length (mirL ps.length N.length g fl):=by
 obtain⟨f,fd,hm,FF,hb⟩:=hf;refine⟨⟨f,fd,ps,rfl,hm,FF.kp,hb,?_⟩,fun ds Ω r h=>(jke h).1,fun ds Ω r Ω' h=>by obtain⟨_,_,_,es,_,_,_,h4⟩:=jke h;exact⟨es,h4⟩⟩;refine jv2 FF Sc (fun vs H Q E h=>h.1) fun A outer s H vs Q E hr h=>?_
 obtain⟨hl,ρ,S,F',ds,Ω,fin,ff,rp,sto,es',Ω',hmr,k0⟩:=h;rw[hB];refine⟨_,jxf (hbody f fd.code A outer s H E hr) (jrd (jnr (hes f fd.code A outer s H E hr))),?_⟩;obtain⟨hdl,δ',Ω1,es2,e1,e2,e3,e4⟩:=jke hmr;cases e4;have R:RM ρ S H F' K mg [] ρ S H (L2.start N vs) (startD N.length ds) Ω:=by
  refine⟨⟨?_,jaj,fun b hb=>?_,fun i d hd _=>?_,fun i hi=>absurd hi (by simp),fun i hi=>absurd hi (by simp)⟩,RLe.refl _,fun b o _ h=>h,fun b h=>h,fun b h=>.inl h,fun i hi=>absurd hi (by simp),ff,by rw[jdo];exact sto⟩
  ·simp[L2.start,startD,rp.length]
  ·rcases un_t.mp hb with z|z
   ·exact fin b z
   ·exact sto.fin b z
  ·obtain⟨v,e,rv⟩:=rp.get (jf0 hd);exact⟨v,jgy e,by rw[jdo];exact rv⟩
 refine⟨ρ,S,H,F',ρ,S,_,Ω,R,.ok (.nx δ'),Ω1,e1,fun ρ1 S1 σ1 H1 R1 _ _=>?_⟩;refine⟨ρ,S,H,F',ρ1,S1,δ',Ω1,R1,.ok es',Ω',e2,fun us ρ2 S2 H2 R2 l2 v2 r2=>?_⟩;refine⟨by rw[r2.length];exact e3,fun l hl'=>?_⟩;have st2:=R2.sto;rw[jdo] at st2 r2;have hS:S2 l=false:=by
  cases z:S2 l with
  | false=>rfl
  | true=>exact absurd hl' (st2.fin l z)
 have h0:H l=none:=by
  cases z:H l with
  | none=>rfl
  | some o =>
   cases q:S l with
   | false=>rw[R2.same l o q z] at hl';cases hl'
   | true=>rw[R2.old l q] at hS;cases hS
 have eh:hid (upd H2 l (.lst us)) (orA (un F' S2) l)=hid H2 (un F' S2):=by
  funext c
  unfold hid
  by_cases hc:c=l
  ·subst hc;rw[if_pos (orA_t.mpr (.inr rfl)),hl']
   split<;>rfl
  ·have:orA (un F' S2) l c=un F' S2 c:=by
    unfold orA;rw[show (c == l)=false by simpa using hc,Bool.or_false]
   rw[this,jah hc]
 refine k0 l us ρ2 S2 (upd H2 l (.lst us)) R2.rho (fun c o q1 q2=>?_) R2.old R2.new R2.ff ?_ h0 jao hS ?_
 ·rw[jah (jaz q2 h0)];exact R2.same c o q1 q2
 ·rw[eh];refine st2.mono (fun c hc=>jah (by rintro rfl;rw[hS] at hc;cases hc)) (Same.refl _) fun c xs q=>?_
  by_cases hc:c=l
  ·subst hc;rw[jao] at q;cases q
  ·rw[jah hc] at q;exact st2.tv c xs q
 ·rw[eh];exact r2
theorem sC{v:Const}{j:Nat}{p:Pos}{env:Env}{es:List Expr}:starEach (.Constant v j p::es) env=(false,eval (.Constant v j p) env)::starEach es env:=rfl
end
end DL
namespace MyLaw
open PySem PySem.Spec L2 DL
noncomputable def top(i:Nat):Stmt:=PySem.Challenge.pw_apartbook_k11_no_books.main.body.getD i (.Pass ⟨0,0,0,0⟩)
noncomputable abbrev jer:Stmt:=top 35
noncomputable abbrev jfz:Stmt:=top 34
noncomputable abbrev jdx:Stmt:=top 36
noncomputable abbrev jde:Stmt:=top 37
noncomputable abbrev jdy:Stmt:=top 38
noncomputable abbrev jcu:Stmt:=top 39
noncomputable abbrev jcv:Stmt:=top 40
noncomputable abbrev jdd:Stmt:=top 41
noncomputable abbrev jdw:Stmt:=top 42
noncomputable abbrev jc0:Stmt:=top 48
noncomputable abbrev jcd:Stmt:=top 43
noncomputable abbrev jbb:Stmt:=top 44
noncomputable abbrev jbz:Stmt:=top 45
noncomputable abbrev jch:Stmt:=top 46
noncomputable abbrev jdf:Stmt:=top 47
noncomputable abbrev jbs:Stmt:=jvo (top 6) 0
noncomputable abbrev jdh:Stmt:=top 19
noncomputable abbrev jhc:Stmt:=top 32
noncomputable abbrev jba:Stmt:=top 25
noncomputable abbrev jdg:Stmt:=top 30
noncomputable abbrev jdc:Stmt:=top 16
noncomputable abbrev jd7:Stmt:=top 17
noncomputable abbrev jcs:Stmt:=top 27
noncomputable abbrev jct:Stmt:=top 28
noncomputable abbrev jcr:Stmt:=top 29
noncomputable abbrev jeq:Stmt:=top 26
noncomputable abbrev jcw:Stmt:=top 31
noncomputable abbrev jbt:Stmt:=top 24
noncomputable abbrev jcg:Stmt:=top 49
noncomputable abbrev jow:Stmt:=top 50
noncomputable abbrev xcs:List Str:=["Broken","Folded","NoBook","NoDeed","NoLine","NoName","NoPaper","NoRule","NoText","NotPlain","OutOfRange","ShortShare"]
noncomputable abbrev xfs:List Str:=["place","name","line","lack"]
abbrev jdz(P:Program)(w:World)(K:W.Frag)(mg:Str->Option Value)(base:Heap)(n:Nat)(x:Str)(t:Stmt)(N:List Str)(g:DSt->M Out):Prop:=∀ (f:Addr) (cdv:Value) (A:Around) (outer:List Env) (s:Shared) (H:Hp) (E:XK),Room n (A.deeper (PyProof.Rows.envOfC x (jae t) s.heap.objs.size f cdv))->DSs (cxOf CX0 P w K mg base N x (jae t) f cdv A outer s H E).nox [] [] [] E (jak t) g
abbrev jo5(P:Program)(w:World)(K:W.Frag)(mg:Str->Option Value)(base:Heap)(n:Nat)(x:Str)(t:Stmt)(N:List Str)(g:DSt->MS Out):Prop:=∀ (f:Addr) (cdv:Value) (A:Around) (outer:List Env) (s:Shared) (H:Hp) (E:XK),Room n (A.deeper (PyProof.Rows.envOfC x (jae t) s.heap.objs.size f cdv))->MSs (cxOf CX0 P w K mg base N x (jae t) f cdv A outer s H E).nox [] [] [] (jak t) g
structure Txt(K:W.Frag)(mg:Str->Option Value):Prop where
 errs:ErrT K mg xcs xfs "BookError"
 errm:ErrM K mg xcs "BookError"
 n_NoBook:NewAt K mg "NoBook"
 n_Folded:NewAt K mg "Folded"
 n_OutOfRange:NewAt K mg "OutOfRange"
 f_law_mix:jb7 K mg "_law_mix" jer ["_law_number","_law_place"]
 f_law_at:jb7 K mg "_law_at" jfz ["_law_script","_law_k"]
 f_law_draw:jb7 K mg "_law_draw" jdx ["_law_script","_law_k"]
 f_law_named:jb7 K mg "_law_named" jde ["_law_k","_law_number"]
 f_law_wide:jb7 K mg "_law_wide" jdy ["_law_script","_law_k","_law_most"]
 f_law_items:jb7 K mg "_law_items" jcu ["_law_script","_law_many","_law_most"]
 f_law_rules:jb7 K mg "_law_rules" jcv ["_law_script","_law_items_here","_law_many","_law_most"]
 f_law_deeds:jb7 K mg "_law_deeds" jdd ["_law_script","_law_items_here","_law_many"]
 f_law_book:jb7 K mg "_law_book" jdw ["_law_script","_law_counts_here"]
 f_law_broken:jb7 K mg "_law_broken" jc0 ["_law_book_here","_law_number"]
 f_law_counts:jb7 K mg "_law_counts" jcd ["_law_script"]
 f_law_other_name:jb7 K mg "_law_other_name" jbb ["_law_number","_law_names"]
 f_law_renamed:jb7 K mg "_law_renamed" jbz ["_law_things","_law_number"]
 f_law_resized:jb7 K mg "_law_resized" jch ["_law_numbers","_law_number","_law_one"]
 f_law_wrong:jb7 K mg "_law_wrong" jdf ["_law_script","_law_book_here","_law_number"]
 f_Broken_init__:IniXAt K mg "Broken" "Broken.__init__" jbs ["self","name"]
 f_value_of:jb7 K mg "value_of" jdh ["form","values"]
 f_spare:jb7 K mg "spare" jhc ["book","rule","state"]
 f_refuse_broken:jb7 K mg "refuse_broken" jba ["book","state"]
 f_names_of:jb7 K mg "names_of" jdg ["parts"]
 f_is_letter:jb7 K mg "is_letter" jdc ["sign"]
 f_is_name:jb7 K mg "is_name" jd7 ["word"]
 f_are_named:jb7 K mg "are_named" jcs ["parts","most"]
 f_are_rules:jb7 K mg "are_rules" jct ["book"]
 f_are_deeds:jb7 K mg "are_deeds" jcr ["book"]
 f_is_book:jb7 K mg "is_book" jeq ["book"]
 f_starts_of:jb7 K mg "starts_of" jcw ["book"]
 f_check_book:jb7 K mg "check_book" jbt ["book"]
 f_law_refused:jb7 K mg "_law_refused" jcg ["_law_book_here"]
 f_law:jb7 K mg "law" jow ["_law_script"]
 g_MOST_DEEDS:∃ t,mg "MOST_DEEDS"=some (.int 6 t)
 g_MOST_ITEMS:∃ t,mg "MOST_ITEMS"=some (.int 4 t)
 g_MOST_RULES:∃ t,mg "MOST_RULES"=some (.int 5 t)
 g_NAME_LENGTH:∃ t,mg "NAME_LENGTH"=some (.int 10 t)
 b_ValueError:mg "ValueError"=none
 b_all:mg "all"=none
 b_enumerate:mg "enumerate"=none
 b_int:mg "int"=none
 b_isinstance:mg "isinstance"=none
 b_len:mg "len"=none
 b_list:mg "list"=none
 b_range:mg "range"=none
 b_set:mg "set"=none
 b_sum:mg "sum"=none
 b_tuple:mg "tuple"=none
 b_zip:mg "zip"=none
section
variable {P:Program}{w:World}{K:W.Frag}{mg:Str->Option Value}{base:Heap}
theorem sc_law_mix:FnScope ["_law_number","_law_place","_law_part"] ["_law_number","_law_place"] (jae jer):=⟨rfl,rfl,rfl,by decide +kernel,rfl,by decide +kernel,by decide +kernel⟩
noncomputable def jic:DSt->M Out:=(gSeq (gSet 2 (f2 gMod (f2 jck (f2 gCat (f2 gCat (f2 gMod (fVar 0) (fC (.int 2147483629))) (fVar 1)) (fC (.int 1))) (f2 gCat (f2 jck (f2 jck (fC (.int 8)) (fVar 1)) (fVar 1)) (fC (.int 48271)))) (fC (.int 2147483647))))
  (gRet (f2 gMod (f2 jck (fVar 2) (fVar 2)) (fC (.int 2147483587)))))
noncomputable def jbl:List D->M D:=mir 2 3 jic
theorem jku(T:Txt K mg):jdz P w K mg base 1 "_law_mix" jer ["_law_number","_law_place","_law_part"] jic:=fun f cdv A outer s H E hr =>
 (jas (jbd (i:=2) sc_law_mix.nd (jag ja5 jav (jag jb5 jbh (jag jaq jar (jag jaq jar (jag ja5 jav (jab 0) jad) (jab 1)) jad) (jag jaq jar (jag jb5 jbh (jag jb5 jbh jad (jab 1)) (jab 1)) jad)) jad))
  (ja3 (jbf (jag ja5 jav (jag jb5 jbh (jab 2) (jab 2)) jad))))
theorem jdv(T:Txt K mg):Cal P w K mg base 2 "_law_mix" 2 jbl:=jb8 T.f_law_mix sc_law_mix (jku T)
theorem jrm:FnScope ["_law_script","_law_k"] ["_law_script","_law_k"] (jae jfz):=⟨rfl,rfl,rfl,by decide +kernel,rfl,by decide +kernel,by decide +kernel⟩
noncomputable def jj8:DSt->M Out:=(gSeq (gIf (t2 gLt (fVar 1) (fL kLen (jac (fVar 0) fNil))) (gRet (f2 gIx (fVar 0) (fVar 1))) gNx)
  (gRet (f2 gCat (f2 jck (fC (.int 19)) (fVar 1)) (fC (.int 8)))))
noncomputable def jbw:List D->M D:=mir 2 2 jj8
theorem jl2(T:Txt K mg):jdz P w K mg base 1 "_law_at" jfz ["_law_script","_law_k"] jj8:=fun f cdv A outer s H E hr =>
 (jas (jpw (jc7 jq0 jdq (jab 1) (ja9 jbc jcj rfl T.b_len jdj (jaa (jab 0) jaf)) (jbr _)) (ja3 (jbf (ja2 jal jam (jab 0) (jab 1)))) jh8)
  (ja3 (jbf (jag jaq jar (jag jb5 jbh jad (jab 1)) jad))))
theorem jd3(T:Txt K mg):Cal P w K mg base 2 "_law_at" 2 jbw:=jb8 T.f_law_at jrm (jl2 T)
theorem jmv:FnScope ["_law_script","_law_k"] ["_law_script","_law_k"] (jae jdx):=⟨rfl,rfl,rfl,by decide +kernel,rfl,by decide +kernel,by decide +kernel⟩
noncomputable def jg2:DSt->M Out:=(gRet (jax jbl (jac (jax jbw (jac (fVar 0) (jac (f2 gCat (fC (.int 1)) (f2 gMod (fVar 1) (fC (.int 62)))) fNil))) (jac (f2 gCat (fC (.int 100)) (fVar 1)) fNil))))
noncomputable def jbp:List D->M D:=mir 2 2 jg2
theorem jju(T:Txt K mg):jdz P w K mg base 2 "_law_draw" jdx ["_law_script","_law_k"] jg2:=fun f cdv A outer s H E hr =>
 (ja3 (jbf (jan (jdv T) (hr.mono (by decide)) (jaa (jan (jd3 T) (hr.mono (by decide)) (jaa (jab 0) (jaa (jag jaq jar jad (jag ja5 jav (jab 1) jad)) jaf))) (jaa (jag jaq jar jad (jab 1)) jaf)))))
theorem jcc(T:Txt K mg):Cal P w K mg base 3 "_law_draw" 2 jbp:=jb8 T.f_law_draw jmv (jju T)
theorem sc_law_named:FnScope ["_law_k","_law_number","_law_place"] ["_law_k","_law_number"] (jae jde):=⟨rfl,rfl,rfl,by decide +kernel,rfl,by decide +kernel,by decide +kernel⟩
noncomputable def jgc:DSt->M Out:=(gSeq (gIf (t2 gEq (f2 gMod (fVar 1) (fC (.int 2))) (fC (.int 0))) (gRet (f2 gCat (f2 jck (f2 gIx (fC (.str "abcdefg")) (fVar 0)) (f2 gCat (fC (.int 1)) (f2 gMod (f2 jbn (fVar 1) (fC (.int 2))) (fC (.int 9))))) (f2 gIx (fC (.str "xyz")) (f2 gMod (f2 jbn (fVar 1) (fC (.int 18))) (fC (.int 3)))))) gNx)
  (gSeq (gSet 2 (f2 gMod (f2 jbn (fVar 1) (fC (.int 2))) (fC (.int 10))))
  (gRet (f2 gCat (f2 gCat (f2 jck (fC (.str "m")) (fVar 2)) (f2 gIx (fC (.str "abcdefg")) (fVar 0))) (f2 jck (fC (.str "m")) (f2 gSub (fC (.int 9)) (fVar 2)))))))
noncomputable def jc9:List D->M D:=mir 2 3 jgc
theorem ji3(T:Txt K mg):jdz P w K mg base 1 "_law_named" jde ["_law_k","_law_number","_law_place"] jgc:=fun f cdv A outer s H E hr =>
 (jas (jpw (jc7 (jdr (hu30 hr)) jd5 (jag ja5 jav (jab 1) jad) jad (jbr _)) (ja3 (jbf (jag jaq jar (jag jb5 jbh (ja2 jal jam jb9 (jab 0)) (jag jaq jar jad (jag ja5 jav (jag ja7 ja8 (jab 1) jad) jad))) (ja2 jal jam jb9 (jag ja5 jav (jag ja7 ja8 (jab 1) jad) jad))))) jh8)
  (jas (jbd (i:=2) sc_law_named.nd (jag ja5 jav (jag ja7 ja8 (jab 1) jad) jad))
  (ja3 (jbf (jag jaq jar (jag jaq jar (jag jb5 jbh jb9 (jab 2)) (ja2 jal jam jb9 (jab 0))) (jag jb5 jbh jb9 (jag jjl jha jad (jab 2))))))))
theorem jfo(T:Txt K mg):Cal P w K mg base 2 "_law_named" 2 jc9:=jb8 T.f_law_named sc_law_named (ji3 T)
theorem sc_law_wide:FnScope ["_law_script","_law_k","_law_most","_law_number"] ["_law_script","_law_k","_law_most"] (jae jdy):=⟨rfl,rfl,rfl,by decide +kernel,rfl,by decide +kernel,by decide +kernel⟩
noncomputable def jg3:DSt->M Out:=(gSeq (gSet 3 (jax jbp (jac (fVar 0) (jac (fVar 1) fNil))))
  (gSeq (gIf (t2 gEq (f2 gMod (fVar 3) (fC (.int 8))) (fC (.int 0))) (gRet (f2 gCat (f2 gSub (f2 gMod (jax jbw (jac (fVar 0) (jac (f2 gCat (fC (.int 1)) (f2 gMod (fVar 1) (fC (.int 62)))) fNil))) (f2 gSub (f2 jck (fC (.int 2)) (fVar 2)) (fC (.int 1)))) (fVar 2)) (fC (.int 1)))) gNx)
  (gRet (f2 gSub (f2 gMod (f2 jbn (fVar 3) (fC (.int 8))) (fC (.int 13))) (fC (.int 6))))))
noncomputable def jbq:List D->M D:=mir 3 4 jg3
theorem jjv(T:Txt K mg):jdz P w K mg base 3 "_law_wide" jdy ["_law_script","_law_k","_law_most","_law_number"] jg3:=fun f cdv A outer s H E hr =>
 (jas (jbd (i:=3) sc_law_wide.nd (jan (jcc T) (hr.mono (by decide)) (jaa (jab 0) (jaa (jab 1) jaf))))
  (jas (jpw (jc7 (jdr (hu30 hr)) jd5 (jag ja5 jav (jab 3) jad) jad (jbr _)) (ja3 (jbf (jag jaq jar (jag jjl jha (jag ja5 jav (jan (jd3 T) (hr.mono (by decide)) (jaa (jab 0) (jaa (jag jaq jar jad (jag ja5 jav (jab 1) jad)) jaf))) (jag jjl jha (jag jb5 jbh jad (jab 2)) jad)) (jab 2)) jad))) jh8)
  (ja3 (jbf (jag jjl jha (jag ja5 jav (jag ja7 ja8 (jab 3) jad) jad) jad)))))
theorem jd4(T:Txt K mg):Cal P w K mg base 4 "_law_wide" 3 jbq:=jb8 T.f_law_wide sc_law_wide (jjv T)
theorem sc_law_items:FnScope ["_law_script","_law_many","_law_most","_law_number"] ["_law_script","_law_many","_law_most"] (jae jcu):=⟨rfl,rfl,rfl,by decide +kernel,rfl,by decide +kernel,by decide +kernel⟩
noncomputable def jfc:DSt->M D:=(fL jb6 (jac (jax jc9 (jac (fVar 0) (jac (fVar 3) fNil))) (jac (jax jbq (jac (fVar 1) (jac (f2 gCat (fC (.int 10)) (fVar 0)) (jac (fVar 2) fNil)))) fNil)))
noncomputable def jgb:DSt->M Out:=(gSeq (gSet 3 (jax jbp (jac (fVar 0) (jac (fC (.int 1)) fNil))))
  (gRet (jf1 1 [("_law_script",0),("_law_most",2),("_law_number",3)] (je6 jb3 (jac (fVar 1) fNil)) (DL.gName 0) tYes jfc)))
noncomputable def je1:List D->M D:=mir 3 4 jgb
theorem ji2(T:Txt K mg):jdz P w K mg base 4 "_law_items" jcu ["_law_script","_law_many","_law_most","_law_number"] jgb:=fun f cdv A outer s H E hr =>
 (jas (jbd (i:=3) sc_law_items.nd (jan (jcc T) (hr.mono (by decide)) (jaa (jab 0) (jaa jad jaf))))
  (ja3 (jbf (jej (own:=["_law_k"]) (caps:=[("_law_script",0),("_law_most",2),("_law_number",3)]) rfl (jei (N:=["_law_script","_law_many","_law_most","_law_number"]) (osc:=jae jcu) rfl rfl rfl (by decide +kernel)) (jfu rfl T.b_range (jaa (jab 1) jaf)) (fun _ _ _ _=>(jdn (i:=0) (show (["_law_k","_law_script","_law_most","_law_number"]:List Str).Nodup from by decide +kernel))) (fun _ _ _ _=>jeu) (fun _ _ _ _=>(jec (jaa (jan (jfo T) (hr.mono (by decide)) (jaa (jab 0) (jaa (jab 3) jaf))) (jaa (jan (jd4 T) (hr.mono (by decide)) (jaa (jab 1) (jaa (jag jaq jar jad (jab 0)) (jaa (jab 2) jaf)))) jaf))))))))
theorem jlj(T:Txt K mg):Cal P w K mg base 5 "_law_items" 3 je1:=jb8 T.f_law_items sc_law_items (ji2 T)
theorem sc_law_rules:FnScope ["_law_script","_law_items_here","_law_many","_law_most","_law_rules_here","_law_k","_law_numbers","_law_rest","_law_many_times","_law_item"] ["_law_script","_law_items_here","_law_many","_law_most"] (jae jcv):=⟨rfl,rfl,rfl,by decide +kernel,rfl,by decide +kernel,by decide +kernel⟩
noncomputable def jfd:DSt->M D:=(jax jbq (jac (fVar 1) (jac (f2 gCat (f2 gCat (fC (.int 20)) (f2 jck (fC (.int 5)) (fVar 3))) (fVar 0)) (jac (fVar 2) fNil))))
noncomputable def je8:DSt->M Out:=(gSet 7 (f2 gSub (fVar 7) (f2 jck (fVar 8) (f2 gIx (fVar 9) (fC (.int 1))))))
noncomputable def je9:DSt->M Out:=(gSeq (gSet 6 (fL kTuple (jac (jf1 1 [("_law_script",0),("_law_most",3),("_law_k",5)] (je6 jb3 (jac (fL kLen (jac (fVar 1) fNil)) fNil)) (DL.gName 0) tYes jfd) fNil)))
  (gSeq (gSet 7 (f2 jck (f2 gMod (jax jbp (jac (fVar 0) (jac (f2 gCat (fC (.int 50)) (fVar 5)) fNil))) (fC (.int 30))) (f2 gMod (jax jbp (jac (fVar 0) (jac (f2 gCat (fC (.int 60)) (fVar 5)) fNil))) (fC (.int 3)))))
  (gSeq (gFor (je6 jfs (jac (fVar 6) (jac (fVar 1) fNil))) (je5 8 9) je8)
  (gApp 4 (fL jb6 (jac (jax jc9 (jac (fVar 5) (jac (jax jbp (jac (fVar 0) (jac (fC (.int 2)) fNil))) fNil))) (jac (fVar 6) (jac (fVar 7) fNil))))))))
noncomputable def jgd:DSt->M Out:=(gSeq (gSet 4 (fL jb0 fNil))
  (gSeq (gFor (je6 jb3 (jac (fVar 2) fNil)) (DL.gName 5) je9)
  (gRet (fVar 4))))
noncomputable def je2:List D->M D:=mir 4 10 jgd
theorem ji4(T:Txt K mg):jdz P w K mg base 4 "_law_rules" jcv ["_law_script","_law_items_here","_law_many","_law_most","_law_rules_here","_law_k","_law_numbers","_law_rest","_law_many_times","_law_item"] jgd:=fun f cdv A outer s H E hr =>
 (jas (jpx (i:=4) sc_law_rules.nd jaf)
  (jas (jng PassesOwn.never rfl (jfu rfl T.b_range (jaa (jab 2) jaf)) (jdn (i:=5) sc_law_rules.nd) (jas (jbd (i:=6) sc_law_rules.nd (jdl jes jh6 rfl T.b_tuple jj0 (jaa (jej (own:=["_law_j"]) (caps:=[("_law_script",0),("_law_most",3),("_law_k",5)]) rfl (jei (N:=["_law_script","_law_items_here","_law_many","_law_most","_law_rules_here","_law_k","_law_numbers","_law_rest","_law_many_times","_law_item"]) (osc:=jae jcv) rfl rfl rfl (by decide +kernel)) (jfu rfl T.b_range (jaa (ja9 jbc jcj rfl T.b_len jdj (jaa (jab 1) jaf)) jaf)) (fun _ _ _ _=>(jdn (i:=0) (show (["_law_j","_law_script","_law_most","_law_k"]:List Str).Nodup from by decide +kernel))) (fun _ _ _ _=>jeu) (fun _ _ _ _=>(jan (jd4 T) (hr.mono (by decide)) (jaa (jab 1) (jaa (jag jaq jar (jag jaq jar jad (jag jb5 jbh jad (jab 3))) (jab 0)) (jaa (jab 2) jaf)))))) jaf)))
  (jas (jbd (i:=7) sc_law_rules.nd (jag jb5 jbh (jag ja5 jav (jan (jcc T) (hr.mono (by decide)) (jaa (jab 0) (jaa (jag jaq jar jad (jab 5)) jaf))) jad) (jag ja5 jav (jan (jcc T) (hr.mono (by decide)) (jaa (jab 0) (jaa (jag jaq jar jad (jab 5)) jaf))) jad)))
  (jas (jng PassesOwn.never rfl (jue rfl T.b_zip (jaa (jab 6) (jaa (jab 1) jaf))) (jj7 (i:=8) (j:=9) rfl sc_law_rules.nd) (ja3 (jbd (i:=7) sc_law_rules.nd (jag jjl jha (jab 7) (jag jb5 jbh (jab 8) (ja2 jal jam (jab 9) jad))))))
  (ja3 (jpv (i:=4) rfl (jec (jaa (jan (jfo T) (hr.mono (by decide)) (jaa (jab 5) (jaa (jan (jcc T) (hr.mono (by decide)) (jaa (jab 0) (jaa jad jaf))) jaf))) (jaa (jab 6) (jaa (jab 7) jaf))))))))))
  (jl5 (O':=[]) (by decide) (ja3 (jbf (jab 4))))))
theorem jlk(T:Txt K mg):Cal P w K mg base 5 "_law_rules" 4 je2:=jb8 T.f_law_rules sc_law_rules (ji4 T)
theorem sc_law_deeds:FnScope ["_law_script","_law_items_here","_law_many","_law_deeds_here","_law_k","_law_low","_law_changes","_law_j","_law_some","_law_one","_law_high"] ["_law_script","_law_items_here","_law_many"] (jae jdd):=⟨rfl,rfl,rfl,by decide +kernel,rfl,by decide +kernel,by decide +kernel⟩
noncomputable def jea:DSt->M Out:=(gSeq (gSet 8 (f2 gMod (jax jbp (jac (fVar 0) (jac (f2 gCat (f2 gCat (fC (.int 80)) (f2 jck (fC (.int 5)) (fVar 4))) (fVar 7)) fNil))) (fC (.int 3))))
  (gSeq (gSet 9 (f2 jck (jax jbq (jac (fVar 0) (jac (f2 gCat (f2 gCat (fC (.int 120)) (f2 jck (fC (.int 5)) (fVar 4))) (fVar 7)) (jac (f2 gPow (fC (.int 10)) (fC (.int 23))) fNil)))) (fL joi (jac (f2 gNe (fVar 8) (fC (.int 1))) fNil))))
  (gApp 6 (fL jb6 (jac (fVar 9) (jac (f2 jck (jax jbq (jac (fVar 0) (jac (f2 gCat (f2 gCat (fC (.int 160)) (f2 jck (fC (.int 5)) (fVar 4))) (fVar 7)) (jac (f2 gPow (fC (.int 10)) (fC (.int 23))) fNil)))) (fL joi (jac (f2 gEq (fVar 8) (fC (.int 2))) fNil))) fNil))))))
noncomputable def je7:DSt->M Out:=(gSeq (gSet 5 (jax jbq (jac (fVar 0) (jac (f2 gCat (fC (.int 70)) (fVar 4)) (jac (f2 gPow (fC (.int 10)) (fC (.int 23))) fNil)))))
  (gSeq (gSet 6 (fL jb0 fNil))
  (gSeq (gFor (je6 jb3 (jac (fL kLen (jac (fVar 1) fNil)) fNil)) (DL.gName 7) jea)
  (gSeq (gSet 10 (f2 gCat (fVar 5) (f2 gMod (jax jbp (jac (fVar 0) (jac (f2 gCat (fC (.int 200)) (fVar 4)) fNil))) (fC (.int 9)))))
  (gApp 3 (fL jb6 (jac (jax jc9 (jac (fVar 4) (jac (jax jbp (jac (fVar 0) (jac (fC (.int 3)) fNil))) fNil))) (jac (fVar 5) (jac (fVar 10) (jac (fL kTuple (jac (fVar 6) fNil)) fNil))))))))))
noncomputable def jga:DSt->M Out:=(gSeq (gSet 3 (fL jb0 fNil))
  (gSeq (gFor (je6 jb3 (jac (fVar 2) fNil)) (DL.gName 4) je7)
  (gRet (fVar 3))))
noncomputable def je0:List D->M D:=mir 3 11 jga
theorem ji1(T:Txt K mg):jdz P w K mg base 4 "_law_deeds" jdd ["_law_script","_law_items_here","_law_many","_law_deeds_here","_law_k","_law_low","_law_changes","_law_j","_law_some","_law_one","_law_high"] jga:=fun f cdv A outer s H E hr =>
 (jas (jpx (i:=3) sc_law_deeds.nd jaf)
  (jas (jng PassesOwn.never rfl (jfu rfl T.b_range (jaa (jab 2) jaf)) (jdn (i:=4) sc_law_deeds.nd) (jas (jbd (i:=5) sc_law_deeds.nd (jan (jd4 T) (hr.mono (by decide)) (jaa (jab 0) (jaa (jag jaq jar jad (jab 4)) (jaa (jag jjk jg9 jad jad) jaf)))))
  (jas (jpx (i:=6) sc_law_deeds.nd jaf)
  (jas (jng PassesOwn.never rfl (jfu rfl T.b_range (jaa (ja9 jbc jcj rfl T.b_len jdj (jaa (jab 1) jaf)) jaf)) (jdn (i:=7) sc_law_deeds.nd) (jas (jbd (i:=8) sc_law_deeds.nd (jag ja5 jav (jan (jcc T) (hr.mono (by decide)) (jaa (jab 0) (jaa (jag jaq jar (jag jaq jar jad (jag jb5 jbh jad (jab 4))) (jab 7)) jaf))) jad))
  (jas (jbd (i:=9) sc_law_deeds.nd (jag jb5 jbh (jan (jd4 T) (hr.mono (by decide)) (jaa (jab 0) (jaa (jag jaq jar (jag jaq jar jad (jag jb5 jbh jad (jab 4))) (jab 7)) (jaa (jag jjk jg9 jad jad) jaf)))) (jdl jkv jm8 rfl T.b_int jt9 (jaa (jjf (jnq (hu30 hr)) jq4 (jab 8) jad (jbr _)) jaf))))
  (ja3 (jpv (i:=6) rfl (jec (jaa (jab 9) (jaa (jag jb5 jbh (jan (jd4 T) (hr.mono (by decide)) (jaa (jab 0) (jaa (jag jaq jar (jag jaq jar jad (jag jb5 jbh jad (jab 4))) (jab 7)) (jaa (jag jjk jg9 jad jad) jaf)))) (jdl jkv jm8 rfl T.b_int jt9 (jaa (jjf (jdr (hu30 hr)) jd5 (jab 8) jad (jbr _)) jaf))) jaf))))))))
  (jas (jbd (i:=10) sc_law_deeds.nd (jag jaq jar (jab 5) (jag ja5 jav (jan (jcc T) (hr.mono (by decide)) (jaa (jab 0) (jaa (jag jaq jar jad (jab 4)) jaf))) jad)))
  (jl5 (O':=[3]) (by decide) (ja3 (jpv (i:=3) rfl (jec (jaa (jan (jfo T) (hr.mono (by decide)) (jaa (jab 4) (jaa (jan (jcc T) (hr.mono (by decide)) (jaa (jab 0) (jaa jad jaf))) jaf))) (jaa (jab 5) (jaa (jab 10) (jaa (jdl jes jh6 rfl T.b_tuple jj0 (jaa (jab 6) jaf)) jaf)))))))))))))
  (jl5 (O':=[]) (by decide) (ja3 (jbf (jab 3))))))
theorem jli(T:Txt K mg):Cal P w K mg base 5 "_law_deeds" 3 je0:=jb8 T.f_law_deeds sc_law_deeds (ji1 T)
theorem sc_law_book:FnScope ["_law_script","_law_counts_here","_law_big","_law_items_here"] ["_law_script","_law_counts_here"] (jae jdw):=⟨rfl,rfl,rfl,by decide +kernel,rfl,by decide +kernel,by decide +kernel⟩
noncomputable def jg1:DSt->M Out:=(gSeq (gSet 2 (f2 gMod (jax jbl (jac (jax jbw (jac (fVar 0) (jac (fC (.int 0)) fNil))) (jac (fC (.int 2)) fNil))) (fC (.int 2))))
  (gSeq (gSet 3 (jax je1 (jac (fVar 0) (jac (f2 gIx (fVar 1) (fC (.int 0))) (jac (f2 gIx (fL jb0 (jac (fC (.int 7)) (jac (f2 gPow (fC (.int 10)) (fC (.int 23))) fNil))) (fVar 2)) fNil)))))
  (gRet (fL jb6 (jac (fVar 3) (jac (jax je2 (jac (fVar 0) (jac (fVar 3) (jac (f2 gIx (fVar 1) (fC (.int 1))) (jac (f2 gIx (fL jb0 (jac (f2 gPow (fC (.int 10)) (fC (.int 23))) (jac (fC (.int 7)) fNil))) (fVar 2)) fNil))))) (jac (jax je0 (jac (fVar 0) (jac (fVar 3) (jac (f2 gIx (fVar 1) (fC (.int 2))) fNil)))) fNil)))))))
noncomputable def jcz:List D->M D:=mir 2 4 jg1
theorem jjt(T:Txt K mg):jdz P w K mg base 5 "_law_book" jdw ["_law_script","_law_counts_here","_law_big","_law_items_here"] jg1:=fun f cdv A outer s H E hr =>
 (jas (jbd (i:=2) sc_law_book.nd (jag ja5 jav (jan (jdv T) (hr.mono (by decide)) (jaa (jan (jd3 T) (hr.mono (by decide)) (jaa (jab 0) (jaa jad jaf))) (jaa jad jaf))) jad))
  (jas (jbd (i:=3) sc_law_book.nd (jan (jlj T) (hr.mono (by decide)) (jaa (jab 0) (jaa (ja2 jal jam (jab 1) jad) (jaa (ja2 jal jam (jgp (jaa jad (jaa (jag jjk jg9 jad jad) jaf))) (jab 2)) jaf)))))
  (ja3 (jbf (jec (jaa (jab 3) (jaa (jan (jlk T) (hr.mono (by decide)) (jaa (jab 0) (jaa (jab 3) (jaa (ja2 jal jam (jab 1) jad) (jaa (ja2 jal jam (jgp (jaa (jag jjk jg9 jad jad) (jaa jad jaf))) (jab 2)) jaf))))) (jaa (jan (jli T) (hr.mono (by decide)) (jaa (jab 0) (jaa (jab 3) (jaa (ja2 jal jam (jab 1) jad) jaf)))) jaf))))))))
theorem jiq(T:Txt K mg):Cal P w K mg base 6 "_law_book" 2 jcz:=jb8 T.f_law_book sc_law_book (jjt T)
theorem sc_law_broken:FnScope ["_law_book_here","_law_number","_law_rules_here","_law_at_here"] ["_law_book_here","_law_number"] (jae jc0):=⟨rfl,rfl,rfl,by decide +kernel,rfl,by decide +kernel,by decide +kernel⟩
noncomputable def jed:DSt->MS Out:=(eSeq (eSet 2 (fun δ=>MS.b ((lF (jac (f2 gIx (fVar 0) (fC (.int 1))) fNil)) δ) jqh))
  (eSeq (eIf (mAnd (mB (mNeR (lF (fVar 2)) (lF (fL jb0 fNil)))) (lF (t2 gEq (f2 gMod (fVar 1) (fC (.int 2))) (fC (.int 0))))) (eSeq (eSet 3 (jhi 2 (f2 gMod (f2 jbn (fVar 1) (fC (.int 2))) (fL kLen (jac (fVar 2) fNil)))))
  (jen (lF (fVar 2)) (lF (fVar 3)) (mL jb6 (jce (m2 gIx (mIxL (lF (fVar 2)) (lF (fVar 3))) (lF (fC (.int 0)))) (jce (m2 gIx (mIxL (lF (fVar 2)) (lF (fVar 3))) (lF (fC (.int 1)))) (jce (jhi 2 (f2 gSub (f2 gIx (f2 gIx (fVar 2) (fVar 3)) (fC (.int 2))) (f2 gPow (fC (.int 10)) (fC (.int 29))))) (lF fNil))))))) eNx)
  (eRet (mL jb6 (jce (lF (f2 gIx (fVar 0) (fC (.int 0)))) (jce (lF (fVar 2)) (lF (jac (f2 gIx (fVar 0) (fC (.int 2))) fNil))))))))
noncomputable def jef:List D->MS D:=mirE 2 4 jed
theorem jh2(T:Txt K mg):jo5 P w K mg base 1 "_law_broken" jc0 ["_law_book_here","_law_number","_law_rules_here","_law_at_here"] jed:=fun f cdv A outer s H E hr =>
 (jay (jjj (i:=2) sc_law_broken.nd (jta rfl T.b_list (jbg (jaa (ja2 jal jam (jab 0) jad) jaf))))
  (jay (ji9 (MW.mt (jz0 (jzy (jnq (hu30 hr)) (jai (jab 2)) (jai (jgp jaf)) (jbr _)) (jws (jel (jc7 (jdr (hu30 hr)) jd5 (jag ja5 jav (jab 1) jad) jad (jbr _)))))) (jay (jjj (i:=3) sc_law_broken.nd (jnm (i:=2) rfl (jag ja5 jav (jag ja7 ja8 (jab 1) jad) (ja9 jbc jcj rfl T.b_len jdj (jaa (jab 2) jaf)))))
  (jbj (jgg (jai (jab 2)) (jai (jab 3)) (jnn (jbx (jqn jal jam (jep (jai (jab 2)) (jai (jab 3))) (jai jad)) (jbx (jqn jal jam (jep (jai (jab 2)) (jai (jab 3))) (jai jad)) (jbx (jnm (i:=2) rfl (jag jjl jha (ja2 jal jam (ja2 jal jam (jab 2) (jab 3)) jad) (jag jjk jg9 jad jad))) (jbg jaf)))))))) jgh)
  (jbj (jno (jnn (jbx (jai (ja2 jal jam (jab 0) jad)) (jbx (jai (jab 2)) (jbg (jaa (ja2 jal jam (jab 0) jad) jaf)))))))))
theorem jkh(T:Txt K mg):CalE P w K mg base 2 "_law_broken" 2 jef:=jl3 T.f_law_broken sc_law_broken (jh2 T)
theorem sc_law_counts:FnScope ["_law_script","_law_number"] ["_law_script"] (jae jcd):=⟨rfl,rfl,rfl,by decide +kernel,rfl,by decide +kernel,by decide +kernel⟩
noncomputable def jfh:DSt->M Out:=(gSeq (gSet 1 (jax jbl (jac (jax jbw (jac (fVar 0) (jac (fC (.int 0)) fNil))) (jac (fC (.int 1)) fNil))))
  (gRet (fL jb0 (jac (f2 gCat (fC (.int 1)) (f2 gMod (fVar 1) (fC (.int 4)))) (jac (f2 gCat (fC (.int 1)) (f2 gMod (f2 jbn (fVar 1) (fC (.int 4))) (fC (.int 5)))) (jac (f2 gCat (fC (.int 1)) (f2 gMod (f2 jbn (fVar 1) (fC (.int 20))) (fC (.int 6)))) fNil))))))
noncomputable def jeg:List D->M D:=mir 1 2 jfh
theorem jh3(T:Txt K mg):jdz P w K mg base 2 "_law_counts" jcd ["_law_script","_law_number"] jfh:=fun f cdv A outer s H E hr =>
 (jas (jbd (i:=1) sc_law_counts.nd (jan (jdv T) (hr.mono (by decide)) (jaa (jan (jd3 T) (hr.mono (by decide)) (jaa (jab 0) (jaa jad jaf))) (jaa jad jaf))))
  (ja3 (jbf (jgp (jaa (jag jaq jar jad (jag ja5 jav (jab 1) jad)) (jaa (jag jaq jar jad (jag ja5 jav (jag ja7 ja8 (jab 1) jad) jad)) (jaa (jag jaq jar jad (jag ja5 jav (jag ja7 ja8 (jab 1) jad) jad)) jaf)))))))
theorem jki(T:Txt K mg):Cal P w K mg base 3 "_law_counts" 1 jeg:=jb8 T.f_law_counts sc_law_counts (jh3 T)
noncomputable def jc3:List D->MS D:=mirL 1 2 (lF (gSet 1 (jax jbl (jac (jax jbw (jac (fVar 0) (jac (fC (.int 0)) fNil))) (jac (fC (.int 1)) fNil))))) (lF (jac (f2 gCat (fC (.int 1)) (f2 gMod (fVar 1) (fC (.int 4)))) (jac (f2 gCat (fC (.int 1)) (f2 gMod (f2 jbn (fVar 1) (fC (.int 4))) (fC (.int 5)))) (jac (f2 gCat (fC (.int 1)) (f2 gMod (f2 jbn (fVar 1) (fC (.int 20))) (fC (.int 6)))) fNil))))
theorem jjb(T:Txt K mg):CalF P w K mg base 3 "_law_counts" 1 jc3:=jsa T.f_law_counts sc_law_counts (b:=(jak jcd).dropLast) rfl (fun _ _ _ _ _ _ _ hr=>(jbj (jcb (jbd (i:=1) sc_law_counts.nd (jan (jdv T) (hr.mono (by decide)) (jaa (jan (jd3 T) (hr.mono (by decide)) (jaa (jab 0) (jaa jad jaf))) (jaa jad jaf))))))) (fun _ _ _ _ _ _ _ hr=>(jbg (jaa (jag jaq jar jad (jag ja5 jav (jab 1) jad)) (jaa (jag jaq jar jad (jag ja5 jav (jag ja7 ja8 (jab 1) jad) jad)) (jaa (jag jaq jar jad (jag ja5 jav (jag ja7 ja8 (jab 1) jad) jad)) jaf)))))
theorem sc_law_other_name:FnScope ["_law_number","_law_names","_law_some"] ["_law_number","_law_names"] (jae jbb):=⟨rfl,rfl,rfl,by decide +kernel,rfl,by decide +kernel,by decide +kernel⟩
noncomputable def jb1:DSt->M Out:=(gSeq (gSet 2 (fL jb0 (jac (fC (.str "")) (jac (fC (.str "A")) (jac (fC (.str "abcdefghijk")) (jac (fC (.str "a1")) (jac (fC (.str "a b")) (jac (fC (.str " a")) (jac (fC (.str "a ")) (jac (fC (.str "aB")) (jac (fC (.str "-")) (jac (fC (.str "abcdefghijklmnopqrst")) (jac (fC (.str "1")) (jac (fC (.str "a:")) fNil))))))))))))))
  (gSeq (gIf (DL.tAnd (t2 gEq (f2 gMod (fVar 0) (fC (.int 2))) (fC (.int 0))) (t2 gGt (fL kLen (jac (fVar 1) fNil)) (fC (.int 1)))) (gRet (f2 gIx (fVar 1) (f2 gMod (f2 jbn (fVar 0) (fC (.int 2))) (fL kLen (jac (fVar 1) fNil))))) gNx)
  (gRet (f2 gIx (fVar 2) (f2 gMod (f2 jbn (fVar 0) (fC (.int 2))) (fC (.int 12)))))))
noncomputable def jcn:List D->M D:=mir 2 3 jb1
theorem jf6(T:Txt K mg):jdz P w K mg base 1 "_law_other_name" jbb ["_law_number","_law_names","_law_some"] jb1:=fun f cdv A outer s H E hr =>
 (@jas _ _ _ _ _ _ _ _ _ _ (@jbd _ _ _ _ _ _ _ 2 _ _ sc_law_other_name.nd (@jgp _ _ _ _ _ _ (@jaa _ _ _ _ _ _ _ jb9 (@jaa _ _ _ _ _ _ _ jb9 (@jaa _ _ _ _ _ _ _ jb9 (@jaa _ _ _ _ _ _ _ jb9 (@jaa _ _ _ _ _ _ _ jb9 (@jaa _ _ _ _ _ _ _ jb9 (@jaa _ _ _ _ _ _ _ jb9 (@jaa _ _ _ _ _ _ _ jb9 (@jaa _ _ _ _ _ _ _ jb9 (@jaa _ _ _ _ _ _ _ jb9 (@jaa _ _ _ _ _ _ _ jb9 (@jaa _ _ _ _ _ _ _ jb9 jaf sC) sC) sC) sC) sC) sC) sC) sC) sC) sC) sC) sC)) rfl rfl (by first|exact Or.inl rfl|exact Or.inr rfl) rfl (by first|exact .inl rfl|exact .inr rfl))
  (jas (jpw (DW.dt (jpy (jc7 (jdr (hu30 hr)) jd5 (jag ja5 jav (jab 0) jad) jad (jbr _)) (jpz (jc7 jux jdq (ja9 jbc jcj rfl T.b_len jdj (jaa (jab 1) jaf)) jad (jbr _))))) (ja3 (jbf (ja2 jal jam (jab 1) (jag ja5 jav (jag ja7 ja8 (jab 0) jad) (ja9 jbc jcj rfl T.b_len jdj (jaa (jab 1) jaf)))))) jh8)
  (ja3 (jbf (ja2 jal jam (jab 2) (jag ja5 jav (jag ja7 ja8 (jab 0) jad) jad))))))
theorem jg8(T:Txt K mg):Cal P w K mg base 2 "_law_other_name" 2 (mir 2 3 jb1):=@jb8 P w K mg base "_law_other_name" jbb ["_law_number","_law_names","_law_some"] ["_law_number","_law_names"] 1 [] jb1 T.f_law_other_name sc_law_other_name (by exact @jf6 _ _ _ _ _ T)
theorem sc_law_renamed:FnScope ["_law_things","_law_number","_law_at_here","_law_names","_law_thing"] ["_law_things","_law_number"] (jae jbz):=⟨rfl,rfl,rfl,by decide +kernel,rfl,by decide +kernel,by decide +kernel⟩
noncomputable def jb4:DSt->M D:=(f2 gIx (fVar 1) (fC (.int 0)))
noncomputable def jey:DSt->M Out:=(gSeq (gSet 2 (f2 gMod (fVar 1) (fL kLen (jac (fVar 0) fNil))))
  (gSeq (gSet 3 (f2 gCat (jf1 2 [("_law_at_here",2)] (je6 jev (jac (fVar 0) fNil)) (je5 0 1) (t2 gNe (fVar 0) (fVar 2)) jb4) (fL jb0 (jac (fC (.str "")) fNil))))
  (gSeq (gSet 4 (f2 jh9 (fL jb6 (jac (jax jcn (jac (f2 jbn (fVar 1) (fC (.int 8))) (jac (fVar 3) fNil))) fNil)) (fSl (f2 gIx (fVar 0) (fVar 2)) (jfm (fC (.int 1))) jgj)))
  (gRet (f2 gCat (f2 gCat (fSl (fVar 0) jgj (jfm (fVar 2))) (fL jb0 (jac (fVar 4) fNil))) (fSl (fVar 0) (jfm (f2 gCat (fVar 2) (fC (.int 1)))) jgj))))))
noncomputable def jc4:List D->M D:=mir 2 5 jey
theorem jho(T:Txt K mg):jdz P w K mg base 2 "_law_renamed" jbz ["_law_things","_law_number","_law_at_here","_law_names","_law_thing"] jey:=fun f cdv A outer s H E hr =>
 (jas (jbd (i:=2) sc_law_renamed.nd (jag ja5 jav (jab 1) (ja9 jbc jcj rfl T.b_len jdj (jaa (jab 0) jaf))))
  (jas (jbd (i:=3) sc_law_renamed.nd (jag jaq jar (jej (own:=["_law_k","_law_thing"]) (caps:=[("_law_at_here",2)]) rfl (jei (N:=["_law_things","_law_number","_law_at_here","_law_names","_law_thing"]) (osc:=jae jbz) rfl rfl rfl (by decide +kernel)) (jpu rfl T.b_enumerate (jaa (jab 0) jaf)) (fun _ _ _ _=>(jj7 (i:=0) (j:=1) rfl (show (["_law_k","_law_thing","_law_at_here"]:List Str).Nodup from by decide +kernel))) (fun _ _ _ _=>(jyh (jc7 (jnq (hu30 hr)) jq4 (jab 0) (jab 2) (jbr _)))) (fun _ _ _ _=>(ja2 jal jam (jab 1) jad))) (jgp (jaa jb9 jaf))))
  (jas (jbd (i:=4) sc_law_renamed.nd (jag jkj jhy (jec (jaa (jan (jg8 T) (hr.mono (by decide)) (jaa (jag ja7 ja8 (jab 1) jad) (jaa (jab 3) jaf))) jaf)) (jft (ja2 jal jam (jab 0) (jab 2)) (jf8 jad) jf7)))
  (ja3 (jbf (jag jaq jar (jag jaq jar (jft (jab 0) jf7 (jf8 (jab 2))) (jgp (jaa (jab 4) jaf))) (jft (jab 0) (jf8 (jag jaq jar (jab 2) jad)) jf7)))))))
theorem jjc(T:Txt K mg):Cal P w K mg base 3 "_law_renamed" 2 jc4:=jb8 T.f_law_renamed sc_law_renamed (jho T)
theorem jje:FnScope ["_law_numbers","_law_number","_law_one"] ["_law_numbers","_law_number","_law_one"] (jae jch):=⟨rfl,rfl,rfl,by decide +kernel,rfl,by decide +kernel,by decide +kernel⟩
noncomputable def jez:DSt->M Out:=(gSeq (gIf (t2 gEq (f2 gMod (fVar 1) (fC (.int 2))) (fC (.int 0))) (gRet (fSl (fVar 0) (jfm (fC (.int 1))) jgj)) gNx)
  (gRet (f2 jh9 (fVar 0) (fL jb6 (jac (fVar 2) fNil)))))
noncomputable def jbm:List D->M D:=mir 3 3 jez
theorem jhp(T:Txt K mg):jdz P w K mg base 1 "_law_resized" jch ["_law_numbers","_law_number","_law_one"] jez:=fun f cdv A outer s H E hr =>
 (jas (jpw (jc7 (jdr (hu30 hr)) jd5 (jag ja5 jav (jab 1) jad) jad (jbr _)) (ja3 (jbf (jft (jab 0) (jf8 jad) jf7))) jh8)
  (ja3 (jbf (jag jkj jhy (jab 0) (jec (jaa (jab 2) jaf))))))
theorem jf5(T:Txt K mg):Cal P w K mg base 2 "_law_resized" 3 jbm:=jb8 T.f_law_resized jje (jhp T)
theorem sc_law_wrong:FnScope ["_law_script","_law_book_here","_law_number","_law_way","_law_lists","_law_place","_law_thing","_law_k","_law_name","_law_counts_here","_law_at_here","_law_rule","_law_deed"] ["_law_script","_law_book_here","_law_number"] (jae jdf):=⟨rfl,rfl,rfl,by decide +kernel,rfl,by decide +kernel,by decide +kernel⟩
noncomputable def jdi:DSt->MS Out:=(eSeq (lF (gSet 8 (f2 gCat (f2 gCat (fC (.str "z")) (f2 gIx (fC (.str "abcdefghijklmnopqrstuvwxyz")) (f2 gMod (fVar 7) (fC (.int 26))))) (f2 gIx (fC (.str "pq")) (f2 jbn (fVar 7) (fC (.int 26)))))))
  (jl6 (js4 (mIxL (lF (fVar 4)) (lF (fVar 5))) (lF (f2 jh9 (fL jb6 (jac (fVar 8) fNil)) (fSl (fVar 6) (jfm (fC (.int 1))) jgj))))))
noncomputable def jc8:DSt->MS Out:=(eSeq (lF (gSet 3 (f2 gMod (fVar 2) (fC (.int 8)))))
  (eSeq (lF (gSet 2 (f2 jbn (fVar 2) (fC (.int 8)))))
  (eSeq (eSet 4 (jwe (jce (fun δ=>MS.b ((lF (jac (f2 gIx (fVar 1) (fC (.int 0))) fNil)) δ) jla) (jce (fun δ=>MS.b ((lF (jac (f2 gIx (fVar 1) (fC (.int 1))) fNil)) δ) jla) (jce (fun δ=>MS.b ((lF (jac (f2 gIx (fVar 1) (fC (.int 2))) fNil)) δ) jla) (lF fNil))))))
  (eSeq (lF (gSet 5 (f2 gMod (fVar 2) (fC (.int 3)))))
  (eSeq (eIf (lF (t2 gEq (fVar 3) (fC (.int 0)))) (jen (lF (fVar 4)) (lF (fVar 5)) (lF (fL jb0 fNil))) (eIf (lF (DL.tAnd (t2 gEq (fVar 3) (fC (.int 1))) (DL.tAnd (t2 gGt (fVar 5) (fC (.int 0))) (t2 gEq (f2 gMod (f2 jbn (fVar 2) (fC (.int 3))) (fC (.int 2))) (fC (.int 0)))))) (eSeq (eSet 6 (mIxL (mIxL (lF (fVar 4)) (lF (fVar 5))) (lF (fC (.int 0)))))
  (eSeq (eFor (lF (je6 jb3 (jac (f2 gCat (fC (.int 7)) (f2 gMod (f2 jbn (fVar 2) (fC (.int 8))) (fC (.int 30)))) fNil))) (DL.gName 7) jdi)
  (jen (lF (fVar 4)) (lF (fVar 5)) (mSlL (mIxL (lF (fVar 4)) (lF (fVar 5))) (jfm (f1 gNeg (fC (.int 40)))) jgj)))) (eIf (lF (t2 gEq (fVar 3) (fC (.int 1)))) (eSeq (eSet 9 (jdp jc3 (lF (jac (fVar 0) fNil))))
  (eSeq (lF (jnj 9 (fVar 5) (f2 gIx (fL jb0 (jac (fC (.int 5)) (jac (fC (.int 6)) (jac (fC (.int 7)) fNil)))) (fVar 5))))
  (lF (gRet (jax jcz (jac (fVar 0) (jac (fVar 9) fNil))))))) (eIf (lF (t2 gLt (fVar 3) (fC (.int 5)))) (jen (lF (fVar 4)) (lF (fVar 5)) (jik jc4 (jce (mIxL (lF (fVar 4)) (lF (fVar 5))) (lF (jac (f2 jbn (fVar 2) (fC (.int 3))) fNil))))) (eIf (lF (t2 gEq (fVar 3) (fC (.int 5)))) (eSeq (lF (gSet 10 (f2 gMod (f2 jbn (fVar 2) (fC (.int 3))) (fL kLen (jac (f2 gIx (fVar 1) (fC (.int 1))) fNil)))))
  (eSeq (lF (gSet 11 (f2 gIx (f2 gIx (fVar 1) (fC (.int 1))) (fVar 10))))
  (jen (mIxL (lF (fVar 4)) (lF (fC (.int 1)))) (lF (fVar 10)) (lF (fL jb6 (jac (f2 gIx (fVar 11) (fC (.int 0))) (jac (jax jbm (jac (f2 gIx (fVar 11) (fC (.int 1))) (jac (f2 jbn (fVar 2) (fC (.int 64))) (jac (fC (.int 0)) fNil)))) (jac (f2 gIx (fVar 11) (fC (.int 2))) fNil)))))))) (eSeq (lF (gSet 10 (f2 gMod (f2 jbn (fVar 2) (fC (.int 3))) (fL kLen (jac (f2 gIx (fVar 1) (fC (.int 2))) fNil)))))
  (eSeq (lF (gSet 12 (f2 gIx (f2 gIx (fVar 1) (fC (.int 2))) (fVar 10))))
  (eSeq (jen (mIxL (lF (fVar 4)) (lF (fC (.int 2)))) (lF (fVar 10)) (lF (fL jb6 (jac (f2 gIx (fVar 12) (fC (.int 0))) (jac (f2 gCat (f2 gCat (f2 gIx (fVar 12) (fC (.int 2))) (fC (.int 1))) (f2 gMod (f2 jbn (fVar 2) (fC (.int 64))) (fC (.int 3)))) (jac (f2 gIx (fVar 12) (fC (.int 2))) (jac (f2 gIx (fVar 12) (fC (.int 3))) fNil)))))))
  (eIf (lF (t2 gEq (fVar 3) (fC (.int 6)))) (jen (mIxL (lF (fVar 4)) (lF (fC (.int 2)))) (lF (fVar 10)) (lF (f2 jh9 (fSl (fVar 12) jgj (jfm (fC (.int 3)))) (fL jb6 (jac (jax jbm (jac (f2 gIx (fVar 12) (fC (.int 3))) (jac (f2 jbn (fVar 2) (fC (.int 64))) (jac (fL jb6 (jac (fC (.int 0)) (jac (fC (.int 0)) fNil))) fNil)))) fNil))))) eNx)))))))))
  (eRet (mL jb6 (jce (mIxL (lF (fVar 4)) (lF (fC (.int 0)))) (jce (mIxL (lF (fVar 4)) (lF (fC (.int 1)))) (jce (mIxL (lF (fVar 4)) (lF (fC (.int 2)))) (lF fNil)))))))))))
noncomputable def jcp:List D->MS D:=mirE 3 13 jc8
theorem ji5(T:Txt K mg):jo5 P w K mg base 6 "_law_wrong" jdf ["_law_script","_law_book_here","_law_number","_law_way","_law_lists","_law_place","_law_thing","_law_k","_law_name","_law_counts_here","_law_at_here","_law_rule","_law_deed"] jc8:=fun f cdv A outer s H E hr =>
 (jay (jcb (jbd (i:=3) sc_law_wrong.nd (jag ja5 jav (jab 2) jad)))
  (jay (jcb (jbd (i:=2) sc_law_wrong.nd (jag ja7 ja8 (jab 2) jad)))
  (jay (jjj (i:=4) sc_law_wrong.nd (jwh (jbx (jkc rfl T.b_list (jbg (jaa (ja2 jal jam (jab 1) jad) jaf))) (jbx (jkc rfl T.b_list (jbg (jaa (ja2 jal jam (jab 1) jad) jaf))) (jbx (jkc rfl T.b_list (jbg (jaa (ja2 jal jam (jab 1) jad) jaf))) (jbg jaf))))))
  (jay (jcb (jbd (i:=5) sc_law_wrong.nd (jag ja5 jav (jab 2) jad)))
  (jay (ji9 (jel (jc7 (jdr (hu30 hr)) jd5 (jab 3) jad (jbr _))) (jbj (jgg (jai (jab 4)) (jai (jab 5)) (jai (jgp jaf)))) (jbj (ji9 (jel (DW.dt (jpy (jc7 (jdr (hu30 hr)) jd5 (jab 3) jad (jbr _)) (jpy (jc7 jux jdq (jab 5) jad (jbr _)) (jpz (jc7 (jdr (hu30 hr)) jd5 (jag ja5 jav (jag ja7 ja8 (jab 2) jad) jad) jad (jbr _))))))) (jay (jjj (i:=6) sc_law_wrong.nd (jep (jep (jai (jab 4)) (jai (jab 5))) (jai jad)))
  (jay (jzw PassesOwn.never rfl (jqq (jfu rfl T.b_range (jaa (jag jaq jar jad (jag ja5 jav (jag ja7 ja8 (jab 2) jad) jad)) jaf))) (jdn (i:=7) sc_law_wrong.nd) (jay (jcb (jbd (i:=8) sc_law_wrong.nd (jag jaq jar (jag jaq jar jb9 (ja2 jal jam jb9 (jag ja5 jav (jab 7) jad))) (ja2 jal jam jb9 (jag ja7 ja8 (jab 7) jad)))))
  (jbj (jwm (jwg (jep (jai (jab 4)) (jai (jab 5))) (jai (jag jkj jhy (jec (jaa (jab 8) jaf)) (jft (jab 6) (jf8 jad) jf7))))))))
  (jbj (jgg (jai (jab 4)) (jai (jab 5)) (jzt (jep (jai (jab 4)) (jai (jab 5))) (jf8 (jBr jA3 jxt jad)) jf7))))) (jbj (ji9 (jel (jc7 (jdr (hu30 hr)) jd5 (jab 3) jad (jbr _))) (jay (jwo (i:=9) sc_law_wrong.nd (jjb T) (hr.mono (by decide)) (jbg (jaa (jab 0) jaf)))
  (jay (jcb (jsi (i:=9) rfl (jab 5) (ja2 jal jam (jgp (jaa jad (jaa jad (jaa jad jaf)))) (jab 5))))
  (jwr (O':=[]) (by decide) (jbj (jcb (jbf (jan (jiq T) (hr.mono (by decide)) (jaa (jab 0) (jaa (jab 9) jaf))))))))) (jbj (ji9 (jel (jc7 jq0 jdq (jab 3) jad (jbr _))) (jbj (jgg (jai (jab 4)) (jai (jab 5)) (js8 (jjc T) (hr.mono (by decide)) (jbx (jep (jai (jab 4)) (jai (jab 5))) (jbg (jaa (jag ja7 ja8 (jab 2) jad) jaf)))))) (jbj (ji9 (jel (jc7 (jdr (hu30 hr)) jd5 (jab 3) jad (jbr _))) (jay (jcb (jbd (i:=10) sc_law_wrong.nd (jag ja5 jav (jag ja7 ja8 (jab 2) jad) (ja9 jbc jcj rfl T.b_len jdj (jaa (ja2 jal jam (jab 1) jad) jaf)))))
  (jay (jcb (jbd (i:=11) sc_law_wrong.nd (ja2 jal jam (ja2 jal jam (jab 1) jad) (jab 10))))
  (jbj (jgg (jep (jai (jab 4)) (jai jad)) (jai (jab 10)) (jai (jec (jaa (ja2 jal jam (jab 11) jad) (jaa (jan (jf5 T) (hr.mono (by decide)) (jaa (ja2 jal jam (jab 11) jad) (jaa (jag ja7 ja8 (jab 2) jad) (jaa jad jaf)))) (jaa (ja2 jal jam (jab 11) jad) jaf))))))))) (jay (jcb (jbd (i:=10) sc_law_wrong.nd (jag ja5 jav (jag ja7 ja8 (jab 2) jad) (ja9 jbc jcj rfl T.b_len jdj (jaa (ja2 jal jam (jab 1) jad) jaf)))))
  (jay (jcb (jbd (i:=12) sc_law_wrong.nd (ja2 jal jam (ja2 jal jam (jab 1) jad) (jab 10))))
  (jay (jgg (jep (jai (jab 4)) (jai jad)) (jai (jab 10)) (jai (jec (jaa (ja2 jal jam (jab 12) jad) (jaa (jag jaq jar (jag jaq jar (ja2 jal jam (jab 12) jad) jad) (jag ja5 jav (jag ja7 ja8 (jab 2) jad) jad)) (jaa (ja2 jal jam (jab 12) jad) (jaa (ja2 jal jam (jab 12) jad) jaf)))))))
  (jbj (ji9 (jel (jc7 (jdr (hu30 hr)) jd5 (jab 3) jad (jbr _))) (jbj (jgg (jep (jai (jab 4)) (jai jad)) (jai (jab 10)) (jai (jag jkj jhy (jft (jab 12) jf7 (jf8 jad)) (jec (jaa (jan (jf5 T) (hr.mono (by decide)) (jaa (ja2 jal jam (jab 12) jad) (jaa (jag ja7 ja8 (jab 2) jad) (jaa (jec (jaa jad (jaa jad jaf))) jaf)))) jaf)))))) jgh))))))))))))))
  (jbj (jno (jnn (jbx (jep (jai (jab 4)) (jai jad)) (jbx (jep (jai (jab 4)) (jai jad)) (jbx (jep (jai (jab 4)) (jai jad)) (jbg jaf))))))))))))
theorem jll(T:Txt K mg):CalE P w K mg base 7 "_law_wrong" 3 jcp:=jl3 T.f_law_wrong sc_law_wrong (ji5 T)
theorem jht:FnScope ["self","name"] ["self","name"] (jae jbs):=⟨rfl,rfl,rfl,by decide +kernel,rfl,by decide +kernel,by decide +kernel⟩
noncomputable def jfg:DSt->MS Out:=(jym xcs "name" (lF (fVar 0)) (lF (fVar 1)))
noncomputable def jfj:List D->MS D:=mirE 2 2 jfg
theorem jgl(T:Txt K mg):jo5 P w K mg base 1 "Broken.__init__" jbs ["self","name"] jfg:=fun f cdv A outer s H E hr =>
 (jbj (jwn T.errs rfl (jai (jab 0)) (jai (jab 1))))
theorem jhr(T:Txt K mg):IniXE P w K mg base 2 "Broken" 2 jfj:=jsr T.f_Broken_init__ jht (jgl T) (by decide)
theorem jmx:FnScope ["form","values"] ["form","values"] (jae jdh):=⟨rfl,rfl,rfl,by decide +kernel,rfl,by decide +kernel,by decide +kernel⟩
noncomputable def jh5:DSt->M D:=(f2 jck (fVar 0) (fVar 1))
noncomputable def jg5:DSt->M Out:=(gRet (f2 gCat (fL kSum (jac (jf1 2 [] (je6 jfs (jac (f2 gIx (fVar 0) (fC (.int 0))) (jac (fVar 1) fNil))) (je5 0 1) tYes jh5) fNil)) (f2 gIx (fVar 0) (fC (.int 1)))))
noncomputable def jfx:List D->M D:=mir 2 2 jg5
theorem jjx(T:Txt K mg):jdz P w K mg base 1 "value_of" jdh ["form","values"] jg5:=fun f cdv A outer s H E hr =>
 (ja3 (jbf (jag jaq jar (ja9 (jpm rfl) jvh rfl T.b_sum jyc (jaa (jej (own:=["coefficient","value"]) (caps:=[]) rfl (jei (N:=["form","values"]) (osc:=jae jdh) rfl rfl rfl (by decide +kernel)) (jue rfl T.b_zip (jaa (ja2 jal jam (jab 0) jad) (jaa (jab 1) jaf))) (fun _ _ _ _=>(jj7 (i:=0) (j:=1) rfl (show (["coefficient","value"]:List Str).Nodup from by decide +kernel))) (fun _ _ _ _=>jeu) (fun _ _ _ _=>(jag jb5 jbh (jab 0) (jab 1)))) jaf)) (ja2 jal jam (jab 0) jad))))
theorem jml(T:Txt K mg):Cal P w K mg base 2 "value_of" 2 jfx:=jb8 T.f_value_of jmx (jjx T)
theorem jtt:FnScope ["book","rule","state"] ["book","rule","state"] (jae jhc):=⟨rfl,rfl,rfl,by decide +kernel,rfl,by decide +kernel,by decide +kernel⟩
noncomputable def jmb:DSt->M Out:=(gRet (jax jfx (jac (fL jb6 (jac (f2 gIx (f2 gIx (f2 gIx (fVar 0) (fC (.int 1))) (fVar 1)) (fC (.int 1))) (jac (f2 gIx (f2 gIx (f2 gIx (fVar 0) (fC (.int 1))) (fVar 1)) (fC (.int 2))) fNil))) (jac (fVar 2) fNil))))
noncomputable def jin:List D->M D:=mir 3 3 jmb
theorem joa(T:Txt K mg):jdz P w K mg base 2 "spare" jhc ["book","rule","state"] jmb:=fun f cdv A outer s H E hr =>
 (ja3 (jbf (jan (jml T) (hr.mono (by decide)) (jaa (jec (jaa (ja2 jal jam (ja2 jal jam (ja2 jal jam (jab 0) jad) (jab 1)) jad) (jaa (ja2 jal jam (ja2 jal jam (ja2 jal jam (jab 0) jad) (jab 1)) jad) jaf))) (jaa (jab 2) jaf)))))
theorem jtj(T:Txt K mg):Cal P w K mg base 3 "spare" 3 jin:=jb8 T.f_spare jtt (joa T)
theorem sc_refuse_broken:FnScope ["book","state","place","rule"] ["book","state"] (jae jba):=⟨rfl,rfl,rfl,by decide +kernel,rfl,by decide +kernel,by decide +kernel⟩
noncomputable def jbk:DSt->MS Out:=(eIf (lF (t2 gLt (jax jin (jac (fVar 0) (jac (fVar 2) (jac (fVar 1) fNil)))) (fC (.int 0)))) (jnh xcs (juk "Broken" jfj (lF (jac (f2 gIx (fVar 3) (fC (.int 0))) fNil)))) eNx)
noncomputable def jd2:DSt->MS Out:=(eFor (lF (je6 jev (jac (f2 gIx (fVar 0) (fC (.int 1))) fNil))) (je5 2 3) jbk)
noncomputable def jca:List D->MS D:=mirE 2 4 jd2
theorem jgm(T:Txt K mg)(f:Addr)(cdv:Value)(A:Around)(outer:List Env)(s:Shared)(H:Hp)(E:XK)(hr:Room 3 (A.deeper (PyProof.Rows.envOfC "refuse_broken" (jae jba) s.heap.objs.size f cdv))) :
  MSsr (cxOf (CX1 P w) P w K mg base ["book","state","place","rule"] "refuse_broken" (jae jba) f cdv A outer s H E) [] [] [] E (jak jba) jd2 :=
 (jgv (jwq PassesOwn.leaving rfl (jqq (jpu rfl T.b_enumerate (jaa (ja2 jal jam (jab 0) jad) jaf))) (jj7 (i:=2) (j:=3) rfl sc_refuse_broken.nd) (jgv (juq (jel (jc7 jq0 jdq (jan (jtj T) (hr.mono (by decide)) (jaa (jab 0) (jaa (jab 2) (jaa (jab 1) jaf)))) jad (jbr _))) (jgv (jlc T.errs rfl jxw (jtb (jhr T) (hr.mono (by decide)) (jbg (jaa (ja2 jal jam (jab 3) jad) jaf))))) (jqt jgh)))))
theorem jhs(T:Txt K mg):CalR P w K mg base 4 "refuse_broken" 2 jca:=jpg T.f_refuse_broken sc_refuse_broken (jgm T)
theorem jmw:FnScope ["parts"] ["parts"] (jae jdg):=⟨rfl,rfl,rfl,by decide +kernel,rfl,by decide +kernel,by decide +kernel⟩
noncomputable def jh4:DSt->M D:=(f2 gIx (fVar 0) (fC (.int 0)))
noncomputable def jg4:DSt->M Out:=(gRet (jf1 1 [] (jj9 (fVar 0)) (DL.gName 0) tYes jh4))
noncomputable def jfw:List D->M D:=mir 1 1 jg4
theorem jjw(T:Txt K mg):jdz P w K mg base 1 "names_of" jdg ["parts"] jg4:=fun f cdv A outer s H E hr =>
 (ja3 (jbf (jej (own:=["part"]) (caps:=[]) rfl (jei (N:=["parts"]) (osc:=jae jdg) rfl rfl rfl (by decide +kernel)) (jkz (jab 0)) (fun _ _ _ _=>(jdn (i:=0) (show (["part"]:List Str).Nodup from by decide +kernel))) (fun _ _ _ _=>jeu) (fun _ _ _ _=>(ja2 jal jam (jab 0) jad)))))
theorem jmk(T:Txt K mg):Cal P w K mg base 2 "names_of" 1 jfw:=jb8 T.f_names_of jmw (jjw T)
theorem jlt:FnScope ["sign"] ["sign"] (jae jdc):=⟨rfl,rfl,rfl,by decide +kernel,rfl,by decide +kernel,by decide +kernel⟩
noncomputable def jib:DSt->M Out:=(gRet (jhh gLe gLe (fC (.str "a")) (fVar 0) (fC (.str "z"))))
noncomputable def jim:List D->M D:=mir 1 1 jib
theorem ji0(T:Txt K mg):jdz P w K mg base 1 "is_letter" jdc ["sign"] jib:=fun f cdv A outer s H E hr =>
 (ja3 (jbf (jj6 jir jdq jir jdq jb9 (jab 0) jb9)))
theorem jlh(T:Txt K mg):Cal P w K mg base 2 "is_letter" 1 jim:=jb8 T.f_is_letter jlt (ji0 T)
theorem joy:FnScope ["word"] ["word"] (jae jd7):=⟨rfl,rfl,rfl,by decide +kernel,rfl,by decide +kernel,by decide +kernel⟩
noncomputable def job:DSt->M D:=(jax jim (jac (fVar 0) fNil))
noncomputable def jk6:DSt->M Out:=(gRet (fAnd (jhh gLe gLe (fC (.int 1)) (fL kLen (jac (fVar 0) fNil)) (fC (.int 10))) (fL kAll (jac (jf1 1 [] (jy4 (fVar 0)) (DL.gName 0) tYes job) fNil))))
noncomputable def jb2:List D->M D:=mir 1 1 jk6
theorem jkt(T:Txt K mg):jdz P w K mg base 2 "is_name" jd7 ["word"] jk6:=fun f cdv A outer s H E hr =>
 (ja3 (jbf (jhf (jj6 jir jdq jir jdq jad (ja9 jbc jcj rfl T.b_len jdj (jaa (jab 0) jaf)) (jhv rfl T.g_NAME_LENGTH.choose_spec)) (jjg (ja9 (jgo rfl) jj1 rfl T.b_all jm7 (jaa (jej (own:=["sign"]) (caps:=[]) rfl (jei (N:=["word"]) (osc:=jae jd7) rfl rfl rfl (by decide +kernel)) (jyi (jab 0)) (fun _ _ _ _=>(jdn (i:=0) (show (["sign"]:List Str).Nodup from by decide +kernel))) (fun _ _ _ _=>jeu) (fun _ _ _ _=>(jan (jlh T) (hr.mono (by decide)) (jaa (jab 0) jaf)))) jaf))))))
theorem jop(T:Txt K mg):Cal P w K mg base 3 "is_name" 1 jb2:=jb8 T.f_is_name joy (jkt T)
theorem sc_are_named:FnScope ["parts","most","names"] ["parts","most"] (jae jcs):=⟨rfl,rfl,rfl,by decide +kernel,rfl,by decide +kernel,by decide +kernel⟩
noncomputable def jdk:DSt->M D:=(jax jb2 (jac (fVar 0) fNil))
noncomputable def jf9:DSt->M Out:=(gSeq (gSet 2 (jax jfw (jac (fVar 0) fNil)))
  (gRet (fAnd (jhh gLe gLe (fC (.int 1)) (fL kLen (jac (fVar 2) fNil)) (fVar 1)) (fAnd (fL kAll (jac (jf1 1 [] (jj9 (fVar 2)) (DL.gName 0) tYes jdk) fNil)) (f2 gEq (f1 jma (fVar 2)) (fL kLen (jac (fVar 2) fNil)))))))
noncomputable def jbo:List D->M D:=mir 2 3 jf9
theorem jiy(T:Txt K mg):jdz P w K mg base 3 "are_named" jcs ["parts","most","names"] jf9:=fun f cdv A outer s H E hr =>
 (jas (jbd (i:=2) sc_are_named.nd (jan (jmk T) (hr.mono (by decide)) (jaa (jab 0) jaf)))
  (ja3 (jbf (jhf (jj6 jir jdq jir jdq jad (ja9 jbc jcj rfl T.b_len jdj (jaa (jab 2) jaf)) (jab 1)) (jhf (ja9 (jgo rfl) jj1 rfl T.b_all jm7 (jaa (jej (own:=["name"]) (caps:=[]) rfl (jei (N:=["parts","most","names"]) (osc:=jae jcs) rfl rfl rfl (by decide +kernel)) (jkz (jab 2)) (fun _ _ _ _=>(jdn (i:=0) (show (["name"]:List Str).Nodup from by decide +kernel))) (fun _ _ _ _=>jeu) (fun _ _ _ _=>(jan (jop T) (hr.mono (by decide)) (jaa (jab 0) jaf)))) jaf)) (jjg (jjf (jdr (hu30 hr)) jd5 (jvs rfl T.b_set T.b_len (jab 2)) (ja9 jbc jcj rfl T.b_len jdj (jaa (jab 2) jaf)) (jbr _))))))))
theorem jfn(T:Txt K mg):Cal P w K mg base 4 "are_named" 2 jbo:=jb8 T.f_are_named sc_are_named (jiy T)
theorem sc_are_rules:FnScope ["book","width"] ["book"] (jae jct):=⟨rfl,rfl,rfl,by decide +kernel,rfl,by decide +kernel,by decide +kernel⟩
noncomputable def jfb:DSt->M D:=(f2 gEq (fL kLen (jac (f2 gIx (fVar 0) (fC (.int 1))) fNil)) (fVar 1))
noncomputable def jex:DSt->M Out:=(gSeq (gSet 1 (fL kLen (jac (f2 gIx (fVar 0) (fC (.int 0))) fNil)))
  (gRet (fAnd (jax jbo (jac (f2 gIx (fVar 0) (fC (.int 1))) (jac (fC (.int 5)) fNil))) (fL kAll (jac (jf1 1 [("width",1)] (jj9 (f2 gIx (fVar 0) (fC (.int 1)))) (DL.gName 0) tYes jfb) fNil)))))
noncomputable def jbv:List D->M D:=mir 1 2 jex
theorem jiz(T:Txt K mg):jdz P w K mg base 4 "are_rules" jct ["book","width"] jex:=fun f cdv A outer s H E hr =>
 (jas (jbd (i:=1) sc_are_rules.nd (ja9 jbc jcj rfl T.b_len jdj (jaa (ja2 jal jam (jab 0) jad) jaf)))
  (ja3 (jbf (jhf (jan (jfn T) (hr.mono (by decide)) (jaa (ja2 jal jam (jab 0) jad) (jaa (jhv rfl T.g_MOST_RULES.choose_spec) jaf))) (jjg (ja9 (jgo rfl) jj1 rfl T.b_all jm7 (jaa (jej (own:=["rule"]) (caps:=[("width",1)]) rfl (jei (N:=["book","width"]) (osc:=jae jct) rfl rfl rfl (by decide +kernel)) (jkz (ja2 jal jam (jab 0) jad)) (fun _ _ _ _=>(jdn (i:=0) (show (["rule","width"]:List Str).Nodup from by decide +kernel))) (fun _ _ _ _=>jeu) (fun _ _ _ _=>(jjf (jdr (hu30 hr)) jd5 (ja9 jbc jcj rfl T.b_len jdj (jaa (ja2 jal jam (jab 0) jad) jaf)) (jab 1) (jbr _)))) jaf)))))))
theorem jlg(T:Txt K mg):Cal P w K mg base 5 "are_rules" 1 jbv:=jb8 T.f_are_rules sc_are_rules (jiz T)
theorem sc_are_deeds:FnScope ["book","width"] ["book"] (jae jcr):=⟨rfl,rfl,rfl,by decide +kernel,rfl,by decide +kernel,by decide +kernel⟩
noncomputable def jfa:DSt->M D:=(fAnd (f2 gEq (fL kLen (jac (f2 gIx (fVar 0) (fC (.int 3))) fNil)) (fVar 1)) (f2 gLe (f2 gIx (fVar 0) (fC (.int 1))) (f2 gIx (fVar 0) (fC (.int 2)))))
noncomputable def jew:DSt->M Out:=(gSeq (gSet 1 (fL kLen (jac (f2 gIx (fVar 0) (fC (.int 0))) fNil)))
  (gRet (fAnd (jax jbo (jac (f2 gIx (fVar 0) (fC (.int 2))) (jac (fC (.int 6)) fNil))) (fL kAll (jac (jf1 1 [("width",1)] (jj9 (f2 gIx (fVar 0) (fC (.int 2)))) (DL.gName 0) tYes jfa) fNil)))))
noncomputable def jco:List D->M D:=mir 1 2 jew
theorem jix(T:Txt K mg):jdz P w K mg base 4 "are_deeds" jcr ["book","width"] jew:=fun f cdv A outer s H E hr =>
 (jas (jbd (i:=1) sc_are_deeds.nd (ja9 jbc jcj rfl T.b_len jdj (jaa (ja2 jal jam (jab 0) jad) jaf)))
  (ja3 (jbf (jhf (jan (jfn T) (hr.mono (by decide)) (jaa (ja2 jal jam (jab 0) jad) (jaa (jhv rfl T.g_MOST_DEEDS.choose_spec) jaf))) (jjg (ja9 (jgo rfl) jj1 rfl T.b_all jm7 (jaa (jej (own:=["deed"]) (caps:=[("width",1)]) rfl (jei (N:=["book","width"]) (osc:=jae jcr) rfl rfl rfl (by decide +kernel)) (jkz (ja2 jal jam (jab 0) jad)) (fun _ _ _ _=>(jdn (i:=0) (show (["deed","width"]:List Str).Nodup from by decide +kernel))) (fun _ _ _ _=>jeu) (fun _ _ _ _=>(jhf (jjf (jdr (hu30 hr)) jd5 (ja9 jbc jcj rfl T.b_len jdj (jaa (ja2 jal jam (jab 0) jad) jaf)) (jab 1) (jbr _)) (jjg (jjf jir jdq (ja2 jal jam (jab 0) jad) (ja2 jal jam (jab 0) jad) (jbr _)))))) jaf)))))))
theorem jlf(T:Txt K mg):Cal P w K mg base 5 "are_deeds" 1 jco:=jb8 T.f_are_deeds sc_are_deeds (jix T)
theorem jox:FnScope ["book"] ["book"] (jae jeq):=⟨rfl,rfl,rfl,by decide +kernel,rfl,by decide +kernel,by decide +kernel⟩
noncomputable def jia:DSt->M Out:=(gRet (fAnd (jax jbo (jac (f2 gIx (fVar 0) (fC (.int 0))) (jac (fC (.int 4)) fNil))) (fAnd (jax jbv (jac (fVar 0) fNil)) (jax jco (jac (fVar 0) fNil)))))
noncomputable def jcl:List D->M D:=mir 1 1 jia
theorem jks(T:Txt K mg):jdz P w K mg base 5 "is_book" jeq ["book"] jia:=fun f cdv A outer s H E hr =>
 (ja3 (jbf (jhf (jan (jfn T) (hr.mono (by decide)) (jaa (ja2 jal jam (jab 0) jad) (jaa (jhv rfl T.g_MOST_ITEMS.choose_spec) jaf))) (jhf (jan (jlg T) (hr.mono (by decide)) (jaa (jab 0) jaf)) (jjg (jan (jlf T) (hr.mono (by decide)) (jaa (jab 0) jaf)))))))
theorem joo(T:Txt K mg):Cal P w K mg base 6 "is_book" 1 jcl:=jb8 T.f_is_book jox (jks T)
theorem jlu:FnScope ["book"] ["book"] (jae jcw):=⟨rfl,rfl,rfl,by decide +kernel,rfl,by decide +kernel,by decide +kernel⟩
noncomputable def jfe:DSt->M D:=(f2 gIx (fVar 0) (fC (.int 1)))
noncomputable def jge:DSt->M Out:=(gRet (fL kTuple (jac (jf1 1 [] (jj9 (f2 gIx (fVar 0) (fC (.int 0)))) (DL.gName 0) tYes jfe) fNil)))
noncomputable def jda:List D->M D:=mir 1 1 jge
theorem ji6(T:Txt K mg):jdz P w K mg base 1 "starts_of" jcw ["book"] jge:=fun f cdv A outer s H E hr =>
 (ja3 (jbf (jdl jes jh6 rfl T.b_tuple jj0 (jaa (jej (own:=["item"]) (caps:=[]) rfl (jei (N:=["book"]) (osc:=jae jcw) rfl rfl rfl (by decide +kernel)) (jkz (ja2 jal jam (jab 0) jad)) (fun _ _ _ _=>(jdn (i:=0) (show (["item"]:List Str).Nodup from by decide +kernel))) (fun _ _ _ _=>jeu) (fun _ _ _ _=>(ja2 jal jam (jab 0) jad))) jaf))))
theorem jlm(T:Txt K mg):Cal P w K mg base 2 "starts_of" 1 jda:=jb8 T.f_starts_of jlu (ji6 T)
theorem jkm:FnScope ["book"] ["book"] (jae jbt):=⟨rfl,rfl,rfl,by decide +kernel,rfl,by decide +kernel,by decide +kernel⟩
noncomputable def jcy:DSt->MS Out:=(eSeq (eIf (lF (DL.tNot (tTru (jax jcl (jac (fVar 0) fNil))))) (jnh xcs (jzm "NoBook")) eNx)
  (jl6 (jdp jca (lF (jac (fVar 0) (jac (jax jda (jac (fVar 0) fNil)) fNil))))))
noncomputable def ja4:List D->MS D:=mirE 1 1 jcy
theorem jh1(T:Txt K mg)(f:Addr)(cdv:Value)(A:Around)(outer:List Env)(s:Shared)(H:Hp)(E:XK)(hr:Room 6 (A.deeper (PyProof.Rows.envOfC "check_book" (jae jbt) s.heap.objs.size f cdv))) :
  MSsr (cxOf (CX1 P w) P w K mg base ["book"] "check_book" (jae jbt) f cdv A outer s H E) [] [] [] E (jak jbt) jcy :=
 (jqs (juq (jel (jyk (jyl (jan (joo T) (hr.mono (by decide)) (jaa (jab 0) jaf))))) (jgv (jlc T.errs rfl jxw (jwi T.n_NoBook))) (jqt jgh))
  (jgv (jqr (jhs T) (hr.mono (by decide)) jxw (jbg (jaa (jab 0) (jaa (jan (jlm T) (hr.mono (by decide)) (jaa (jab 0) jaf)) jaf))))))
theorem jgx(T:Txt K mg):CalR P w K mg base 7 "check_book" 1 ja4:=jpg T.f_check_book jkm (jh1 T)
theorem sc_law_refused:FnScope ["_law_book_here","_law_kept","e"] ["_law_book_here"] (jae jcg):=⟨rfl,rfl,rfl,by decide +kernel,rfl,by decide +kernel,by decide +kernel⟩
noncomputable def jds:DSt->MS Out:=(eSeq (lF (gSet 1 (fC .non)))
  (eSeq (jsj ja4 xcs 2 1 (lF (jac (fVar 0) fNil)))
  (eSeq (eIf (mOr (mNot (mTru (mIsX xcs (fun c=>c == "NoBook") (lF (fVar 1))))) (mNot (mTru (mIsX xcs (fun _=>true) (lF (fVar 1)))))) (lF (gRet (fC (.bl false)))) eNx)
  (eSeq (eIf (mTru (mIsX xcs (fun c=>(["Broken","Folded","NoDeed","NoLine","NoName","NoPaper","NoRule","NoText"]:List Str).contains c) (lF (fVar 1)))) (lF (gRet (fC (.bl false)))) eNx)
  (eRet (jwf (mIsX xcs (fun c=>(["NotPlain","OutOfRange","ShortShare"]:List Str).contains c) (lF (fVar 1)))))))))
noncomputable def jcf:List D->MS D:=mirE 1 3 jds
theorem jhn(T:Txt K mg):jo5 P w K mg base 7 "_law_refused" jcg ["_law_book_here","_law_kept","e"] jds:=fun f cdv A outer s H E hr =>
 (jay (jcb (jbd (i:=1) sc_law_refused.nd juc))
  (jay (jwp (j:=2) (l:=1) (jgx T) T.errm (hr.mono (by decide)) (fun _=>(jbg (jaa (jab 0) jaf))) rfl rfl sc_law_refused.nd rfl rfl (by decide))
  (jay (ji9 (MW.mt (jz1 (jur (jqu (jzp (d:="NoBook") T.errs rfl T.b_isinstance (jai (jab 1))))) (jus (jur (jqu (jzq T.errs T.b_isinstance T.b_ValueError (jai (jab 1)))))))) (jbj (jcb (jbf jvr))) jgh)
  (jay (ji9 (jqu (jun (ds:=["Broken","Folded","NoDeed","NoLine","NoName","NoPaper","NoRule","NoText"]) T.errs (jd0 (d:="Broken") T.errs (jd0 (d:="Folded") T.errs (jd0 (d:="NoDeed") T.errs (jd0 (d:="NoLine") T.errs (jd0 (d:="NoName") T.errs (jd0 (d:="NoPaper") T.errs (jd0 (d:="NoRule") T.errs (jd0 (d:="NoText") T.errs jub)))))))) rfl T.b_isinstance (jai (jab 1)) (by decide))) (jbj (jcb (jbf jvr))) jgh)
  (jbj (jno (jzr (jun (ds:=["NotPlain","OutOfRange","ShortShare"]) T.errs (jd0 (d:="NotPlain") T.errs (jd0 (d:="OutOfRange") T.errs (jd0 (d:="ShortShare") T.errs jub))) rfl T.b_isinstance (jai (jab 1)) (by decide)))))))))
theorem jf4(T:Txt K mg):CalE P w K mg base 8 "_law_refused" 1 jcf:=jl3 T.f_law_refused sc_law_refused (jhn T)
theorem sc_law:FnScope ["_law_script","_law_book_here","_law_handed","_law_wrong_here"] ["_law_script"] (jae jow):=⟨rfl,rfl,rfl,by decide +kernel,rfl,by decide +kernel,by decide +kernel⟩
noncomputable def jsp:DSt->MS Out:=(eSeq (lF (gSet 1 (jax jcz (jac (fVar 0) (jac (jax jeg (jac (fVar 0) fNil)) fNil)))))
  (eSeq (lF (gSet 2 (fL jb6 (jac (fL kList (jac (f2 gIx (fVar 1) (fC (.int 0))) fNil)) (jac (fL kList (jac (f2 gIx (fVar 1) (fC (.int 1))) fNil)) (jac (fL kList (jac (f2 gIx (fVar 1) (fC (.int 2))) fNil)) fNil))))))
  (eSeq (eIf (mOr (mB (m2 jni (jil ja4 (lF (jac (fVar 2) fNil))) (lF (fC .non)))) (lF (t2 gNe (fVar 2) (fVar 1)))) (lF (gRet (fC (.bl false)))) eNx)
  (eSeq (eSet 3 (jdp jef (jce (jdp jcp (lF (jac (fVar 0) (jac (fVar 1) (jac (jax jbl (jac (jax jbw (jac (fVar 0) (jac (fC (.int 0)) fNil))) (jac (fC (.int 5)) fNil))) fNil))))) (lF (jac (jax jbl (jac (jax jbw (jac (fVar 0) (jac (fC (.int 0)) fNil))) (jac (fC (.int 6)) fNil))) fNil)))))
  (eSeq (eSet 2 (mL jb6 (jce (fun δ=>MS.b ((jce (m2 gIx (lF (fVar 3)) (lF (fC (.int 0)))) (lF fNil)) δ) jmf) (jce (fun δ=>MS.b ((jce (m2 gIx (lF (fVar 3)) (lF (fC (.int 1)))) (lF fNil)) δ) jmf) (jce (fun δ=>MS.b ((jce (m2 gIx (lF (fVar 3)) (lF (fC (.int 2)))) (lF fNil)) δ) jmf) (lF fNil))))))
  (eRet (js3 (jdp jcf (lF (jac (fVar 2) fNil))) (js3 (jdp jcf (lF (jac (fVar 2) fNil))) (mEqR (lF (fVar 2)) (lF (fVar 3)))))))))))
noncomputable def js6:List D->MS D:=mirE 1 4 jsp
theorem jr9(T:Txt K mg):jo5 P w K mg base 8 "law" jow ["_law_script","_law_book_here","_law_handed","_law_wrong_here"] jsp:=fun f cdv A outer s H E hr =>
 (jay (jcb (jbd (i:=1) sc_law.nd (jan (jiq T) (hr.mono (by decide)) (jaa (jab 0) (jaa (jan (jki T) (hr.mono (by decide)) (jaa (jab 0) jaf)) jaf)))))
  (jay (jcb (jbd (i:=2) sc_law.nd (jec (jaa (jdl jcx jj2 rfl T.b_list jg0 (jaa (ja2 jal jam (jab 1) jad) jaf)) (jaa (jdl jcx jj2 rfl T.b_list jg0 (jaa (ja2 jal jam (jab 1) jad) jaf)) (jaa (jdl jcx jj2 rfl T.b_list jg0 (jaa (ja2 jal jam (jab 1) jad) jaf)) jaf))))))
  (jay (ji9 (MW.mt (jz1 (jzx jwz jq3 (js9 (jgx T) (hr.mono (by decide)) (jbg (jaa (jab 2) jaf))) (jai juc) (jbr _)) (jus (jel (jc7 (jnq (hu30 hr)) jq4 (jab 2) (jab 1) (jbr _)))))) (jbj (jcb (jbf jvr))) jgh)
  (jay (jjj (i:=3) sc_law.nd (jkb (jkh T) (hr.mono (by decide)) (jbx (jkb (jll T) (hr.mono (by decide)) (jbg (jaa (jab 0) (jaa (jab 1) (jaa (jan (jdv T) (hr.mono (by decide)) (jaa (jan (jd3 T) (hr.mono (by decide)) (jaa (jab 0) (jaa jad jaf))) (jaa jad jaf))) jaf))))) (jbg (jaa (jan (jdv T) (hr.mono (by decide)) (jaa (jan (jd3 T) (hr.mono (by decide)) (jaa (jab 0) (jaa jad jaf))) (jaa jad jaf))) jaf)))))
  (jay (jjj (i:=2) sc_law.nd (jnn (jbx (jkd rfl T.b_list (jbx (jqn jal jam (jai (jab 3)) (jai jad)) (jbg jaf))) (jbx (jkd rfl T.b_list (jbx (jqn jal jam (jai (jab 3)) (jai jad)) (jbg jaf))) (jbx (jkd rfl T.b_list (jbx (jqn jal jam (jai (jab 3)) (jai jad)) (jbg jaf))) (jbg jaf))))))
  (jbj (jno (jul (jkb (jf4 T) (hr.mono (by decide)) (jbg (jaa (jab 2) jaf))) (jul (jkb (jf4 T) (hr.mono (by decide)) (jbg (jaa (jab 2) jaf))) (jzs (jzo (jdr (hu30 hr)) (jai (jab 2)) (jai (jab 3)) (jbr _))))))))))))
end
theorem ji8{us:List Value}{n:Nat}(h:us.length=n+1):∃ a r,us=a::r/\r.length=n:=by
 cases us with
 | nil=>cases h
 | cons a r=>exact⟨a,r,rfl,Nat.succ.inj h⟩
theorem jiw{fd:FuncData}{p0:Str}(h:∀ a0:Value,bindArgs fd ⟨[a0],[]⟩=pure ([p0].zip [a0]))(us:List Value)(hl:us.length=([p0]:List Str).length):bindArgs fd ⟨us,[]⟩=pure ([p0].zip us):=by
 obtain⟨a0,r0,rfl,q0⟩:=ji8 hl;cases List.eq_nil_of_length_eq_zero q0;exact h a0
theorem jhm{fd:FuncData}{p0 p1:Str}(h:∀ a0 a1:Value,bindArgs fd ⟨[a0,a1],[]⟩=pure ([p0,p1].zip [a0,a1]))(us:List Value)(hl:us.length=([p0,p1]:List Str).length):bindArgs fd ⟨us,[]⟩=pure ([p0,p1].zip us):=by
 obtain⟨a0,r0,rfl,q0⟩:=ji8 hl;obtain⟨a1,r1,rfl,q1⟩:=ji8 q0;cases List.eq_nil_of_length_eq_zero q1;exact h a0 a1
theorem jn9{fd:FuncData}{p0 p1 p2:Str}(h:∀ a0 a1 a2:Value,bindArgs fd ⟨[a0,a1,a2],[]⟩=pure ([p0,p1,p2].zip [a0,a1,a2]))(us:List Value)(hl:us.length=([p0,p1,p2]:List Str).length):bindArgs fd ⟨us,[]⟩=pure ([p0,p1,p2].zip us):=by
 obtain⟨a0,r0,rfl,q0⟩:=ji8 hl;obtain⟨a1,r1,rfl,q1⟩:=ji8 q0;obtain⟨a2,r2,rfl,q2⟩:=ji8 q1;cases List.eq_nil_of_length_eq_zero q2;exact h a0 a1 a2
theorem jBo{fd:FuncData}{p0 p1 p2 p3:Str}(h:∀ a0 a1 a2 a3:Value,bindArgs fd ⟨[a0,a1,a2,a3],[]⟩=pure ([p0,p1,p2,p3].zip [a0,a1,a2,a3]))(us:List Value)(hl:us.length=([p0,p1,p2,p3]:List Str).length):bindArgs fd ⟨us,[]⟩=pure ([p0,p1,p2,p3].zip us):=by
 obtain⟨a0,r0,rfl,q0⟩:=ji8 hl;obtain⟨a1,r1,rfl,q1⟩:=ji8 q0;obtain⟨a2,r2,rfl,q2⟩:=ji8 q1;obtain⟨a3,r3,rfl,q3⟩:=ji8 q2;cases List.eq_nil_of_length_eq_zero q3;exact h a0 a1 a2 a3
theorem txt_mk{K:W.Frag}{h:Heap}{mg:Str->Option Value}(X:K.In h)(G:h.Ns mainGlobals mg)
    {C_BookError:Addr}
    {C_Broken:Addr}
    {C_Folded:Addr}
    {C_NoBook:Addr}
    {C_NoDeed:Addr}
    {C_NoLine:Addr}
    {C_NoName:Addr}
    {C_NoPaper:Addr}
    {C_NoRule:Addr}
    {C_NoText:Addr}
    {C_NotPlain:Addr}
    {C_OutOfRange:Addr}
    {C_ShortShare:Addr}
    {f0:Addr} {oc0 kV0 dc0 pm0 cd0 ct0:Value} {od0 an0:Option Addr} {sl0:Array (Option Value)}
    {f1:Addr} {oc1 kV1 dc1 pm1 cd1 ct1:Value} {od1 an1:Option Addr} {sl1:Array (Option Value)}
    {f2:Addr} {oc2 kV2 dc2 pm2 cd2 ct2:Value} {od2 an2:Option Addr} {sl2:Array (Option Value)}
    {f3:Addr} {oc3 kV3 dc3 pm3 cd3 ct3:Value} {od3 an3:Option Addr} {sl3:Array (Option Value)}
    {f4:Addr} {oc4 kV4 dc4 pm4 cd4 ct4:Value} {od4 an4:Option Addr} {sl4:Array (Option Value)}
    {f5:Addr} {oc5 kV5 dc5 pm5 cd5 ct5:Value} {od5 an5:Option Addr} {sl5:Array (Option Value)}
    {f6:Addr} {oc6 kV6 dc6 pm6 cd6 ct6:Value} {od6 an6:Option Addr} {sl6:Array (Option Value)}
    {f7:Addr} {oc7 kV7 dc7 pm7 cd7 ct7:Value} {od7 an7:Option Addr} {sl7:Array (Option Value)}
    {f8:Addr} {oc8 kV8 dc8 pm8 cd8 ct8:Value} {od8 an8:Option Addr} {sl8:Array (Option Value)}
    {f9:Addr} {oc9 kV9 dc9 pm9 cd9 ct9:Value} {od9 an9:Option Addr} {sl9:Array (Option Value)}
    {f10:Addr} {oc10 kV10 dc10 pm10 cd10 ct10:Value} {od10 an10:Option Addr} {sl10:Array (Option Value)}
    {f11:Addr} {oc11 kV11 dc11 pm11 cd11 ct11:Value} {od11 an11:Option Addr} {sl11:Array (Option Value)}
    {f12:Addr} {oc12 kV12 dc12 pm12 cd12 ct12:Value} {od12 an12:Option Addr} {sl12:Array (Option Value)}
    {f13:Addr} {oc13 kV13 dc13 pm13 cd13 ct13:Value} {od13 an13:Option Addr} {sl13:Array (Option Value)}
    {f14:Addr} {oc14 kV14 dc14 pm14 cd14 ct14:Value} {od14 an14:Option Addr} {sl14:Array (Option Value)}
    {f15:Addr} {oc15 kV15 dc15 pm15 cd15 ct15:Value} {od15 an15:Option Addr} {sl15:Array (Option Value)}
    {f16:Addr} {oc16 kV16 dc16 pm16 cd16 ct16:Value} {od16 an16:Option Addr} {sl16:Array (Option Value)}
    {f17:Addr} {oc17 kV17 dc17 pm17 cd17 ct17:Value} {od17 an17:Option Addr} {sl17:Array (Option Value)}
    {f18:Addr} {oc18 kV18 dc18 pm18 cd18 ct18:Value} {od18 an18:Option Addr} {sl18:Array (Option Value)}
    {f19:Addr} {oc19 kV19 dc19 pm19 cd19 ct19:Value} {od19 an19:Option Addr} {sl19:Array (Option Value)}
    {f20:Addr} {oc20 kV20 dc20 pm20 cd20 ct20:Value} {od20 an20:Option Addr} {sl20:Array (Option Value)}
    {f21:Addr} {oc21 kV21 dc21 pm21 cd21 ct21:Value} {od21 an21:Option Addr} {sl21:Array (Option Value)}
    {f22:Addr} {oc22 kV22 dc22 pm22 cd22 ct22:Value} {od22 an22:Option Addr} {sl22:Array (Option Value)}
    {f23:Addr} {oc23 kV23 dc23 pm23 cd23 ct23:Value} {od23 an23:Option Addr} {sl23:Array (Option Value)}
    {f24:Addr} {oc24 kV24 dc24 pm24 cd24 ct24:Value} {od24 an24:Option Addr} {sl24:Array (Option Value)}
    {f25:Addr} {oc25 kV25 dc25 pm25 cd25 ct25:Value} {od25 an25:Option Addr} {sl25:Array (Option Value)}
    {f26:Addr} {oc26 kV26 dc26 pm26 cd26 ct26:Value} {od26 an26:Option Addr} {sl26:Array (Option Value)}
    {f27:Addr} {oc27 kV27 dc27 pm27 cd27 ct27:Value} {od27 an27:Option Addr} {sl27:Array (Option Value)}
    {f28:Addr} {oc28 kV28 dc28 pm28 cd28 ct28:Value} {od28 an28:Option Addr} {sl28:Array (Option Value)}
    {f29:Addr} {oc29 kV29 dc29 pm29 cd29 ct29:Value} {od29 an29:Option Addr} {sl29:Array (Option Value)}
    {t0:Tok}
    {t1:Tok}
    {t2:Tok}
    {t3:Tok}
    (ca_BookError:W.nsIn K mainGlobals "BookError"=some (some (.ref C_BookError)))
    (ca_Broken:W.nsIn K mainGlobals "Broken"=some (some (.ref C_Broken)))
    (ca_Folded:W.nsIn K mainGlobals "Folded"=some (some (.ref C_Folded)))
    (ca_NoBook:W.nsIn K mainGlobals "NoBook"=some (some (.ref C_NoBook)))
    (ca_NoDeed:W.nsIn K mainGlobals "NoDeed"=some (some (.ref C_NoDeed)))
    (ca_NoLine:W.nsIn K mainGlobals "NoLine"=some (some (.ref C_NoLine)))
    (ca_NoName:W.nsIn K mainGlobals "NoName"=some (some (.ref C_NoName)))
    (ca_NoPaper:W.nsIn K mainGlobals "NoPaper"=some (some (.ref C_NoPaper)))
    (ca_NoRule:W.nsIn K mainGlobals "NoRule"=some (some (.ref C_NoRule)))
    (ca_NoText:W.nsIn K mainGlobals "NoText"=some (some (.ref C_NoText)))
    (ca_NotPlain:W.nsIn K mainGlobals "NotPlain"=some (some (.ref C_NotPlain)))
    (ca_OutOfRange:W.nsIn K mainGlobals "OutOfRange"=some (some (.ref C_OutOfRange)))
    (ca_ShortShare:W.nsIn K mainGlobals "ShortShare"=some (some (.ref C_ShortShare)))
    (tab:xTab K [("Broken",C_Broken),("Folded",C_Folded),("NoBook",C_NoBook),("NoDeed",C_NoDeed),("NoLine",C_NoLine),("NoName",C_NoName),("NoPaper",C_NoPaper),("NoRule",C_NoRule),("NoText",C_NoText),("NotPlain",C_NotPlain),("OutOfRange",C_OutOfRange),("ShortShare",C_ShortShare)] C_BookError xfs=true)
    (tab2:jA6 K [("Broken",C_Broken),("Folded",C_Folded),("NoBook",C_NoBook),("NoDeed",C_NoDeed),("NoLine",C_NoLine),("NoName",C_NoName),("NoPaper",C_NoPaper),("NoRule",C_NoRule),("NoText",C_NoText),("NotPlain",C_NotPlain),("OutOfRange",C_OutOfRange),("ShortShare",C_ShortShare)] C_BookError=true)
    (ni_NoBook:xNoI K C_NoBook=true)
    (ni_Folded:xNoI K C_Folded=true)
    (ni_OutOfRange:xNoI K C_OutOfRange=true)
    (a0:W.nsIn K mainGlobals "_law_mix"=some (some (.ref f0)))
    (l0:K.lookup f0=some ⟨oc0,od0,.func (W.fnOf "_law_mix" "_law_mix" (jat jer) (jak jer) (jae jer) .none kV0 dc0 pm0 an0 cd0 ct0),sl0⟩)
    (c0:W.codeIn K cd0 "_law_mix"=true)
    (k0:W.keepIn K (.ref f0)=true)
    (a1:W.nsIn K mainGlobals "_law_at"=some (some (.ref f1)))
    (l1:K.lookup f1=some ⟨oc1,od1,.func (W.fnOf "_law_at" "_law_at" (jat jfz) (jak jfz) (jae jfz) .none kV1 dc1 pm1 an1 cd1 ct1),sl1⟩)
    (c1:W.codeIn K cd1 "_law_at"=true)
    (k1:W.keepIn K (.ref f1)=true)
    (a2:W.nsIn K mainGlobals "_law_draw"=some (some (.ref f2)))
    (l2:K.lookup f2=some ⟨oc2,od2,.func (W.fnOf "_law_draw" "_law_draw" (jat jdx) (jak jdx) (jae jdx) .none kV2 dc2 pm2 an2 cd2 ct2),sl2⟩)
    (c2:W.codeIn K cd2 "_law_draw"=true)
    (k2:W.keepIn K (.ref f2)=true)
    (a3:W.nsIn K mainGlobals "_law_named"=some (some (.ref f3)))
    (l3:K.lookup f3=some ⟨oc3,od3,.func (W.fnOf "_law_named" "_law_named" (jat jde) (jak jde) (jae jde) .none kV3 dc3 pm3 an3 cd3 ct3),sl3⟩)
    (c3:W.codeIn K cd3 "_law_named"=true)
    (k3:W.keepIn K (.ref f3)=true)
    (a4:W.nsIn K mainGlobals "_law_wide"=some (some (.ref f4)))
    (l4:K.lookup f4=some ⟨oc4,od4,.func (W.fnOf "_law_wide" "_law_wide" (jat jdy) (jak jdy) (jae jdy) .none kV4 dc4 pm4 an4 cd4 ct4),sl4⟩)
    (c4:W.codeIn K cd4 "_law_wide"=true)
    (k4:W.keepIn K (.ref f4)=true)
    (a5:W.nsIn K mainGlobals "_law_items"=some (some (.ref f5)))
    (l5:K.lookup f5=some ⟨oc5,od5,.func (W.fnOf "_law_items" "_law_items" (jat jcu) (jak jcu) (jae jcu) .none kV5 dc5 pm5 an5 cd5 ct5),sl5⟩)
    (c5:W.codeIn K cd5 "_law_items"=true)
    (k5:W.keepIn K (.ref f5)=true)
    (a6:W.nsIn K mainGlobals "_law_rules"=some (some (.ref f6)))
    (l6:K.lookup f6=some ⟨oc6,od6,.func (W.fnOf "_law_rules" "_law_rules" (jat jcv) (jak jcv) (jae jcv) .none kV6 dc6 pm6 an6 cd6 ct6),sl6⟩)
    (c6:W.codeIn K cd6 "_law_rules"=true)
    (k6:W.keepIn K (.ref f6)=true)
    (a7:W.nsIn K mainGlobals "_law_deeds"=some (some (.ref f7)))
    (l7:K.lookup f7=some ⟨oc7,od7,.func (W.fnOf "_law_deeds" "_law_deeds" (jat jdd) (jak jdd) (jae jdd) .none kV7 dc7 pm7 an7 cd7 ct7),sl7⟩)
    (c7:W.codeIn K cd7 "_law_deeds"=true)
    (k7:W.keepIn K (.ref f7)=true)
    (a8:W.nsIn K mainGlobals "_law_book"=some (some (.ref f8)))
    (l8:K.lookup f8=some ⟨oc8,od8,.func (W.fnOf "_law_book" "_law_book" (jat jdw) (jak jdw) (jae jdw) .none kV8 dc8 pm8 an8 cd8 ct8),sl8⟩)
    (c8:W.codeIn K cd8 "_law_book"=true)
    (k8:W.keepIn K (.ref f8)=true)
    (a9:W.nsIn K mainGlobals "_law_broken"=some (some (.ref f9)))
    (l9:K.lookup f9=some ⟨oc9,od9,.func (W.fnOf "_law_broken" "_law_broken" (jat jc0) (jak jc0) (jae jc0) .none kV9 dc9 pm9 an9 cd9 ct9),sl9⟩)
    (c9:W.codeIn K cd9 "_law_broken"=true)
    (k9:W.keepIn K (.ref f9)=true)
    (a10:W.nsIn K mainGlobals "_law_counts"=some (some (.ref f10)))
    (l10:K.lookup f10=some ⟨oc10,od10,.func (W.fnOf "_law_counts" "_law_counts" (jat jcd) (jak jcd) (jae jcd) .none kV10 dc10 pm10 an10 cd10 ct10),sl10⟩)
    (c10:W.codeIn K cd10 "_law_counts"=true)
    (k10:W.keepIn K (.ref f10)=true)
    (a11:W.nsIn K mainGlobals "_law_other_name"=some (some (.ref f11)))
    (l11:K.lookup f11=some ⟨oc11,od11,.func (W.fnOf "_law_other_name" "_law_other_name" (jat jbb) (jak jbb) (jae jbb) .none kV11 dc11 pm11 an11 cd11 ct11),sl11⟩)
    (c11:W.codeIn K cd11 "_law_other_name"=true)
    (k11:W.keepIn K (.ref f11)=true)
    (a12:W.nsIn K mainGlobals "_law_renamed"=some (some (.ref f12)))
    (l12:K.lookup f12=some ⟨oc12,od12,.func (W.fnOf "_law_renamed" "_law_renamed" (jat jbz) (jak jbz) (jae jbz) .none kV12 dc12 pm12 an12 cd12 ct12),sl12⟩)
    (c12:W.codeIn K cd12 "_law_renamed"=true)
    (k12:W.keepIn K (.ref f12)=true)
    (a13:W.nsIn K mainGlobals "_law_resized"=some (some (.ref f13)))
    (l13:K.lookup f13=some ⟨oc13,od13,.func (W.fnOf "_law_resized" "_law_resized" (jat jch) (jak jch) (jae jch) .none kV13 dc13 pm13 an13 cd13 ct13),sl13⟩)
    (c13:W.codeIn K cd13 "_law_resized"=true)
    (k13:W.keepIn K (.ref f13)=true)
    (a14:W.nsIn K mainGlobals "_law_wrong"=some (some (.ref f14)))
    (l14:K.lookup f14=some ⟨oc14,od14,.func (W.fnOf "_law_wrong" "_law_wrong" (jat jdf) (jak jdf) (jae jdf) .none kV14 dc14 pm14 an14 cd14 ct14),sl14⟩)
    (c14:W.codeIn K cd14 "_law_wrong"=true)
    (k14:W.keepIn K (.ref f14)=true)
    (a15:W.findIn K (.ref C_Broken) "__init__"=some (some (.ref f15)))
    (b15:W.isFn K (.ref f15)=true)
    (l15:K.lookup f15=some ⟨oc15,od15,.func (W.fnOf "__init__" "Broken.__init__" (jat jbs) (jak jbs) (jae jbs) .none kV15 dc15 pm15 an15 cd15 ct15),sl15⟩)
    (c15:W.codeIn K cd15 "Broken.__init__"=true)
    (k15:W.keepIn K (.ref f15)=true)
    (a16:W.nsIn K mainGlobals "value_of"=some (some (.ref f16)))
    (l16:K.lookup f16=some ⟨oc16,od16,.func (W.fnOf "value_of" "value_of" (jat jdh) (jak jdh) (jae jdh) .none kV16 dc16 pm16 an16 cd16 ct16),sl16⟩)
    (c16:W.codeIn K cd16 "value_of"=true)
    (k16:W.keepIn K (.ref f16)=true)
    (a17:W.nsIn K mainGlobals "spare"=some (some (.ref f17)))
    (l17:K.lookup f17=some ⟨oc17,od17,.func (W.fnOf "spare" "spare" (jat jhc) (jak jhc) (jae jhc) .none kV17 dc17 pm17 an17 cd17 ct17),sl17⟩)
    (c17:W.codeIn K cd17 "spare"=true)
    (k17:W.keepIn K (.ref f17)=true)
    (a18:W.nsIn K mainGlobals "refuse_broken"=some (some (.ref f18)))
    (l18:K.lookup f18=some ⟨oc18,od18,.func (W.fnOf "refuse_broken" "refuse_broken" (jat jba) (jak jba) (jae jba) .none kV18 dc18 pm18 an18 cd18 ct18),sl18⟩)
    (c18:W.codeIn K cd18 "refuse_broken"=true)
    (k18:W.keepIn K (.ref f18)=true)
    (a19:W.nsIn K mainGlobals "names_of"=some (some (.ref f19)))
    (l19:K.lookup f19=some ⟨oc19,od19,.func (W.fnOf "names_of" "names_of" (jat jdg) (jak jdg) (jae jdg) .none kV19 dc19 pm19 an19 cd19 ct19),sl19⟩)
    (c19:W.codeIn K cd19 "names_of"=true)
    (k19:W.keepIn K (.ref f19)=true)
    (a20:W.nsIn K mainGlobals "is_letter"=some (some (.ref f20)))
    (l20:K.lookup f20=some ⟨oc20,od20,.func (W.fnOf "is_letter" "is_letter" (jat jdc) (jak jdc) (jae jdc) .none kV20 dc20 pm20 an20 cd20 ct20),sl20⟩)
    (c20:W.codeIn K cd20 "is_letter"=true)
    (k20:W.keepIn K (.ref f20)=true)
    (a21:W.nsIn K mainGlobals "is_name"=some (some (.ref f21)))
    (l21:K.lookup f21=some ⟨oc21,od21,.func (W.fnOf "is_name" "is_name" (jat jd7) (jak jd7) (jae jd7) .none kV21 dc21 pm21 an21 cd21 ct21),sl21⟩)
    (c21:W.codeIn K cd21 "is_name"=true)
    (k21:W.keepIn K (.ref f21)=true)
    (a22:W.nsIn K mainGlobals "are_named"=some (some (.ref f22)))
    (l22:K.lookup f22=some ⟨oc22,od22,.func (W.fnOf "are_named" "are_named" (jat jcs) (jak jcs) (jae jcs) .none kV22 dc22 pm22 an22 cd22 ct22),sl22⟩)
    (c22:W.codeIn K cd22 "are_named"=true)
    (k22:W.keepIn K (.ref f22)=true)
    (a23:W.nsIn K mainGlobals "are_rules"=some (some (.ref f23)))
    (l23:K.lookup f23=some ⟨oc23,od23,.func (W.fnOf "are_rules" "are_rules" (jat jct) (jak jct) (jae jct) .none kV23 dc23 pm23 an23 cd23 ct23),sl23⟩)
    (c23:W.codeIn K cd23 "are_rules"=true)
    (k23:W.keepIn K (.ref f23)=true)
    (a24:W.nsIn K mainGlobals "are_deeds"=some (some (.ref f24)))
    (l24:K.lookup f24=some ⟨oc24,od24,.func (W.fnOf "are_deeds" "are_deeds" (jat jcr) (jak jcr) (jae jcr) .none kV24 dc24 pm24 an24 cd24 ct24),sl24⟩)
    (c24:W.codeIn K cd24 "are_deeds"=true)
    (k24:W.keepIn K (.ref f24)=true)
    (a25:W.nsIn K mainGlobals "is_book"=some (some (.ref f25)))
    (l25:K.lookup f25=some ⟨oc25,od25,.func (W.fnOf "is_book" "is_book" (jat jeq) (jak jeq) (jae jeq) .none kV25 dc25 pm25 an25 cd25 ct25),sl25⟩)
    (c25:W.codeIn K cd25 "is_book"=true)
    (k25:W.keepIn K (.ref f25)=true)
    (a26:W.nsIn K mainGlobals "starts_of"=some (some (.ref f26)))
    (l26:K.lookup f26=some ⟨oc26,od26,.func (W.fnOf "starts_of" "starts_of" (jat jcw) (jak jcw) (jae jcw) .none kV26 dc26 pm26 an26 cd26 ct26),sl26⟩)
    (c26:W.codeIn K cd26 "starts_of"=true)
    (k26:W.keepIn K (.ref f26)=true)
    (a27:W.nsIn K mainGlobals "check_book"=some (some (.ref f27)))
    (l27:K.lookup f27=some ⟨oc27,od27,.func (W.fnOf "check_book" "check_book" (jat jbt) (jak jbt) (jae jbt) .none kV27 dc27 pm27 an27 cd27 ct27),sl27⟩)
    (c27:W.codeIn K cd27 "check_book"=true)
    (k27:W.keepIn K (.ref f27)=true)
    (a28:W.nsIn K mainGlobals "_law_refused"=some (some (.ref f28)))
    (l28:K.lookup f28=some ⟨oc28,od28,.func (W.fnOf "_law_refused" "_law_refused" (jat jcg) (jak jcg) (jae jcg) .none kV28 dc28 pm28 an28 cd28 ct28),sl28⟩)
    (c28:W.codeIn K cd28 "_law_refused"=true)
    (k28:W.keepIn K (.ref f28)=true)
    (a29:W.nsIn K mainGlobals "law"=some (some (.ref f29)))
    (l29:K.lookup f29=some ⟨oc29,od29,.func (W.fnOf "law" "law" (jat jow) (jak jow) (jae jow) .none kV29 dc29 pm29 an29 cd29 ct29),sl29⟩)
    (c29:W.codeIn K cd29 "law"=true)
    (k29:W.keepIn K (.ref f29)=true)
    (y0:W.nsIn K mainGlobals "MOST_DEEDS"=some (some (.int 6 t0)))
    (y1:W.nsIn K mainGlobals "MOST_ITEMS"=some (some (.int 4 t1)))
    (y2:W.nsIn K mainGlobals "MOST_RULES"=some (some (.int 5 t2)))
    (y3:W.nsIn K mainGlobals "NAME_LENGTH"=some (some (.int 10 t3)))
    (z0:W.nsIn K mainGlobals "ValueError"=some none)
    (z1:W.nsIn K mainGlobals "all"=some none)
    (z2:W.nsIn K mainGlobals "enumerate"=some none)
    (z3:W.nsIn K mainGlobals "int"=some none)
    (z4:W.nsIn K mainGlobals "isinstance"=some none)
    (z5:W.nsIn K mainGlobals "len"=some none)
    (z6:W.nsIn K mainGlobals "list"=some none)
    (z7:W.nsIn K mainGlobals "range"=some none)
    (z8:W.nsIn K mainGlobals "set"=some none)
    (z9:W.nsIn K mainGlobals "sum"=some none)
    (z10:W.nsIn K mainGlobals "tuple"=some none)
    (z11:W.nsIn K mainGlobals "zip"=some none):Txt K mg:=by
  have alls:∀ p∈([("Broken",C_Broken),("Folded",C_Folded),("NoBook",C_NoBook),("NoDeed",C_NoDeed),("NoLine",C_NoLine),("NoName",C_NoName),("NoPaper",C_NoPaper),("NoRule",C_NoRule),("NoText",C_NoText),("NotPlain",C_NotPlain),("OutOfRange",C_OutOfRange),("ShortShare",C_ShortShare)]:List (Str×Addr)),mg p.1=some (.ref p.2):=(List.forall_mem_cons.mpr ⟨W.mg_of X G ca_Broken,(List.forall_mem_cons.mpr ⟨W.mg_of X G ca_Folded,(List.forall_mem_cons.mpr ⟨W.mg_of X G ca_NoBook,(List.forall_mem_cons.mpr ⟨W.mg_of X G ca_NoDeed,(List.forall_mem_cons.mpr ⟨W.mg_of X G ca_NoLine,(List.forall_mem_cons.mpr ⟨W.mg_of X G ca_NoName,(List.forall_mem_cons.mpr ⟨W.mg_of X G ca_NoPaper,(List.forall_mem_cons.mpr ⟨W.mg_of X G ca_NoRule,(List.forall_mem_cons.mpr ⟨W.mg_of X G ca_NoText,(List.forall_mem_cons.mpr ⟨W.mg_of X G ca_NotPlain,(List.forall_mem_cons.mpr ⟨W.mg_of X G ca_OutOfRange,(List.forall_mem_cons.mpr ⟨W.mg_of X G ca_ShortShare,(List.forall_mem_nil _)⟩)⟩)⟩)⟩)⟩)⟩)⟩)⟩)⟩)⟩)⟩)⟩)
  have errs:ErrT K mg xcs xfs "BookError":=jvz (es:=[("Broken",C_Broken),("Folded",C_Folded),("NoBook",C_NoBook),("NoDeed",C_NoDeed),("NoLine",C_NoLine),("NoName",C_NoName),("NoPaper",C_NoPaper),("NoRule",C_NoRule),("NoText",C_NoText),("NotPlain",C_NotPlain),("OutOfRange",C_OutOfRange),("ShortShare",C_ShortShare)]) alls (W.mg_of X G ca_BookError) tab;exact⟨errs,
   jvy (es:=[("Broken",C_Broken),("Folded",C_Folded),("NoBook",C_NoBook),("NoDeed",C_NoDeed),("NoLine",C_NoLine),("NoName",C_NoName),("NoPaper",C_NoPaper),("NoRule",C_NoRule),("NoText",C_NoText),("NotPlain",C_NotPlain),("OutOfRange",C_OutOfRange),("ShortShare",C_ShortShare)]) alls (W.mg_of X G ca_BookError) tab2,
   ⟨_,W.mg_of X G ca_NoBook,errs.cls "NoBook" (zbc.mp rfl) _ (W.mg_of X G ca_NoBook),ni_NoBook⟩,
   ⟨_,W.mg_of X G ca_Folded,errs.cls "Folded" (zbc.mp rfl) _ (W.mg_of X G ca_Folded),ni_Folded⟩,
   ⟨_,W.mg_of X G ca_OutOfRange,errs.cls "OutOfRange" (zbc.mp rfl) _ (W.mg_of X G ca_OutOfRange),ni_OutOfRange⟩,
   jaw X G (fun _ _ _ _ _ _=>jhm (fun _ _=>rfl)) a0 l0 c0 k0,
   jaw X G (fun _ _ _ _ _ _=>jhm (fun _ _=>rfl)) a1 l1 c1 k1,
   jaw X G (fun _ _ _ _ _ _=>jhm (fun _ _=>rfl)) a2 l2 c2 k2,
   jaw X G (fun _ _ _ _ _ _=>jhm (fun _ _=>rfl)) a3 l3 c3 k3,
   jaw X G (fun _ _ _ _ _ _=>jn9 (fun _ _ _=>rfl)) a4 l4 c4 k4,
   jaw X G (fun _ _ _ _ _ _=>jn9 (fun _ _ _=>rfl)) a5 l5 c5 k5,
   jaw X G (fun _ _ _ _ _ _=>jBo (fun _ _ _ _=>rfl)) a6 l6 c6 k6,
   jaw X G (fun _ _ _ _ _ _=>jn9 (fun _ _ _=>rfl)) a7 l7 c7 k7,
   jaw X G (fun _ _ _ _ _ _=>jhm (fun _ _=>rfl)) a8 l8 c8 k8,
   jaw X G (fun _ _ _ _ _ _=>jhm (fun _ _=>rfl)) a9 l9 c9 k9,
   jaw X G (fun _ _ _ _ _ _=>jiw (fun _=>rfl)) a10 l10 c10 k10,
   jaw X G (fun _ _ _ _ _ _=>jhm (fun _ _=>rfl)) a11 l11 c11 k11,
   jaw X G (fun _ _ _ _ _ _=>jhm (fun _ _=>rfl)) a12 l12 c12 k12,
   jaw X G (fun _ _ _ _ _ _=>jn9 (fun _ _ _=>rfl)) a13 l13 c13 k13,
   jaw X G (fun _ _ _ _ _ _=>jn9 (fun _ _ _=>rfl)) a14 l14 c14 k14,
   jp3 X G (fun _ _ _ _ _ _=>jhm (fun _ _=>rfl)) (W.mg_of X G ca_Broken) (errs.cls "Broken" (zbc.mp rfl) _ (W.mg_of X G ca_Broken)) a15 b15 l15 c15 k15,
   jaw X G (fun _ _ _ _ _ _=>jhm (fun _ _=>rfl)) a16 l16 c16 k16,
   jaw X G (fun _ _ _ _ _ _=>jn9 (fun _ _ _=>rfl)) a17 l17 c17 k17,
   jaw X G (fun _ _ _ _ _ _=>jhm (fun _ _=>rfl)) a18 l18 c18 k18,
   jaw X G (fun _ _ _ _ _ _=>jiw (fun _=>rfl)) a19 l19 c19 k19,
   jaw X G (fun _ _ _ _ _ _=>jiw (fun _=>rfl)) a20 l20 c20 k20,
   jaw X G (fun _ _ _ _ _ _=>jiw (fun _=>rfl)) a21 l21 c21 k21,
   jaw X G (fun _ _ _ _ _ _=>jhm (fun _ _=>rfl)) a22 l22 c22 k22,
   jaw X G (fun _ _ _ _ _ _=>jiw (fun _=>rfl)) a23 l23 c23 k23,
   jaw X G (fun _ _ _ _ _ _=>jiw (fun _=>rfl)) a24 l24 c24 k24,
   jaw X G (fun _ _ _ _ _ _=>jiw (fun _=>rfl)) a25 l25 c25 k25,
   jaw X G (fun _ _ _ _ _ _=>jiw (fun _=>rfl)) a26 l26 c26 k26,
   jaw X G (fun _ _ _ _ _ _=>jiw (fun _=>rfl)) a27 l27 c27 k27,
   jaw X G (fun _ _ _ _ _ _=>jiw (fun _=>rfl)) a28 l28 c28 k28,
   jaw X G (fun _ _ _ _ _ _ us hl=>match us,hl with|[_],_=>rfl) a29 l29 c29 k29,
   ⟨_,W.mg_of X G y0⟩,
   ⟨_,W.mg_of X G y1⟩,
   ⟨_,W.mg_of X G y2⟩,
   ⟨_,W.mg_of X G y3⟩,
   W.mg_none_of X G z0,
   W.mg_none_of X G z1,
   W.mg_none_of X G z2,
   W.mg_none_of X G z3,
   W.mg_none_of X G z4,
   W.mg_none_of X G z5,
   W.mg_none_of X G z6,
   W.mg_none_of X G z7,
   W.mg_none_of X G z8,
   W.mg_none_of X G z9,
   W.mg_none_of X G z10,
   W.mg_none_of X G z11⟩
theorem walk{l:W.OpenLaw}{q:Program}{loose:List Str}{XP:(Str->Option Value)->Heap->Prop}{YP:World->Heap->Prop}{d:DefRec}{K:Params->W.Frag}(hn:l.most=some 63)(hdf:d.params.defaults=[])
  (hY:∀ (w:World) (h:Heap),YP w h->(K w.params).In h)
  (F:∀ (w:World) (mg:Str->Option Value) (fa:Addr) (h:Heap),(K w.params).In h->h.Ns mainGlobals mg->mg d.name=some (.ref fa)->Txt (K w.params) mg/\mg "law"=some (.ref fa))
  (hm:∀ ns:List Int,ns.length<=63->∃ Ω,js6 [.lst (ns.map .int)] []=some (.ok (.bl true),Ω)) :
  W.WalkO q loose XP YP l.row.toRowW d [] (fun f vs=>PySem.call f vs) :=
 L2.walk_of (n:=63) (k:=9) (x:="_law_script") (CX:=fun _=>CX0) (sp:=fun w=>spA (K w.params) 1 js6) hn (by decide) hdf ⟨rfl,by decide,by decide⟩ hY
  (fun w mg fa h KX G hmg=>by
   obtain⟨T,hf⟩:=F w mg fa h KX G hmg;obtain⟨fd,FF,hb⟩:=jp1 T.f_law hf (fun _ _ _ _ _ _ _ _=>.of_eq rfl);exact⟨fd,hb,fun base _ _=>(fn_E FF sc_law (jr9 T)).imp fun vs H Q E z=>z mg⟩)
  (fun _ _ a ns hl _ hS=>fun mg=>let ⟨Ω,e⟩:=hm ns hl;jwa hS e) fun _ _ _ _ _ z=>z
theorem jt2{q:Program}{loose:List Str}{XP:(Str->Option Value)->Heap->Prop}{K:Params->W.Frag}{as:List Addr}{n t:Nat}{r:W.RowW}{d:DefRec}{kwd:List (Str×Expr)}{run:Value->List Value->Sem Value}
  (he:∀ P,as=(K P).map (·.1)) (h:W.WalkO q loose XP (fun w h=>(K w.params).In h) r d kwd run):W.WalkX q loose XP (W.X.obsZ as) (W.X.valZ K n t) r d kwd run:=by
 intro w s₀ s₁ mg mb G y a o pm cd doc dV kV ho hd hcd hD hmg hg args vals as' L;refine h w s₀ s₁ mg mb G ?_ a o pm cd doc dV kV ho hd hcd hD hmg hg args vals as';have e:(K w.params).In s₀.heap:=(W.X.z_facts he y).2.1;exact fun b o' q=>L.keeps b o' (e b o' q)
theorem walkZ{l:W.OpenLaw}{q:Program}{loose:List Str}{XP:(Str->Option Value)->Heap->Prop}{d:DefRec}{K:Params->W.Frag}{as:List Addr}{n t:Nat}(he:∀ P,as=(K P).map (·.1))(hn:l.most=some 63)(hdf:d.params.defaults=[])
  (F:∀ (w:World) (mg:Str->Option Value) (fa:Addr) (h:Heap),(K w.params).In h->h.Ns mainGlobals mg->mg d.name=some (.ref fa)->Txt (K w.params) mg/\mg "law"=some (.ref fa))
  (hm:∀ ns:List Int,ns.length<=63->∃ Ω,js6 [.lst (ns.map .int)] []=some (.ok (.bl true),Ω)) :
  W.WalkX q loose XP (W.X.obsZ as) (W.X.valZ K n t) l.row.toRowW d [] (fun f vs=>PySem.call f vs) :=
 jt2 he (walk (K:=K) hn hdf (fun _ _ y=>y) F hm)
noncomputable section
structure Rul where
 nm:Str
 cs:List Int
 rest:Int
structure Ded where
 nm:Str
 lo:Int
 hi:Int
 chs:List (Int×Int)
structure Bk where
 its:List (Str×Int)
 rls:List Rul
 dds:List Ded
noncomputable def itD(p:Str×Int):D:=.tup [.str p.1,.int p.2]
noncomputable def rulD(r:Rul):D:=.tup [.str r.nm,.tup (r.cs.map .int),.int r.rest]
noncomputable def chD(c:Int×Int):D:=.tup [.int c.1,.int c.2]
noncomputable def dedD(d:Ded):D:=.tup [.str d.nm,.int d.lo,.int d.hi,.tup (d.chs.map chD)]
noncomputable abbrev itsD(b:Bk):D:=.lst (b.its.map itD)
noncomputable abbrev rlsD(b:Bk):D:=.lst (b.rls.map rulD)
noncomputable abbrev ddsD(b:Bk):D:=.lst (b.dds.map dedD)
noncomputable abbrev bkD(b:Bk):D:=.tup [itsD b,rlsD b,ddsD b]
noncomputable abbrev scr(ns:List Int):D:=.lst (ns.map .int)
noncomputable def gI(m:M D):Int:=match m with
 | some (.ok (.int i))=>i
 | _=>0
theorem jv3{m:M D}{i:Int}(h:m=some (.ok (.int i))):m=some (.ok (.int (gI m))):=by rw[h];rfl
theorem v_at(ns:List Int)(k:Int)(h0:0<=k)(h1:k<=1000):∃ i,jbw [scr ns,.int k]=some (.ok (.int i)):=by
 unfold jbw;rw[jgq];unfold jj8;obtain⟨k,rfl⟩:=Int.eq_ofNat_of_zero_le h0
 by_cases h:k<ns.length
 ·refine⟨ns[k],?_⟩;have h2:((k:Int)<(ns.length:Int)):=by omega
  simp[h2,DL.atI_get (xs:=ns.map D.int) (j:=k) (v:=.int ns[k]) (by simp[h]),M.p]
 ·refine⟨19*k+8,?_⟩;have h2:¬ ((k:Int)<(ns.length:Int)):=by omega
  have a1:jck (.int 19) (.int (k:Int))=some (.int (19*k)):=jdb (a:=5) (b:=10) (by unfold Bt;decide) (by unfold Bt;omega);simp[h2,a1,M.p]
noncomputable def atF(ns:List Int)(k:Int):Int:=gI (jbw [scr ns,.int k])
theorem w_at{ns:List Int}{k:Int}(h0:0<=k)(h1:k<=1000):jbw [scr ns,.int k]=some (.ok (.int (atF ns k))):=let ⟨_,h⟩:=v_at ns k h0 h1;jv3 h
theorem jpf{k m:Nat}{n:Int}(h0:0<=n)(h1:n<(m:Int))(h2:m<=2 ^ k):Bt k n:=by
 obtain⟨j,rfl⟩:=Int.eq_ofNat_of_zero_le h0;exact zcx (Int.ofNat_lt.mp h1) h2
theorem jDc(n p:Int)(h0:0<=p)(hp:p<=1000):∃ r,jbl [.int n,.int p]=some (.ok (.int r))/\0<=r/\r<2147483587:=by
 unfold jbl;rw[jgq];unfold jic;have h1:=Int.emod_nonneg n (show (2147483629:Int)≠0 by decide);have h2:=zcw n (show (0:Int)<2147483629 by decide);have bp:Bt 10 p:=jpf (m:=1001) h0 (Int.lt_add_one_of_le hp) (by decide);have a1:jck (.int 8) (.int p)=some (.int (8*p)):=jdb (a:=4) (by unfold Bt;decide) bp;have b1:Bt 14 (8*p):=Bt.mul (a:=4) (by unfold Bt;decide) bp;have a2:jck (.int (8*p)) (.int p)=some (.int (8*p*p)):=jdb b1 bp;have b2:Bt 24 (8*p*p):=b1.mul bp;have b3:Bt 25 (8*p*p+48271):=b2.add (by unfold Bt;decide);have b4:Bt 33 (n % 2147483629+p+1):=((jpf (k:=31) (m:=2147483629) h1 h2 (by decide)).add (bp.mono (by decide))).add (by unfold Bt;decide);have a3:jck (.int (n % 2147483629+p+1)) (.int (8*p*p+48271))=some (.int ((n % 2147483629+p+1)*(8*p*p+48271))):=jdb b4 b3;generalize hx:(n % 2147483629+p+1)*(8*p*p+48271) % 2147483647=x;have x1:0<=x:=by rw[<- hx];exact Int.emod_nonneg _ (by decide)
 have x2:x<2147483647:=by rw[<- hx];exact zcw _ (by decide)
 have bx:Bt 32 x:=jpf (m:=2147483647) x1 x2 (by decide);have a4:jck (.int x) (.int x)=some (.int (x*x)):=jdb bx bx;refine⟨x*x % 2147483587,?_,Int.emod_nonneg _ (by decide),zcw _ (by decide)⟩;simp[jau (i:=n) (j:=2147483629) (by decide),a1,a2,a3,jau (i:=(n % 2147483629+p+1)*(8*p*p+48271)) (j:=2147483647) (by decide),hx,a4,jau (i:=x*x) (j:=2147483587) (by decide),List.replicate];rfl
noncomputable def mixF(n p:Int):Int:=gI (jbl [.int n,.int p])
theorem jo3{n p:Int}(h0:0<=p)(hp:p<=1000):jbl [.int n,.int p]=some (.ok (.int (mixF n p))):=let ⟨_,h,_⟩:=jDc n p h0 hp;jv3 h
noncomputable def drF(ns:List Int)(k:Int):Int:=mixF (atF ns (1+k % 62)) (100+k)
theorem jhl{ns:List Int}{k:Int}(h0:0<=k)(h1:k<=800):jbp [scr ns,.int k]=some (.ok (.int (drF ns k))):=by
 have r1:=Int.emod_nonneg k (show (62:Int)≠0 by decide);have r2:=zcw k (show (0:Int)<62 by decide);have e1:=jau (i:=k) (j:=62) (by decide);have e2:=w_at (ns:=ns) (k:=1+k % 62) (by omega) (by omega);have e3:=jo3 (n:=atF ns (1+k % 62)) (p:=100+k) (by omega) (by omega);unfold jbp;rw[jgq];unfold jg2;rw[jdm (d:=.int (drF ns k)) (by simp only[stp,e1,e2,e3];rfl)];rfl
theorem jr1(ns:List Int){k:Int}{most:Nat}(h0:0<=k)(h1:k<=800)(hm:7<=most)(hb:most<2 ^ 100):∃ v:Int,jbq [scr ns,.int k,.int (most:Int)]=some (.ok (.int v))/\v.natAbs<most:=by
 have ed:=jhl (ns:=ns) h0 h1;generalize drF ns k=m at ed;have r1:=Int.emod_nonneg k (show (62:Int)≠0 by decide);have r2:=zcw k (show (0:Int)<62 by decide);have e1:=jau (i:=k) (j:=62) (by decide);have e2:=w_at (ns:=ns) (k:=1+k % 62) (by omega) (by omega);generalize atF ns (1+k % 62)=c at e2;have e8:=jau (i:=m) (j:=8) (by decide);have a2:jck (.int 2) (.int (most:Int))=some (.int (2*(most:Int))):=jdb (a:=2) (b:=100) (by unfold Bt;decide) (by unfold Bt;rw[Int.natAbs_natCast];exact hb);have em:=jau (i:=c) (j:=2*(most:Int)-1) (by omega);have c1:=Int.emod_nonneg c (show (2*(most:Int)-1)≠0 by omega);have c2:=zcw c (show (0:Int)<2*(most:Int)-1 by omega);have f8:=jbe (i:=m) (j:=8) (by decide) (by decide);have e13:=jau (i:=m / 8) (j:=13) (by decide);have d1:=Int.emod_nonneg (m / 8) (show (13:Int)≠0 by decide);have d2:=zcw (m / 8) (show (0:Int)<13 by decide);unfold jbq;rw[jk0];unfold jg3;rw[jc6 (δ':=[some (scr ns),some (.int k),some (.int (most:Int)),some (.int m)]) (by simp only[stp,Nat.reduceSub,ed];rfl)];have t0:t2 gEq (f2 gMod (fVar 3) (fC (.int 8))) (fC (.int 0)) [some (scr ns),some (.int k),some (.int (most:Int)),some (.int m)]=some (.ok (m % 8 == 0)):=by
  simp only[stp,Nat.reduceSub,e8];rfl
 cases hc:(m % 8 == 0) with
 | true =>
  refine⟨c % (2*(most:Int)-1)-most+1,?_,by omega⟩;rw[hc] at t0;rw[w_rt (d:=.int (c % (2*(most:Int)-1)-most+1)) (by
   rw[w_if t0,if_pos rfl];exact jdm (by simp only[stp,Nat.reduceSub,e1,e2,a2,em];rfl))]
  rfl
 | false =>
  refine⟨m / 8 % 13-6,?_,by omega⟩;rw[hc] at t0;rw[jn5 t0,jdm (d:=.int (m / 8 % 13-6)) (by simp only[stp,Nat.reduceSub,f8,e13];rfl)];rfl
noncomputable def wdF(ns:List Int)(k:Int)(most:Nat):Int:=gI (jbq [scr ns,.int k,.int (most:Int)])
theorem ju5{ns:List Int}{k:Int}{most:Nat}(h0:0<=k)(h1:k<=800)(hm:7<=most)(hb:most<2 ^ 100):jbq [scr ns,.int k,.int (most:Int)]=some (.ok (.int (wdF ns k most))):=let ⟨_,h,_⟩:=jr1 ns h0 h1 hm hb;jv3 h
theorem ju4{ns:List Int}{k:Int}{most:Nat}(h0:0<=k)(h1:k<=800)(hm:7<=most)(hb:most<2 ^ 100):(wdF ns k most).natAbs<most:=by
 obtain⟨v,h,q⟩:=jr1 ns h0 h1 hm hb;unfold wdF;rw[h];exact q
noncomputable def getS:Option D->Str
 | some (.str s)=>s
 | _=>""
noncomputable def isSt:Option D->Bool
 | some (.str _)=>true
 | _=>false
theorem jmc{d:Option D}(h:isSt d=true):d=some (.str (getS d)):=by
 unfold isSt at h
 split at h
 ·rfl
 ·cases h
noncomputable def yesM:M D->Bool
 | some (.ok (.bl true))=>true
 | _=>false
theorem jr6{m:M D}(h:yesM m=true):m=some (.ok (.bl true)):=by
 unfold yesM at h
 split at h
 ·rfl
 ·cases h
noncomputable def nmE(k a b:Nat):Option D:=(gIx (.str "abcdefg") (.int k)).bind fun c=>(jck c (.int (1+(a:Int)))).bind fun x=>(gIx (.str "xyz") (.int b)).bind fun y=>gCat x y
noncomputable def nmO(k p:Nat):Option D:=(jck (.str "m") (.int p)).bind fun x=>(gIx (.str "abcdefg") (.int k)).bind fun c=>(gCat x c).bind fun y=>(jck (.str "m") (.int (9-(p:Int)))).bind fun z=>gCat y z
theorem jqw:∀ a∈List.range 9,∀ b∈List.range 3,(∀ k∈List.range 7,isSt (nmE k a b)=true/\yesM (jb2 [.str (getS (nmE k a b))])=true)/\((List.range 7).map fun k=>getS (nmE k a b)).Nodup:=by decide +kernel
theorem jqx:∀ p∈List.range 10,(∀ k∈List.range 7,isSt (nmO k p)=true/\yesM (jb2 [.str (getS (nmO k p))])=true)/\((List.range 7).map fun k=>getS (nmO k p)).Nodup:=by decide +kernel
end
noncomputable section
noncomputable def nmS(k:Nat)(m:Int):Str:=if m % 2=0 then getS (nmE k (m / 2 % 9).toNat (m / 18 % 3).toNat) else getS (nmO k (m / 2 % 10).toNat)
theorem jfv{i:Int}{n:Nat}(h0:0<=i)(h1:i<n):i.toNat∈List.range n:=zcb.mpr (by omega)
theorem md{i:Int}{j:Nat}(h:0<j):0<=i % (j:Int)/\i % (j:Int)<j:=⟨Int.emod_nonneg _ (by omega),zcw _ (by omega)⟩
theorem jut(m:Int):(∀ k,k<7->jb2 [.str (nmS k m)]=some (.ok (.bl true)))/\((List.range 7).map fun k=>nmS k m).Nodup:=by
 by_cases h:m % 2=0
 ·have a:=md (i:=m / 2) (j:=9) (by decide);have b:=md (i:=m / 18) (j:=3) (by decide);obtain⟨h1,h2⟩:=jqw _ (jfv a.1 a.2) _ (jfv b.1 b.2);have e:∀ k,nmS k m=getS (nmE k (m / 2 % 9).toNat (m / 18 % 3).toNat):=fun k=>if_pos h
  refine⟨fun k hk=>?_,?_⟩
  ·rw[e];exact jr6 (h1 k (zcb.mpr hk)).2
  ·simp only[e];exact h2
 ·have a:=md (i:=m / 2) (j:=10) (by decide);obtain⟨h1,h2⟩:=jqx _ (jfv a.1 a.2);have e:∀ k,nmS k m=getS (nmO k (m / 2 % 10).toNat):=fun k=>if_neg h
  refine⟨fun k hk=>?_,?_⟩
  ·rw[e];exact jr6 (h1 k (zcb.mpr hk)).2
  ·simp only[e];exact h2
theorem jth{n:Nat}(hn:n<=7)(m:Int):((List.range n).map fun k=>nmS k m).Nodup:=by
 have h:=(jut m).2;obtain⟨d,hd⟩:=Nat.exists_eq_add_of_le hn;rw[hd,List.range_add,List.map_append] at h;exact (List.nodup_append.mp h).1
theorem jkf{k:Nat}(hk:k<7)(m:Int):jc9 [.int (k:Nat),.int m]=some (.ok (.str (nmS k m))):=by
 have e2:=jau (i:=m) (j:=2) (by decide);have d2:=jbe (i:=m) (j:=2) (by decide) (by decide);unfold jc9;rw[jgq];unfold jgc;have t0:t2 gEq (f2 gMod (fVar 1) (fC (.int 2))) (fC (.int 0)) [some (.int (k:Nat)),some (.int m),none]=some (.ok (decide (m % 2=0))):=by
  simp only[stp,Nat.reduceSub,e2];rfl
 by_cases h:m % 2=0
 ·have d18:=jbe (i:=m) (j:=18) (by decide) (by decide);have e9:=jau (i:=m / 2) (j:=9) (by decide);have e3:=jau (i:=m / 18) (j:=3) (by decide);have a:=md (i:=m / 2) (j:=9) (by decide);have b:=md (i:=m / 18) (j:=3) (by decide);have ea:(((m / 2 % 9).toNat:Nat):Int)=m / 2 % 9:=Int.toNat_of_nonneg a.1;have eb:(((m / 18 % 3).toNat:Nat):Int)=m / 18 % 3:=Int.toNat_of_nonneg b.1;have en:nmS k m=getS (nmE k (m / 2 % 9).toNat (m / 18 % 3).toNat):=if_pos h;have hs:nmE k (m / 2 % 9).toNat (m / 18 % 3).toNat=some (.str (nmS k m)):=by
   rw[en];exact jmc ((jqw _ (jfv a.1 a.2) _ (jfv b.1 b.2)).1 k (zcb.mpr hk)).1
  unfold nmE at hs;rw[ea,eb] at hs;obtain⟨x1,f1,hs⟩:=Option.bind_eq_some_iff.mp hs;obtain⟨x2,f2',hs⟩:=Option.bind_eq_some_iff.mp hs;obtain⟨x3,f3,hs⟩:=Option.bind_eq_some_iff.mp hs;rw[decide_eq_true h] at t0;rw[w_rt (d:=.str (nmS k m)) (by
   rw[show List.replicate (3-2) (none:Option D)=[none] from rfl];rw[w_if t0,if_pos rfl];exact jdm (by simp only[stp,Nat.reduceSub,d2,d18,e9,e3,f1,f2',f3,hs];rfl))]
  rfl
 ·have e10:=jau (i:=m / 2) (j:=10) (by decide);have a:=md (i:=m / 2) (j:=10) (by decide);have ea:(((m / 2 % 10).toNat:Nat):Int)=m / 2 % 10:=Int.toNat_of_nonneg a.1;have en:nmS k m=getS (nmO k (m / 2 % 10).toNat):=if_neg h;have hs:nmO k (m / 2 % 10).toNat=some (.str (nmS k m)):=by
   rw[en];exact jmc ((jqx _ (jfv a.1 a.2)).1 k (zcb.mpr hk)).1
  unfold nmO at hs;rw[ea] at hs;obtain⟨x1,f1,hs⟩:=Option.bind_eq_some_iff.mp hs;obtain⟨x2,f2',hs⟩:=Option.bind_eq_some_iff.mp hs;obtain⟨x3,f3,hs⟩:=Option.bind_eq_some_iff.mp hs;obtain⟨x4,f4,hs⟩:=Option.bind_eq_some_iff.mp hs;rw[decide_eq_false h] at t0;rw[show List.replicate (3-2) (none:Option D)=[none] from rfl];rw[jn5 t0,jc6 (δ':=[some (.int (k:Nat)),some (.int m),some (.int (m / 2 % 10))]) (by simp only[stp,Nat.reduceSub,d2,e10];rfl)];rw[jdm (d:=.str (nmS k m)) (by simp only[stp,Nat.reduceSub,f1,f2',f3,f4,hs];rfl)];rfl
theorem jri(n:Nat):jbi 0 n=(List.range n).map fun o:Nat=>D.int (o:Int):=by
 have:=jos n (fun d=>d);rw[List.map_id'] at this;exact this
noncomputable def itsF(ns:List Int)(n most:Nat):List (Str×Int):=(List.range n).map fun k=>(nmS k (drF ns 1),wdF ns (10+(k:Int)) most)
theorem jsv(ns:List Int){n most:Nat}(hn:n<=5)(hm:7<=most)(hb:most<2 ^ 100):je1 [scr ns,.int (n:Nat),.int (most:Nat)]=some (.ok (.lst ((itsF ns n most).map itD))):=by
 have ed:=jhl (ns:=ns) (k:=1) (by decide) (by decide);have cf:=jd1 (c:=[some (scr ns),some (.int (most:Nat)),some (.int (drF ns 1))]) (fe:=jfc) (K:=fun o:Nat=>D.int (o:Int)) (F:=fun k=>itD (nmS k (drF ns 1),wdF ns (10+(k:Int)) most)) (List.range n) none (fun k hk=>by
  have hk:=zcb.mp hk;have e1:=jkf (k:=k) (by omega) (drF ns 1);have e2:=ju5 (ns:=ns) (k:=10+(k:Int)) (most:=most) (by omega) (by omega) hm hb;unfold jfc;simp only[stp,Nat.reduceSub,e1,e2];rfl)
 rw[<- jri] at cf;unfold je1;rw[jk0];unfold jgb;have ln:((List.range n).map fun k=>itD (nmS k (drF ns 1),wdF ns (10+(k:Int)) most)).length<=1000:=by rw[zav,List.length_range];omega
 rw[jc6 (δ':=[some (scr ns),some (.int (n:Nat)),some (.int (most:Nat)),some (.int (drF ns 1))]) (by simp only[stp,Nat.reduceSub,ed];rfl)];have em:(itsF ns n most).map itD=(List.range n).map fun k=>itD (nmS k (drF ns 1),wdF ns (10+(k:Int)) most):=by unfold itsF;rw[List.map_map];rfl
 rw[em,jdm (d:=.lst ((List.range n).map fun k=>itD (nmS k (drF ns 1),wdF ns (10+(k:Int)) most))) (by simp only[stp,Nat.reduceSub,Int.toNat_natCast,cf,jgu ln];rfl)];rfl
end
noncomputable section
noncomputable def dtF(cs st:List Int):Int:=((cs.zip st).map fun p=>p.1*p.2).sum
noncomputable def spF(r:Rul)(st:List Int):Int:=dtF r.cs st+r.rest
theorem rl0(r:Rul):gIx (rulD r) (.int 0)=some (.str r.nm):=by unfold rulD;rw[ix_t,at0]
theorem rl1(r:Rul):gIx (rulD r) (.int 1)=some (.tup (r.cs.map .int)):=by unfold rulD;rw[ix_t,at1]
theorem rl2(r:Rul):gIx (rulD r) (.int 2)=some (.int r.rest):=by unfold rulD;rw[ix_t,at2]
section
variable {r:Rul}{st:List Int}
theorem jBz{fe:DSt->M D}(hf:∀ a b,fe [some a,some b]=M.o (jck a b))(hc:∀ c∈r.cs,Bt 100 c)(hs:∀ s∈st,Bt 100 s):jet (je5 0 1) tYes fe ((r.cs.zip st).map fun p=>.tup [.int p.1,.int p.2]) [none,none]=some ((r.cs.zip st).map fun p=>.int (p.1*p.2)) :=
 jpp (c:=[]) (K:=fun p:Int×Int=>(D.int p.1,D.int p.2)) (r.cs.zip st) none none fun p hp=>by
  have:=jdb (hc _ (List.of_mem_zip hp).1) (hs _ (List.of_mem_zip hp).2);rw[hf,this];rfl
theorem jt0(hc:∀ c∈r.cs,Bt 100 c)(hs:∀ s∈st,Bt 100 s)(hl:r.cs.length<=5):jfx [.tup [.tup (r.cs.map .int),.int r.rest],.tup (st.map .int)]=some (.ok (.int (spF r st))):=by
 have ec:=jBz (fe:=jh5) (fun a b=>rfl) hc hs;have ln:((r.cs.zip st).map fun p=>D.int (p.1*p.2)).length<=1000:=by rw[zav,List.length_zip];omega
 unfold jfx;rw[jgq];unfold jg5;rw[jdm (d:=.int (spF r st)) (by simp only[stp,Nat.reduceSub,ix_t,at0,at1,jl1,ec,jgu ln,jxn];rfl)];rfl
theorem jtw{b:Bk}{k:Nat}(hk:b.rls[k]? = some r)(hc:∀ c∈r.cs,Bt 100 c)(hs:∀ s∈st,Bt 100 s)(hl:r.cs.length<=5):jin [bkD b,.int (k:Nat),.tup (st.map .int)]=some (.ok (.int (spF r st))):=by
 have ev:=jt0 hc hs hl;have ea:atI (b.rls.map rulD) (k:Int)=some (rulD r):=atI_get (by rw[zba,hk];rfl);unfold jin;rw[jk0];unfold jmb;rw[jdm (d:=.int (spF r st)) (by simp only[stp,Nat.reduceSub,ix_t,at1,ea,rl1,rl2,ev])];rfl
end
structure RulOk(its:List (Str×Int))(m:Int)(i:Nat)(r:Rul):Prop where
 nm:r.nm=nmS i m
 len:r.cs.length=its.length
 bt:∀ c∈r.cs,Bt 100 c
 sp:0<=spF r (its.map (·.2))
theorem jyj(cs:List Int)(its:List (Str×Int)):dtF cs (its.map (·.2))=((cs.zip its).map fun z=>z.1*z.2.2).sum:=by
 unfold dtF;rw[List.zip_map_right,List.map_map];rfl
theorem jlb(s0 s1 s2 s3 s4 s5 s6:Option D):∀ (zs:List (Int×Str×Int)) (r:Int) (x y:Option D),(∀ z∈zs,Bt 100 z.1/\Bt 100 z.2.2) ->
  ∃ x' y',forD je8 (je5 8 9) (zs.map fun z=>.tup [.int z.1,itD z.2]) [s0,s1,s2,s3,s4,s5,s6,some (.int r),x,y]=some (.ok (.nx [s0,s1,s2,s3,s4,s5,s6,some (.int (r-(zs.map fun z=>z.1*z.2.2).sum)),x',y']))
 | [],r,x,y,_=>⟨x,y,by rw[List.map_nil,List.map_nil,List.sum_nil,Int.sub_zero];rfl⟩
 | z::zs,r,x,y,h=>by
  obtain⟨h1,h2⟩:=h z zaa;obtain⟨x',y',ih⟩:=jlb s0 s1 s2 s3 s4 s5 s6 zs (r-z.1*z.2.2) (some (.int z.1)) (some (itD z.2)) fun q hq=>h q (zaw _ hq)
  have m1:=jdb h1 h2;refine⟨x',y',?_⟩;rw[List.map_cons,jsm (δ1:=[s0,s1,s2,s3,s4,s5,s6,some (.int r),some (.int z.1),some (itD z.2)]) (δ2:=[s0,s1,s2,s3,s4,s5,s6,some (.int (r-z.1*z.2.2)),some (.int z.1),some (itD z.2)]) rfl (by
   unfold je8 itD;simp only[stp,Nat.reduceSub,ix_t,at1,m1];rfl),ih,List.map_cons,List.sum_cons]
  rw[show r-z.1*z.2.2-(zs.map fun z=>z.1*z.2.2).sum=r-(z.1*z.2.2+(zs.map fun z=>z.1*z.2.2).sum) by omega]
noncomputable abbrev r10(ns:List Int)(its:List (Str×Int))(n most:Nat)(rls:List Rul)(k a b c d:Option D):DSt:=[some (scr ns),some (.lst (its.map itD)),some (.int (n:Nat)),some (.int (most:Nat)),some (.lst (rls.map rulD)),k,a,b,c,d]
theorem range_len(n:Nat):(jbi 0 n).length=n:=by unfold jbi;rw[zav,List.length_range]
theorem jit{n j:Nat}(h:j<(jbi 0 n).length):(jbi 0 n)[j]=.int (j:Nat):=by
 simp[jbi]
theorem jtr(ns:List Int){its:List (Str×Int)}{n most:Nat}(hi:its.length<=5)(hb:∀ p∈its,Bt 100 p.2)(hn:n<=6)(hm:7<=most)(hx:most<2 ^ 100):∃ rls:List Rul,je2 [scr ns,.lst (its.map itD),.int (n:Nat),.int (most:Nat)]=some (.ok (.lst (rls.map rulD)))/\rls.length=n/\∀ i r,rls[i]? = some r->RulOk its (drF ns 2) i r:=by
 have d2:=jhl (ns:=ns) (k:=2) (by decide) (by decide);obtain⟨δ',e,rls,k',a,b,c,d,rfl,hl,hr⟩:=jl9 (g:=je9) (tg:=DL.gName 5) (jbi 0 n) (fun j δ=>∃ (rls:List Rul) (k a b c d:Option D),δ=r10 ns its n most rls k a b c d/\rls.length=j/\∀ i r,rls[i]? = some r->RulOk its (drF ns 2) i r)
  (fun j hj δ ⟨rls,k,a,b,c,d,hδ,hl,hr⟩=>by
   subst hδ;rw[range_len] at hj;refine⟨r10 ns its n most rls (some (.int (j:Nat))) a b c d,by rw[jit];rfl,?_⟩
   let cs:List Int:=(List.range its.length).map fun i:Nat=>wdF ns (20+5*(j:Int)+(i:Int)) most
   have hcs:∀ x∈cs,Bt 100 x:=fun x hx'=>by
    obtain⟨i,hi',rfl⟩:=List.mem_map.mp hx';have:=zcb.mp hi';exact Nat.lt_trans (ju4 (by omega) (by omega) hm hx) hx
   have a5:jck (.int 5) (.int (j:Nat))=some (.int (5*(j:Nat))):=jdb (a:=10) (b:=10) (by unfold Bt;decide) (by unfold Bt;omega);have cf:=jd1 (c:=[some (scr ns),some (.int (most:Nat)),some (.int (j:Nat))]) (fe:=jfd) (K:=fun o:Nat=>D.int (o:Int)) (F:=fun i=>.int (wdF ns (20+5*(j:Int)+(i:Int)) most)) (List.range its.length) none (fun i hi'=>by
    have:=zcb.mp hi';have e2:=ju5 (ns:=ns) (k:=20+5*(j:Int)+(i:Int)) (most:=most) (by omega) (by omega) hm hx;unfold jfd;simp only[stp,Nat.reduceSub,a5,e2])
   rw[<- jri,show ((List.range its.length).map fun i:Nat=>D.int (wdF ns (20+5*(j:Int)+(i:Int)) most))=cs.map .int from (List.map_map ..).symm] at cf;have lc:cs.length=its.length:=by show ((List.range its.length).map _).length=_;rw[zav,List.length_range]
   have ln:(cs.map D.int).length<=1000:=by rw[zav];omega
   have d50:=jhl (ns:=ns) (k:=50+(j:Int)) (by omega) (by omega);have d60:=jhl (ns:=ns) (k:=60+(j:Int)) (by omega) (by omega);have m30:=jau (i:=drF ns (50+(j:Int))) (j:=30) (by decide);have m3:=jau (i:=drF ns (60+(j:Int))) (j:=3) (by decide);have x1:=md (i:=drF ns (50+(j:Int))) (j:=30) (by decide);have x2:=md (i:=drF ns (60+(j:Int))) (j:=3) (by decide);have b1:Bt 5 (drF ns (50+(j:Int)) % 30):=jpf (m:=30) x1.1 x1.2 (by decide);have b2:Bt 2 (drF ns (60+(j:Int)) % 3):=jpf (m:=3) x2.1 x2.2 (by decide);have mm:=jdb b1 b2;have b3:0<=drF ns (50+(j:Int)) % 30*(drF ns (60+(j:Int)) % 3):=Int.mul_nonneg x1.1 x2.1;generalize drF ns (50+(j:Int)) % 30*(drF ns (60+(j:Int)) % 3)=q at mm b3;have hz:∀ z∈cs.zip its,Bt 100 z.1/\Bt 100 z.2.2:=fun z hz=>⟨hcs _ (List.of_mem_zip hz).1,hb _ (List.of_mem_zip hz).2⟩
   obtain⟨x',y',lp⟩:=jlb (some (scr ns)) (some (.lst (its.map itD))) (some (.int (n:Nat))) (some (.int (most:Nat))) (some (.lst (rls.map rulD))) (some (.int (j:Nat))) (some (.tup (cs.map .int))) (cs.zip its) q c d hz;have nk:=jkf (k:=j) (by omega) (drF ns 2)
   let r:Rul:=⟨nmS j (drF ns 2),cs,q-((cs.zip its).map fun z=>z.1*z.2.2).sum⟩
   have la:(rls.map rulD).length<=100000:=by rw[zav];omega
   refine⟨r10 ns its n most (rls++[r]) (some (.int (j:Nat))) (some (.tup (cs.map .int))) (some (.int (q-((cs.zip its).map fun z=>z.1*z.2.2).sum))) x' y',.inl ?_,rls++[r],_,_,_,_,_,rfl,by rw[zca,hl];rfl,fun i r' hr'=>?_⟩
   ·unfold je9;rw[jc6 (δ':=r10 ns its n most rls (some (.int (j:Nat))) (some (.tup (cs.map .int))) b c d) (by simp only[stp,Nat.reduceSub,zav,Int.toNat_natCast,cf,jgu ln];rfl),
     jc6 (δ':=r10 ns its n most rls (some (.int (j:Nat))) (some (.tup (cs.map .int))) (some (.int q)) c d) (by simp only[stp,Nat.reduceSub,d50,d60,m30,m3,mm];rfl),
     jc6 (show gFor _ _ _ _=some (.ok (.nx _)) from by rw[jt1 (ds:=(cs.zip its).map fun z=>.tup [.int z.1,itD z.2]) (by simp only[stp,Nat.reduceSub,jl1];rfl)];exact lp),
     jxv (d:=rulD r) (ds:=rls.map rulD) 4 (by simp only[stp,Nat.reduceSub,d2,nk];rfl) rfl la]
    unfold r10;rw[List.map_append];rfl
   ·by_cases hlt:i<rls.length
    ·rw[List.getElem?_append_left hlt] at hr';exact hr i r' hr'
    ·rw[List.getElem?_append_right (Nat.le_of_not_lt hlt)] at hr';obtain⟨h0,e0⟩:=zbb.mp hr';have:i-rls.length=0:=by have:i-rls.length<1:=h0;omega
     have hij:i=j:=by omega
     subst hij;simp only[this] at e0;subst e0;exact⟨rfl,lc,hcs,by show 0<=dtF cs (its.map (·.2))+(q-_);rw[jyj];omega⟩) (r10 ns its n most [] none none none none none) ⟨[],none,none,none,none,none,rfl,rfl,fun i r h=>by cases h⟩
 rw[range_len] at hl;refine⟨rls,?_,hl,hr⟩;unfold je2;rw[jyu];unfold jgd;rw[jc6 (δ':=r10 ns its n most [] none none none none none) (jd9 4 rfl),
  jc6 (δ':=r10 ns its n most rls k' a b c d) (by rw[jt1 (ds:=jbi 0 n) (by simp only[stp,Nat.reduceSub,Int.toNat_natCast];rfl)];exact e),jdm (d:=.lst (rls.map rulD)) rfl]
 rfl
end
noncomputable section
structure DedOk(its:List (Str×Int))(m:Int)(i:Nat)(d:Ded):Prop where
 nm:d.nm=nmS i m
 len:d.chs.length=its.length
 lh:d.lo<=d.hi
theorem p1023:gPow (.int 10) (.int 23)=some (.int 100000000000000000000000):=by rw[jra (by decide)];rfl
theorem w23{ns:List Int}{k:Int}(h0:0<=k)(h1:k<=800):∃ v:Int,jbq [scr ns,.int k,.int 100000000000000000000000]=some (.ok (.int v))/\Bt 100 v:=by
 obtain⟨v,e,h⟩:=jr1 ns (most:=100000000000000000000000) h0 h1 (by decide) (by decide);exact⟨v,e,Nat.lt_trans h (by decide)⟩
theorem intB(b:Bool):joi [.bl b]=some (.int (if b=true then 1 else 0)):=rfl
theorem bt_b(b:Bool):Bt 1 (if b=true then 1 else 0:Int):=by cases b<;>(unfold Bt;decide)
noncomputable abbrev d11(ns:List Int)(its:List (Str×Int))(n:Nat)(dds:List Ded)(k a b c d e f:Option D)(g:Option D):DSt:=[some (scr ns),some (.lst (its.map itD)),some (.int (n:Nat)),some (.lst (dds.map dedD)),k,a,b,c,d,e,f]
theorem ne_i(a b:Int):gNe (.int a) (.int b)=some (.bl (!(a == b))):=by
 unfold gNe;rfl
theorem eq_i(a b:Int):gEq (.int a) (.int b)=some (.bl (a == b)):=by
 unfold gEq;rfl
theorem jse(ns:List Int){its:List (Str×Int)}{n:Nat}(hi:its.length<=5)(dds:List Ded){k:Nat}(hk:k<=6)(a c d e f g:Option D):∃ (chs:List (Int×Int)) (c' d' e':Option D),forD jea (DL.gName 7) (jbi 0 its.length) (d11 ns its n dds (some (.int (k:Nat))) a (some (.lst [])) c d e f g)=some (.ok (.nx (d11 ns its n dds (some (.int (k:Nat))) a (some (.lst (chs.map chD))) c' d' e' f g)))/\chs.length=its.length:=by
 have a5:jck (.int 5) (.int (k:Nat))=some (.int (5*(k:Nat))):=jdb (a:=10) (b:=10) (by unfold Bt;decide) (by unfold Bt;omega);obtain⟨δ',e0,chs,c',d',e',rfl,hl⟩:=jl9 (g:=jea) (tg:=DL.gName 7) (jbi 0 its.length) (fun j δ=>∃ (chs:List (Int×Int)) (c' d' e':Option D),δ=d11 ns its n dds (some (.int (k:Nat))) a (some (.lst (chs.map chD))) c' d' e' f g/\chs.length=j)
  (fun j hj δ ⟨chs,c,d,e,hδ,hl⟩=>by
   subst hδ;rw[range_len] at hj;have dr:=jhl (ns:=ns) (k:=80+5*(k:Nat)+(j:Nat)) (by omega) (by omega);generalize drF ns (80+5*(k:Nat)+(j:Nat))=m at dr;have m3:=jau (i:=m) (j:=3) (by decide);generalize m % 3=s at m3;obtain⟨v1,w1,b1⟩:=w23 (ns:=ns) (k:=120+5*(k:Nat)+(j:Nat)) (by omega) (by omega);obtain⟨v2,w2,b2⟩:=w23 (ns:=ns) (k:=160+5*(k:Nat)+(j:Nat)) (by omega) (by omega);have x1:=jdb b1 (bt_b (!(s == 1)));have x2:=jdb b2 (bt_b (s == 2));have la:(chs.map chD).length<=100000:=by rw[zav];omega
   refine⟨d11 ns its n dds (some (.int (k:Nat))) a (some (.lst (chs.map chD))) (some (.int (j:Nat))) d e f g,by rw[jit];rfl,d11 ns its n dds (some (.int (k:Nat))) a (some (.lst ((chs++[(v1*(if (!(s == 1))=true then 1 else 0),v2*(if (s == 2)=true then 1 else 0))]).map chD))) (some (.int (j:Nat))) (some (.int s)) (some (.int (v1*(if (!(s == 1))=true then 1 else 0)))) f g,.inl ?_,_,_,_,_,rfl,by rw[zca,hl];rfl⟩;unfold jea;rw[jc6 (δ':=d11 ns its n dds (some (.int (k:Nat))) a (some (.lst (chs.map chD))) (some (.int (j:Nat))) (some (.int s)) e f g) (by simp only[stp,a5,dr,m3];rfl),
    jc6 (δ':=d11 ns its n dds (some (.int (k:Nat))) a (some (.lst (chs.map chD))) (some (.int (j:Nat))) (some (.int s)) (some (.int (v1*(if (!(s == 1))=true then 1 else 0)))) f g) (by simp only[stp,a5,p1023,w1,ne_i,intB,x1];rfl),
    jxv (d:=chD (v1*(if (!(s == 1))=true then 1 else 0),v2*(if (s == 2)=true then 1 else 0))) (ds:=chs.map chD) 6 (by simp only[stp,a5,p1023,w2,eq_i,intB,x2];rfl) rfl la]
   unfold d11;rw[List.map_append];rfl) (d11 ns its n dds (some (.int (k:Nat))) a (some (.lst [])) c d e f g) ⟨[],c,d,e,rfl,rfl⟩
 rw[range_len] at hl;exact⟨chs,c',d',e',e0,hl⟩
theorem jsh(ns:List Int){its:List (Str×Int)}{n:Nat}(hi:its.length<=5)(hn:n<=7):∃ dds:List Ded,je0 [scr ns,.lst (its.map itD),.int (n:Nat)]=some (.ok (.lst (dds.map dedD)))/\dds.length=n/\∀ i d,dds[i]? = some d->DedOk its (drF ns 3) i d:=by
 have d3:=jhl (ns:=ns) (k:=3) (by decide) (by decide);obtain⟨δ',e0,dds,k',a,b,c,d,e,f,rfl,hl,hd⟩:=jl9 (g:=je7) (tg:=DL.gName 4) (jbi 0 n) (fun j δ=>∃ (dds:List Ded) (k a b c d e f:Option D),δ=d11 ns its n dds k a b c d e f none/\dds.length=j/\∀ i d,dds[i]? = some d->DedOk its (drF ns 3) i d)
  (fun j hj δ ⟨dds,k,a,b,c,d,e,f,hδ,hl,hd⟩=>by
   subst hδ;rw[range_len] at hj;refine⟨d11 ns its n dds (some (.int (j:Nat))) a b c d e f none,by rw[jit];rfl,?_⟩;obtain⟨lo,w1,b1⟩:=w23 (ns:=ns) (k:=70+(j:Nat)) (by omega) (by omega);obtain⟨chs,c',d',e',lp,lc⟩:=jse ns (n:=n) hi dds (k:=j) (by omega) (some (.int lo)) c d e f none;have dr:=jhl (ns:=ns) (k:=200+(j:Nat)) (by omega) (by omega);generalize drF ns (200+(j:Nat))=m at dr;have m9:=jau (i:=m) (j:=9) (by decide);have x9:=md (i:=m) (j:=9) (by decide);have nk:=jkf (k:=j) (by omega) (drF ns 3)
   let dd:Ded:=⟨nmS j (drF ns 3),lo,lo+m % 9,chs⟩
   have la:(dds.map dedD).length<=100000:=by rw[zav];omega
   refine⟨d11 ns its n (dds++[dd]) (some (.int (j:Nat))) (some (.int lo)) (some (.lst (chs.map chD))) c' d' e' (some (.int (lo+m % 9))) none,.inl ?_,dds++[dd],_,_,_,_,_,_,_,rfl,by rw[zca,hl];rfl,fun i r' hr'=>?_⟩
   ·unfold je7;rw[jc6 (δ':=d11 ns its n dds (some (.int (j:Nat))) (some (.int lo)) b c d e f none) (by simp only[stp,p1023,w1];rfl),
     jc6 (δ':=d11 ns its n dds (some (.int (j:Nat))) (some (.int lo)) (some (.lst [])) c d e f none) (jd9 6 rfl),
     jc6 (show gFor _ _ _ _=some (.ok (.nx _)) from by rw[jt1 (ds:=jbi 0 its.length) (by simp only[stp,zav,Int.toNat_natCast];rfl)];exact lp),
     jc6 (δ':=d11 ns its n dds (some (.int (j:Nat))) (some (.int lo)) (some (.lst (chs.map chD))) c' d' e' (some (.int (lo+m % 9))) none) (by simp only[stp,dr,m9];rfl),
     jxv (d:=dedD dd) (ds:=dds.map dedD) 3 (by simp only[stp,d3,nk];rfl) rfl la]
    unfold d11;rw[List.map_append];rfl
   ·by_cases hlt:i<dds.length
    ·rw[List.getElem?_append_left hlt] at hr';exact hd i r' hr'
    ·rw[List.getElem?_append_right (Nat.le_of_not_lt hlt)] at hr';obtain⟨h0,e0⟩:=zbb.mp hr';have:i-dds.length=0:=by have:i-dds.length<1:=h0;omega
     have hij:i=j:=by omega
     subst hij;simp only[this] at e0;subst e0;exact⟨rfl,lc,Int.le_add_of_nonneg_right x9.1⟩) (d11 ns its n [] none none none none none none none none) ⟨[],none,none,none,none,none,none,none,rfl,rfl,fun i r h=>by cases h⟩
 rw[range_len] at hl;refine⟨dds,?_,hl,hd⟩;unfold je0;rw[jk0];unfold jga;rw[jc6 (δ':=d11 ns its n [] none none none none none none none none) (jd9 3 rfl),
  jc6 (δ':=d11 ns its n dds k' a b c d e f none) (by rw[jt1 (ds:=jbi 0 n) (by simp only[stp,Nat.reduceSub,Int.toNat_natCast];rfl)];exact e0),jdm (d:=.lst (dds.map dedD)) rfl]
 rfl
structure BkOk(x y z:Nat)(b:Bk):Prop where
 i4:b.its.length=x
 r5:b.rls.length=y
 d6:b.dds.length=z
 st:∀ p∈b.its,Bt 100 p.2
 im:∃ m,∀ i p,b.its[i]? = some p->p.1=nmS i m
 rl:∃ m,∀ i r,b.rls[i]? = some r->RulOk b.its m i r
 dd:∃ m,∀ i d,b.dds[i]? = some d->DedOk b.its m i d
theorem jpq(ns:List Int):∃ a b c:Nat,jeg [scr ns]=some (.ok (.lst [.int (a:Nat),.int (b:Nat),.int (c:Nat)]))/\(1<=a/\a<=4)/\(1<=b/\b<=5)/\(1<=c/\c<=6):=by
 have c0:=w_at (ns:=ns) (k:=0) (by decide) (by decide);have mx:=jo3 (n:=atF ns 0) (p:=1) (by decide) (by decide);generalize mixF (atF ns 0) 1=m at mx;have e1:=jau (i:=m) (j:=4) (by decide);have f1:=jbe (i:=m) (j:=4) (by decide) (by decide);have e2:=jau (i:=m / 4) (j:=5) (by decide);have f2':=jbe (i:=m) (j:=20) (by decide) (by decide);have e3:=jau (i:=m / 20) (j:=6) (by decide);have x1:=md (i:=m) (j:=4) (by decide);have x2:=md (i:=m / 4) (j:=5) (by decide);have x3:=md (i:=m / 20) (j:=6) (by decide);obtain⟨a,ha⟩:=Int.eq_ofNat_of_zero_le x1.1;obtain⟨b,hb⟩:=Int.eq_ofNat_of_zero_le x2.1;obtain⟨c,hc⟩:=Int.eq_ofNat_of_zero_le x3.1;have ha':m % 4=(a:Int):=ha;have hb':m / 4 % 5=(b:Int):=hb;have hc':m / 20 % 6=(c:Int):=hc;refine⟨1+a,1+b,1+c,?_,by omega,by omega,by omega⟩;unfold jeg;rw[jhg];unfold jfh;rw[jc6 (δ':=[some (scr ns),some (.int m)]) (by simp only[stp,Nat.reduceSub,c0,mx];rfl)];rw[jdm (d:=.lst [.int (1+m % 4),.int (1+m / 4 % 5),.int (1+m / 20 % 6)]) (by simp only[stp,Nat.reduceSub,e1,f1,e2,f2',e3];rfl)];rw[ha',hb',hc',Int.natCast_add,Int.natCast_add,Int.natCast_add];rfl
theorem jy8{ns:List Int}{n most:Nat}{i:Nat}{p:Str×Int}(h:(itsF ns n most)[i]? = some p):p.1=nmS i (drF ns 1):=by
 unfold itsF at h;rw[zba] at h;obtain⟨j,hj,rfl⟩:=Option.map_eq_some_iff.mp h;obtain⟨hl,e⟩:=zbb.mp hj;rw[List.getElem_range] at e;subst e;rfl
theorem jjy(ns:List Int){a b c:Nat}(ha:a<=5)(hb:b<=6)(hc:c<=7):∃ bk:Bk,jcz [scr ns,.lst [.int (a:Nat),.int (b:Nat),.int (c:Nat)]]=some (.ok (bkD bk))/\BkOk a b c bk:=by
 have c0:=w_at (ns:=ns) (k:=0) (by decide) (by decide);have mx:=jo3 (n:=atF ns 0) (p:=2) (by decide) (by decide);generalize mixF (atF ns 0) 2=m at mx;have e2:=jau (i:=m) (j:=2) (by decide);have x2:=md (i:=m) (j:=2) (by decide);have go:∀ (q:Nat) (mi mr:Nat),m % 2=(q:Int)->atI [D.int 7,D.int 100000000000000000000000] (q:Int)=some (.int (mi:Nat))->atI [D.int 100000000000000000000000,D.int 7] (q:Int)=some (.int (mr:Nat))->7<=mi->mi<2 ^ 100->7<=mr->mr<2 ^ 100 ->
   ∃ bk:Bk,jcz [scr ns,.lst [.int (a:Nat),.int (b:Nat),.int (c:Nat)]]=some (.ok (bkD bk))/\BkOk a b c bk:=by
  intro q mi mr hq h1 h2 m1 m2 m3 m4;have li:(itsF ns a mi).length=a:=by unfold itsF;rw[zav,List.length_range]
  have bi:∀ p∈itsF ns a mi,Bt 100 p.2:=fun p hp=>by
   unfold itsF at hp;obtain⟨i,hi,rfl⟩:=List.mem_map.mp hp;have:=zcb.mp hi;exact Nat.lt_trans (ju4 (by omega) (by omega) m1 m2) m2
  have ei:=jsv ns (n:=a) (most:=mi) ha m1 m2;obtain⟨rls,er,lr,hr⟩:=jtr ns (its:=itsF ns a mi) (n:=b) (most:=mr) (by rw[li];exact ha) bi hb m3 m4;obtain⟨dds,ed,ld,hd⟩:=jsh ns (its:=itsF ns a mi) (n:=c) (by rw[li];exact ha) hc;have l1:jb0 [.int 7,.int 100000000000000000000000]=some (.lst [.int 7,.int 100000000000000000000000]):=rfl;have l2:jb0 [.int 100000000000000000000000,.int 7]=some (.lst [.int 100000000000000000000000,.int 7]):=rfl;refine⟨⟨itsF ns a mi,rls,dds⟩,?_,⟨li,lr,ld,bi,⟨_,fun i p h=>jy8 h⟩,⟨_,hr⟩,⟨_,hd⟩⟩⟩;unfold jcz;rw[jgq];unfold jg1;rw[jc6 (δ':=[some (scr ns),some (.lst [.int (a:Nat),.int (b:Nat),.int (c:Nat)]),some (.int (q:Int)),none]) (by simp only[stp,Nat.reduceSub,c0,mx,e2,hq];rfl)];rw[jc6 (δ':=[some (scr ns),some (.lst [.int (a:Nat),.int (b:Nat),.int (c:Nat)]),some (.int (q:Int)),some (.lst ((itsF ns a mi).map itD))]) (by simp only[stp,Nat.reduceSub,p1023,l1,ix_l,at0,h1,ei];rfl)];rw[jdm (d:=bkD ⟨itsF ns a mi,rls,dds⟩) (by simp only[stp,Nat.reduceSub,p1023,l2,ix_l,at1,at2,h2,er,ed];rfl)];rfl
 have hq:m % 2=0\/m % 2=1:=by have a1:m % 2<2:=x2.2;have a2:0<=m % 2:=x2.1;omega
 rcases hq with hq|hq
 ·exact go 0 7 100000000000000000000000 hq rfl rfl (by decide) (by decide) (by decide) (by decide)
 ·exact go 1 100000000000000000000000 7 hq rfl rfl (by decide) (by decide) (by decide) (by decide)
end
end MyLaw
namespace L2
open PySem PySem.Spec
theorem jqp{κ:Type}[DecidableEq κ](f:Nat->κ)(i:Nat):∀ d,(met f (i+d)).length<=(met f i).length+d:=by
 intro d
 induction d with
 | zero=>exact zac _
 | succ d ih =>
  show (if f (i+d)∈met f (i+d) then met f (i+d) else met f (i+d)++[f (i+d)]).length<=_
  split
  ·omega
  ·rw[zca];show _+1<=_;omega
theorem jwk{κ:Type}[DecidableEq κ](f:Nat->κ)(i:Nat):∀ d,f i∈met f (i+1+d):=by
 intro d
 induction d with
 | zero =>
  show f i∈(if f i∈met f i then met f i else met f i++[f i])
  split
  ·assumption
  ·exact zcy _ zaa
 | succ d ih =>
  show f i∈(if f (i+1+d)∈met f (i+1+d) then met f (i+1+d) else met f (i+1+d)++[f (i+1+d)])
  split
  ·exact ih
  ·exact List.mem_append_left _ ih
theorem jvq{ks:List Key}{i j:Nat}(hij:i<j)(hj:j<ks.length)(e:ks[i]? = ks[j]?):cntK ks<ks.length:=by
 obtain⟨d,rfl⟩:=Nat.exists_eq_add_of_le (show i+1<=j from hij);obtain⟨c,hc⟩:=Nat.exists_eq_add_of_le (show i+1+d+1<=ks.length from hj);have h1:=jwk (jfi ks) i d;have e1:jfi ks i=jfi ks (i+1+d):=by unfold jfi;rw[e]
 rw[e1] at h1;have h2:met (jfi ks) (i+1+d+1)=met (jfi ks) (i+1+d):=if_pos h1;have h3:=jqp (jfi ks) (i+1+d+1) c;have h4:=jqp (jfi ks) 0 (i+1+d);rw[h2] at h3;unfold cntK;rw[hc];rw[Nat.zero_add] at h4;have h5:(met (jfi ks) 0).length=0:=rfl;omega
end L2
namespace MyLaw
open PySem PySem.Spec L2 DL
noncomputable section
theorem js0{xs:List Str}{i j:Nat}(hij:i<j)(hj:j<xs.length)(e:xs[i]? = xs[j]?)(hn:xs.length<4000):∃ k:Nat,jma (.lst (xs.map .str))=some (.int k)/\k<xs.length:=by
 refine⟨cntK (xs.map .inr),?_,?_⟩
 ·show ((jif (xs.map .str)).bind fun ks=>if ks.length<4000 then some (D.int (cntK ks)) else none)=_;rw[jk9];show (if (xs.map (Sum.inr:Str->Key)).length<4000 then _ else none)=_;rw[zav,if_pos hn]
 ·have:=jvq (ks:=xs.map .inr) hij (by rw[zav];exact hj) (by rw[zba,zba,e]);rw[zav] at this;exact this
theorem jjs{fa fb:DSt->M D}{δ:DSt}{x y:Bool}(h:fa δ=some (.ok (.bl x)))(g:fb δ=some (.ok (.bl y))):fAnd fa fb δ=some (.ok (.bl (x&&y))):=by
 unfold fAnd;rw[h,M.b_ok];cases x
 ·rfl
 ·exact g
theorem jpa{fa fb:DSt->M D}{δ:DSt}(h:fa δ=some (.ok (.bl false))):fAnd fa fb δ=some (.ok (.bl false)):=by
 unfold fAnd;rw[h,M.b_ok];rfl
theorem le_b(x y:Int):gLe (.int x) (.int y)=some (.bl (decide (x<=y))):=rfl
theorem jvk{fa fb fc:DSt->M D}{δ:DSt}{a b c:Int}(h1:fa δ=some (.ok (.int a)))(h2:fb δ=some (.ok (.int b)))(h3:fc δ=some (.ok (.int c))):jhh gLe gLe fa fb fc δ=some (.ok (.bl (decide (a<=b)&&decide (b<=c)))):=by
 unfold jhh;rw[h1,M.b_ok,h2,M.b_ok,le_b];cases decide (a<=b)
 ·rfl
 ·dsimp only;rw[h3,M.b_ok,le_b];rfl
structure NmT(n:Nat)(nms:List Str):Prop where
 l1:1<=nms.length
 ln:nms.length<=n
 ok:∀ s∈nms,jb2 [.str s]=some (.ok (.bl true))
 nd:nms.Nodup
inductive NmF(n:Nat)(nms:List Str):Prop
 | size (h:nms.length<1\/n<nms.length)
 | bad (l1:1<=nms.length) (ln:nms.length<=n) (v:Str->Bool) (h:∀ s∈nms,jb2 [.str s]=some (.ok (.bl (v s)))) (s:Str) (hs:s∈nms) (hv:v s=false)
 | dup (l1:1<=nms.length) (ln:nms.length<=n) (ok:∀ s∈nms,jb2 [.str s]=some (.ok (.bl true))) (i j:Nat) (hij:i<j) (hj:j<nms.length) (e:nms[i]? = nms[j]?)
section
variable {α:Type}{f:α->Str}{K:α->D}{xs:List α}{n:Nat}
theorem jte(hK:∀ x,gIx (K x) (.int 0)=some (.str (f x)))(hl:xs.length<=100):jfw [.lst (xs.map K)]=some (.ok (.lst ((xs.map f).map .str))):=by
 have ec:=jd1 (c:=[]) (fe:=jh4) (K:=K) (F:=fun x=>.str (f x)) xs none fun x _=>by
  show M.o (gIx (K x) (.int 0))=_;rw[hK];rfl
 have em:(xs.map fun x=>D.str (f x))=(xs.map f).map .str:=by rw[List.map_map];rfl
 rw[em] at ec;have ln:((xs.map f).map D.str).length<=1000:=by rw[zav,zav];omega
 unfold jfw;rw[jhg];unfold jg4;rw[jdm (d:=.lst ((xs.map f).map .str)) (by simp only[stp,ec,jgu ln];rfl)];rfl
noncomputable abbrev an3(xs:List α)(K:α->D)(f:α->Str)(n:Nat):DSt:=[some (.lst (xs.map K)),some (.int (n:Nat)),some (.lst ((xs.map f).map .str))]
theorem jnp(hK:∀ x,gIx (K x) (.int 0)=some (.str (f x)))(hl:xs.length<=100){r:Bool}(h:fAnd (jhh gLe gLe (fC (.int 1)) (fL kLen (jac (fVar 2) fNil)) (fVar 1)) (fAnd (fL kAll (jac (jf1 1 [] (jj9 (fVar 2)) (DL.gName 0) tYes jdk) fNil)) (f2 gEq (f1 jma (fVar 2)) (fL kLen (jac (fVar 2) fNil)))) (an3 xs K f n)=some (.ok (.bl r))) :
  jbo [.lst (xs.map K),.int (n:Nat)]=some (.ok (.bl r)):=by
 have nl:=jte hK hl;unfold jbo;rw[jgq];unfold jf9;rw[jc6 (δ':=an3 xs K f n) (by rw[jd9 2 (d:=.lst ((xs.map f).map .str)) (by simp only[stp,nl])];rfl)];rw[jdm (d:=.bl r) h];rfl
theorem jjr:jhh gLe gLe (fC (.int 1)) (fL kLen (jac (fVar 2) fNil)) (fVar 1) (an3 xs K f n)=some (.ok (.bl (decide ((1:Int)<=(xs.length:Nat))&&decide (((xs.length:Nat):Int)<=(n:Nat))))) :=
 jvk rfl (by simp only[stp,zav];rfl) rfl
theorem jo9(hl:xs.length<=100){v:Str->Bool}(h:∀ s∈xs.map f,jb2 [.str s]=some (.ok (.bl (v s)))):fL kAll (jac (jf1 1 [] (jj9 (fVar 2)) (DL.gName 0) tYes jdk) fNil) (an3 xs K f n)=some (.ok (.bl ((xs.map f).all v))):=by
 have a1:=jd1 (c:=[]) (fe:=jdk) (K:=D.str) (F:=fun s=>.bl (v s)) (xs.map f) none (fun s hs=>by
  have q:=h s hs;unfold jdk;simp only[stp,q])
 have a2:=jo7 (xs.map f) v;simp only[stp,a1,jgu (show ((xs.map f).map fun s=>D.bl (v s)).length<=1000 by rw[zav,zav];omega),a2];rfl
theorem jgi(hK:∀ x,gIx (K x) (.int 0)=some (.str (f x)))(h:NmT n (xs.map f))(hn:n<=100):jbo [.lst (xs.map K),.int (n:Nat)]=some (.ok (.bl true)):=by
 have l1:=h.l1;have ln:=h.ln;rw[zav] at l1 ln;refine jnp hK (by omega) ?_;have ls:=js1 h.nd (by rw[zav];omega);have e3:f2 gEq (f1 jma (fVar 2)) (fL kLen (jac (fVar 2) fNil)) (an3 xs K f n)=some (.ok (.bl true)):=by
  simp only[stp,ls,zav,eq_i,beq_self_eq_true];rfl
 have:=jjs jjr (jjs (jo9 (K:=K) (n:=n) (by omega) (v:=fun _=>true) h.ok) e3);rw[this,decide_eq_true (show (1:Int)<=(xs.length:Nat) by omega),decide_eq_true (show ((xs.length:Nat):Int)<=(n:Nat) by omega),List.all_eq_true.mpr fun _ _=>rfl];rfl
theorem jmj(hK:∀ x,gIx (K x) (.int 0)=some (.str (f x)))(h:NmF n (xs.map f))(hl:xs.length<=100):jbo [.lst (xs.map K),.int (n:Nat)]=some (.ok (.bl false)):=by
 refine jnp hK hl ?_
 cases h with
 | size h =>
  rw[zav] at h;refine jpa ?_;rw[jjr];rcases h with h|h
  ·rw[decide_eq_false (show ¬ (1:Int)<=(xs.length:Nat) by omega)];rfl
  ·rw[decide_eq_false (show ¬ ((xs.length:Nat):Int)<=(n:Nat) by omega),Bool.and_false]
 | bad l1 ln v h s hs hv =>
  rw[zav] at l1 ln;have e:(xs.map f).all v=false:=by
   rw[List.all_eq_false];exact⟨s,hs,by rw[hv];decide⟩
  have a:=jo9 (K:=K) (n:=n) hl h;rw[e] at a;have s':=jjr (xs:=xs) (K:=K) (f:=f) (n:=n);rw[decide_eq_true (show (1:Int)<=(xs.length:Nat) by omega),decide_eq_true (show ((xs.length:Nat):Int)<=(n:Nat) by omega)] at s';unfold fAnd at *;rw[s',M.b_ok];show M.b _ _=_;rw[a,M.b_ok];rfl
 | dup l1 ln ok i j hij hj e =>
  rw[zav] at l1 ln;obtain⟨k,ek,hk⟩:=js0 hij hj e (by rw[zav];omega);rw[zav] at hk;have e3:f2 gEq (f1 jma (fVar 2)) (fL kLen (jac (fVar 2) fNil)) (an3 xs K f n)=some (.ok (.bl false)):=by
   have q:((k:Int) == ((xs.length:Nat):Int))=false:=by
    rw[beq_eq_false_iff_ne];omega
   simp only[stp,ek,zav,eq_i,q];rfl
  have:=jjs jjr (jjs (jo9 (K:=K) (n:=n) hl (v:=fun _=>true) ok) e3);rw[this,Bool.and_false,Bool.and_false]
end
variable {b:Bk}
theorem dd0(d:Ded):gIx (dedD d) (.int 0)=some (.str d.nm):=rfl
theorem it0(p:Str×Int):gIx (itD p) (.int 0)=some (.str p.1):=rfl
theorem jrj(g:NmT 5 (b.rls.map (·.nm))):jbv [bkD b]=some (.ok (.bl (b.rls.all fun r=>((r.cs.length:Nat):Int) == ((b.its.length:Nat):Int)))):=by
 have n2:=jgi (K:=rulD) rl0 g (by decide);have ln:=g.ln;rw[zav] at ln;have a1:=jd1 (c:=[some (.int (b.its.length:Nat))]) (fe:=jfb) (K:=rulD) (F:=fun r=>.bl (((r.cs.length:Nat):Int) == ((b.its.length:Nat):Int))) b.rls none (fun r hr=>by
  unfold jfb;simp only[stp,rl1,zav,eq_i];rfl)
 have a3:=jo7 b.rls fun r=>((r.cs.length:Nat):Int) == ((b.its.length:Nat):Int)
 unfold jbv;rw[jhg];unfold jex;rw[jc6 (δ':=[some (bkD b),some (.int (b.its.length:Nat))]) (by rw[jd9 1 (d:=.int (b.its.length:Nat)) (by simp only[stp,ix_t,at0,zav];rfl)];rfl)];rw[jdm (jjs (x:=true) (by simp only[stp,ix_t,at1];exact n2) (by simp only[stp,ix_t,at1,a1,jgu (show (b.rls.map fun r=>D.bl (((r.cs.length:Nat):Int) == ((b.its.length:Nat):Int))).length<=1000 by rw[zav];omega),a3];rfl))];rfl
theorem jxl(g:NmF 5 (b.rls.map (·.nm)))(hl:b.rls.length<=100):jbv [bkD b]=some (.ok (.bl false)):=by
 have n2:=jmj (K:=rulD) rl0 g hl;unfold jbv;rw[jhg];unfold jex;rw[jc6 (δ':=[some (bkD b),some (.int (b.its.length:Nat))]) (by rw[jd9 1 (d:=.int (b.its.length:Nat)) (by simp only[stp,ix_t,at0,zav];rfl)];rfl)];rw[jdm (jpa (by simp only[stp,ix_t,at1];exact n2))];rfl
noncomputable def ddB(b:Bk)(d:Ded):Bool:=(((d.chs.length:Nat):Int) == ((b.its.length:Nat):Int))&&decide (d.lo<=d.hi)
theorem jps(g:NmT 6 (b.dds.map (·.nm))):jco [bkD b]=some (.ok (.bl (b.dds.all (ddB b)))):=by
 have n3:=jgi (K:=dedD) dd0 g (by decide);have ln:=g.ln;rw[zav] at ln;have a1:=jd1 (c:=[some (.int (b.its.length:Nat))]) (fe:=jfa) (K:=dedD) (F:=fun d=>.bl (ddB b d)) b.dds none (fun d hr=>by
  have e1:gIx (dedD d) (.int 1)=some (.int d.lo):=rfl;have e2:gIx (dedD d) (.int 2)=some (.int d.hi):=rfl;have e3:gIx (dedD d) (.int 3)=some (.tup (d.chs.map chD)):=rfl;unfold jfa ddB;refine jjs ?_ ?_
  ·simp only[stp,e3,zav,eq_i];rfl
  ·simp only[stp,e1,e2,le_b];rfl)
 have a3:=jo7 b.dds (ddB b);unfold jco;rw[jhg];unfold jew;rw[jc6 (δ':=[some (bkD b),some (.int (b.its.length:Nat))]) (by rw[jd9 1 (d:=.int (b.its.length:Nat)) (by simp only[stp,ix_t,at0,zav];rfl)];rfl)];rw[jdm (jjs (x:=true) (by simp only[stp,ix_t,at2];exact n3) (by simp only[stp,ix_t,at2,a1,jgu (show (b.dds.map fun d=>D.bl (ddB b d)).length<=1000 by rw[zav];omega),a3];rfl))];rfl
theorem jvt(g:NmF 6 (b.dds.map (·.nm)))(hl:b.dds.length<=100):jco [bkD b]=some (.ok (.bl false)):=by
 have n2:=jmj (K:=dedD) dd0 g hl;unfold jco;rw[jhg];unfold jew;rw[jc6 (δ':=[some (bkD b),some (.int (b.its.length:Nat))]) (by rw[jd9 1 (d:=.int (b.its.length:Nat)) (by simp only[stp,ix_t,at0,zav];rfl)];rfl)];rw[jdm (jpa (by simp only[stp,ix_t,at2];exact n2))];rfl
inductive NB(b:Bk):Prop
 | its (h:NmF 4 (b.its.map (·.1)))
 | rls (h:NmT 4 (b.its.map (·.1))) (g:NmF 5 (b.rls.map (·.nm)))
 | cs (h:NmT 4 (b.its.map (·.1))) (g:NmT 5 (b.rls.map (·.nm))) (r:Rul) (hr:r∈b.rls) (q:r.cs.length≠b.its.length)
 | dds (h:NmT 4 (b.its.map (·.1))) (g:NmT 5 (b.rls.map (·.nm))) (q:∀ r∈b.rls,r.cs.length=b.its.length) (d:NmF 6 (b.dds.map (·.nm)))
 | ch (h:NmT 4 (b.its.map (·.1))) (g:NmT 5 (b.rls.map (·.nm))) (q:∀ r∈b.rls,r.cs.length=b.its.length) (d:NmT 6 (b.dds.map (·.nm))) (e:Ded) (he:e∈b.dds) (w:e.chs.length≠b.its.length\/e.hi<e.lo)
theorem jmu(g:NmT 5 (b.rls.map (·.nm)))(q:∀ r∈b.rls,r.cs.length=b.its.length):jbv [bkD b]=some (.ok (.bl true)):=by
 rw[jrj g,List.all_eq_true.mpr fun r hr=>by rw[q r hr];exact beq_self_eq_true _]
theorem jdu{x y z:Bool}(h1:jbo [itsD b,.int 4]=some (.ok (.bl x)))(h2:x=true->jbv [bkD b]=some (.ok (.bl y)))(h3:x=true->y=true->jco [bkD b]=some (.ok (.bl z))):jcl [bkD b]=some (.ok (.bl (x&&(y&&z)))):=by
 have e1:jax jbo (jac (f2 gIx (fVar 0) (fC (.int 0))) (jac (fC (.int 4)) fNil)) [some (bkD b)]=some (.ok (.bl x)):=by
  simp only[stp,ix_t,at0];exact h1
 unfold jcl;rw[jhg];unfold jia;rw[jdm (d:=.bl (x&&(y&&z))) ?_]
 ·rfl
 ·cases x with
  | false=>exact jpa e1
  | true =>
   refine jjs e1 ?_;have e2:jax jbv (jac (fVar 0) fNil) [some (bkD b)]=some (.ok (.bl y)):=by
    simp only[stp];exact h2 rfl
   cases y with
   | false=>exact jpa e2
   | true =>
    refine jjs e2 ?_;simp only[stp];exact h3 rfl rfl
theorem jp9(h:NB b)(l1:b.its.length<=100)(l2:b.rls.length<=100)(l3:b.dds.length<=100):jcl [bkD b]=some (.ok (.bl false)):=by
 cases h with
 | its h=>exact jdu (y:=false) (z:=false) (jmj (K:=itD) it0 h l1) (fun z=>by cases z) (fun z=>by cases z)
 | rls h g=>exact jdu (z:=false) (jgi (K:=itD) it0 h (by decide)) (fun _=>jxl g l2) (fun _ z=>by cases z)
 | cs h g r hr q =>
  have e:(b.rls.all fun r=>((r.cs.length:Nat):Int) == ((b.its.length:Nat):Int))=false:=by
   rw[List.all_eq_false];refine⟨r,hr,?_⟩;rw[beq_iff_eq];omega
  exact jdu (z:=false) (jgi (K:=itD) it0 h (by decide)) (fun _=>by rw[jrj g,e]) (fun _ z=>by cases z)
 | dds h g q d=>exact jdu (jgi (K:=itD) it0 h (by decide)) (fun _=>jmu g q) (fun _ _=>jvt d l3)
 | ch h g q d e he w =>
  have e':b.dds.all (ddB b)=false:=by
   rw[List.all_eq_false];refine⟨e,he,?_⟩;unfold ddB;rw[Bool.and_eq_true,beq_iff_eq,decide_eq_true_eq];omega
  exact jdu (jgi (K:=itD) it0 h (by decide)) (fun _=>jmu g q) (fun _ _=>by rw[jps d,e'])
theorem jtd{α:Type}{f:α->Str}{xs:List α}{m:Int}(h:∀ i x,xs[i]? = some x->f x=nmS i m):xs.map f=(List.range xs.length).map fun i=>nmS i m:=by
 refine List.ext_getElem? fun i=>?_
 rw[zba,zba]
 cases hx:xs[i]? with
 | none =>
  rw[List.getElem?_eq_none (by rw[List.length_range];exact List.getElem?_eq_none_iff.mp hx)];rfl
 | some x =>
  have hi:=(zbb.mp hx).1;rw[List.getElem?_range hi];show some (f x)=some (nmS i m);rw[h i x hx]
theorem jle{α:Type}{f:α->Str}{xs:List α}{m:Int}{n:Nat}(h:∀ i x,xs[i]? = some x->f x=nmS i m)(h1:1<=xs.length)(hn:xs.length<=n)(h7:n<=7):NmT n (xs.map f):=by
 have ne:=jtd h;refine⟨by rw[zav];exact h1,by rw[zav];exact hn,fun s hs=>?_,by rw[ne];exact jth (by omega) m⟩;rw[ne] at hs;obtain⟨i,hi,rfl⟩:=List.mem_map.mp hs;have:=zcb.mp hi;exact (jut m).1 i (by omega)
structure GB(b:Bk):Prop where
 its:NmT 4 (b.its.map (·.1))
 rls:NmT 5 (b.rls.map (·.nm))
 cs:∀ r∈b.rls,r.cs.length=b.its.length
 dds:NmT 6 (b.dds.map (·.nm))
 ch:∀ d∈b.dds,d.chs.length=b.its.length/\d.lo<=d.hi
theorem jB3{x y z:Nat}(hb:BkOk x y z b)(hx:1<=x/\x<=4)(hy:1<=y/\y<=5)(hz:1<=z/\z<=6):GB b:=by
 obtain⟨m1,h1⟩:=hb.im;obtain⟨m2,h2⟩:=hb.rl;obtain⟨m3,h3⟩:=hb.dd;refine⟨jle h1 (by rw[hb.i4];exact hx.1) (by rw[hb.i4];exact hx.2) (by decide),jle (fun i r h=>(h2 i r h).nm) (by rw[hb.r5];exact hy.1) (by rw[hb.r5];exact hy.2) (by decide),fun r hr=>?_,jle (fun i r h=>(h3 i r h).nm) (by rw[hb.d6];exact hz.1) (by rw[hb.d6];exact hz.2) (by decide),fun d hd=>?_⟩
 ·obtain⟨i,hi⟩:=List.getElem?_of_mem hr;exact (h2 i r hi).len
 ·obtain⟨i,hi⟩:=List.getElem?_of_mem hd;exact⟨(h3 i d hi).len,(h3 i d hi).lh⟩
theorem jqa(h:GB b):jcl [bkD b]=some (.ok (.bl true)):=by
 have e:b.dds.all (ddB b)=true:=List.all_eq_true.mpr fun d hd=>by
  unfold ddB;rw[Bool.and_eq_true,beq_iff_eq,decide_eq_true_eq,(h.ch d hd).1];exact⟨rfl,(h.ch d hd).2⟩
 exact jdu (jgi (K:=itD) it0 h.its (by decide)) (fun _=>jmu h.rls h.cs) (fun _ _=>by rw[jps h.dds,e])
end
noncomputable section
theorem jid{a:SO}{r:Sto}(Ω:Sto):(Ω++a::r)[Ω.length]? = some a:=by
 rw[List.getElem?_append_right (zac _),Nat.sub_self];rfl
theorem jk5{g:DSt->MS Out}{tg:D->DSt->Option DSt}{d:D}{ds:List D}{δ δ1 δ2:DSt}{Ω Ω1:Sto}(h1:tg d δ=some δ1)(h2:g δ1 Ω=some (.ok (.nx δ2),Ω1)):forE g tg (d::ds) δ Ω=forE g tg ds δ2 Ω1:=by
 conv=>lhs;unfold forE
 rw[h1];dsimp only;rw[MS.b_ok h2]
theorem eseq{g1 g2:DSt->MS Out}{δ δ':DSt}{Ω Ω':Sto}(h:g1 δ Ω=some (.ok (.nx δ'),Ω')):eSeq g1 g2 δ Ω=g2 δ' Ω':=by
 unfold eSeq;rw[MS.b_ok h]
theorem jv0{g1 g2:DSt->MS Out}{δ:DSt}{Ω Ω':Sto}{d:D}(h:g1 δ Ω=some (.ok (.rt d),Ω')):eSeq g1 g2 δ Ω=some (.ok (.rt d),Ω'):=by
 unfold eSeq;rw[MS.b_ok h];rfl
theorem jsl{g1 g2:DSt->MS Out}{δ:DSt}{Ω Ω':Sto}{x:XD}(h:g1 δ Ω=some (.error x,Ω')):eSeq g1 g2 δ Ω=some (.error x,Ω'):=by
 unfold eSeq MS.b;rw[h]
theorem eif{t:DSt->MS Bool}{g1 g2:DSt->MS Out}{δ:DSt}{Ω Ω':Sto}{c:Bool}(h:t δ Ω=some (.ok c,Ω')):eIf t g1 g2 δ Ω=if c=true then g1 δ Ω' else g2 δ Ω':=by
 unfold eIf;rw[MS.b_ok h];cases c<;>rfl
theorem b_err{α β:Type}{m:MS α}{f:α->MS β}{Ω Ω1:Sto}{x:XD}(h:m Ω=some (.error x,Ω1)):m.b f Ω=some (.error x,Ω1):=by unfold MS.b;rw[h]
theorem lft{α:Type}{g:DSt->M α}{δ:DSt}{a:α}{Ω:Sto}(h:g δ=some (.ok a)):lF g δ Ω=some (.ok a,Ω):=by
 unfold lF MS.l;rw[h];rfl
theorem efor{fi:DSt->MS (List D)}{tg:D->DSt->Option DSt}{g:DSt->MS Out}{δ:DSt}{Ω Ω':Sto}{ds:List D}(h:fi δ Ω=some (.ok ds,Ω')):eFor fi tg g δ Ω=forE g tg ds δ Ω':=by
 unfold eFor;rw[MS.b_ok h]
noncomputable abbrev stD(st:List Int):D:=.tup (st.map .int)
variable {b:Bk}
noncomputable def jci(b:Bk):List Int:=b.its.map (·.2)
structure Kp(b:Bk):Prop where
 il:b.its.length<=5
 st:∀ s∈jci b,Bt 100 s
 rs:∀ r∈b.rls,(∀ c∈r.cs,Bt 100 c)/\r.cs.length<=5/\0<=spF r (jci b)
theorem jB9{x y z:Nat}(hb:BkOk x y z b)(hx:x<=5):Kp b:=by
 obtain⟨m,h⟩:=hb.rl;refine⟨by rw[hb.i4];exact hx,fun s hs=>?_,fun r hr=>?_⟩
 ·obtain⟨p,hp,rfl⟩:=List.mem_map.mp hs;exact hb.st p hp
 ·obtain⟨i,hi⟩:=List.getElem?_of_mem hr;exact⟨(h i r hi).bt,by rw[(h i r hi).len,hb.i4];exact hx,(h i r hi).sp⟩
theorem jlx(hb:Kp b):jda [bkD b]=some (.ok (stD (jci b))):=by
 have ec:jet (DL.gName 0) tYes jfe (b.its.map itD) [none]=some ((jci b).map .int):=by
  have:=jd1 (c:=[]) (fe:=jfe) (K:=itD) (F:=fun p=>.int p.2) b.its none fun p _=>rfl
  rw[this];unfold jci;rw[List.map_map];rfl
 have il:=hb.il;have ln:((jci b).map D.int).length<=1000:=by
  unfold jci;rw[zav,zav];omega
 unfold jda;rw[jhg];unfold jge;rw[jdm (d:=.tup ((jci b).map .int)) (by simp only[stp,ix_t,at0,ec,jgu ln];rfl)];rfl
theorem jx9(hb:Kp b){i:Nat}{r:Rul}(hi:b.rls[i]? = some r)(Ω:Sto) :
  jbk [some (bkD b),some (stD (jci b)),some (.int (i:Nat)),some (rulD r)] Ω=some (.ok (.nx [some (bkD b),some (stD (jci b)),some (.int (i:Nat)),some (rulD r)]),Ω):=by
 have hr:=hb.rs r (List.mem_of_getElem? hi);have ht:t2 gLt (jax jin (jac (fVar 0) (jac (fVar 2) (jac (fVar 1) fNil)))) (fC (.int 0)) [some (bkD b),some (stD (jci b)),some (.int (i:Nat)),some (rulD r)]=some (.ok (decide (spF r (jci b)<0))):=by
  simp only[stp,jtw hi hr.1 hb.st hr.2.1];rfl
 rw[decide_eq_false (by have:=hr.2.2;omega)] at ht;unfold jbk;rw[eif (lft ht),if_neg (by decide)];rfl
theorem jnz(hb:Kp b)(Ω:Sto):∀ (rs:List Rul) (i:Nat) (x y:Option D),b.rls.drop i=rs->∃ x' y',forE jbk (je5 2 3) (je4 (i:Nat) (rs.map rulD)) [some (bkD b),some (stD (jci b)),x,y] Ω=some (.ok (.nx [some (bkD b),some (stD (jci b)),x',y']),Ω)
 | [],i,x,y,_=>⟨x,y,rfl⟩
 | r::rs,i,x,y,h=>by
  have hi:b.rls[i]? = some r:=by
   have:=congrArg (·[0]?) h;simpa using this
  have hd:b.rls.drop (i+1)=rs:=by
   rw[<- List.drop_drop,h];rfl
  have b1:=jx9 hb hi Ω;have ih:=jnz hb Ω rs (i+1) (some (.int (i:Nat))) (some (rulD r)) hd;have e:forE jbk (je5 2 3) (je4 (i:Nat) ((r::rs).map rulD)) [some (bkD b),some (stD (jci b)),x,y] Ω=forE jbk (je5 2 3) (je4 ((i+1:Nat):Int) (rs.map rulD)) [some (bkD b),some (stD (jci b)),some (.int (i:Nat)),some (rulD r)] Ω:=jk5 (ds:=je4 ((i:Int)+1) (rs.map rulD)) rfl b1;rw[e];exact ih
theorem jvm(hb:Kp b)(hg:GB b)(Ω:Sto):ja4 [bkD b] Ω=some (.ok .non,Ω):=by
 obtain⟨x',y',l⟩:=jnz hb Ω b.rls 0 none none rfl;have er:jca [bkD b,stD (jci b)] Ω=some (.ok .non,Ω):=by
  unfold jca mirE;rw[if_pos (show [bkD b,stD (jci b)].length=2 from rfl)];refine (MS.b_ok (a:=.nx [some (bkD b),some (stD (jci b)),x',y']) (Ω1:=Ω) ?_).trans rfl;unfold jd2;rw[show startD 4 [bkD b,stD (jci b)]=[some (bkD b),some (stD (jci b)),none,none] from rfl,efor (ds:=je4 0 (b.rls.map rulD)) (Ω':=Ω) (by rfl)];exact l
 have t:DL.tNot (tTru (jax jcl (jac (fVar 0) fNil))) [some (bkD b)]=some (.ok false):=by
  simp only[stp,jqa hg];rfl
 have ar:jac (fVar 0) (jac (jax jda (jac (fVar 0) fNil)) fNil) [some (bkD b)]=some (.ok [bkD b,stD (jci b)]):=by
  simp only[stp,jlx hb];rfl
 have mc:jdp jca (lF (jac (fVar 0) (jac (jax jda (jac (fVar 0) fNil)) fNil))) [some (bkD b)] Ω=some (.ok .non,Ω):=by
  unfold jdp;rw[MS.b_ok (lft ar)];exact er
 show MS.b (jcy [some (bkD b)]) outE Ω=_;refine (MS.b_ok (a:=.nx [some (bkD b)]) (Ω1:=Ω) ?_).trans rfl;unfold jcy;rw[eseq (δ':=[some (bkD b)]) (Ω':=Ω) (by rw[eif (lft t),if_neg (by decide)];rfl)];unfold jl6;rw[MS.b_ok mc];rfl
noncomputable abbrev errN(Ω:Sto):Sto:=Ω++[.exc "NoBook" (none,false)]
theorem jvl(h:jcl [bkD b]=some (.ok (.bl false)))(Ω:Sto):ja4 [bkD b] Ω=some (.error (xdO Ω.length),errN Ω):=by
 have t:DL.tNot (tTru (jax jcl (jac (fVar 0) fNil))) [some (bkD b)]=some (.ok true):=by
  simp only[stp,h];rfl
 show MS.b (jcy [some (bkD b)]) outE Ω=_;refine b_err ?_;unfold jcy;refine jsl ?_;rw[eif (lft t),if_pos rfl];unfold jnh;rw[MS.b_ok (a:=.obj Ω.length) (Ω1:=Ω++[.exc "NoBook" (none,true)]) rfl];dsimp only;unfold jny;rw[jid];dsimp only;rw[if_pos (by decide),List.set_append_right _ _ (zac _),Nat.sub_self];rfl
theorem jB5{Ω:Sto}{g:Str->Bool}{δ:DSt}(h:lF (fVar 1) δ (errN Ω)=some (.ok (.obj Ω.length),errN Ω)):mIsX xcs g (lF (fVar 1)) δ (errN Ω)=some (.ok (.bl (g "NoBook")),errN Ω):=by
 unfold mIsX;rw[MS.b_ok h];unfold isX;dsimp only;rw[jid];dsimp only;rw[if_pos (by decide)]
theorem jjm(h:jcl [bkD b]=some (.ok (.bl false)))(Ω:Sto):jcf [bkD b] Ω=some (.ok (.bl true),errN Ω):=by
 have ck:=jvl h Ω;have mc:jdp ja4 (lF (jac (fVar 0) fNil)) [some (bkD b),some .non,none] Ω=ja4 [bkD b] Ω:=rfl;rw[ck] at mc;have v0:lF (fVar 1) [some (bkD b),some (.obj Ω.length),none] (errN Ω)=some (.ok (.obj Ω.length),errN Ω):=rfl;have i1:=fun g=>jB5 (g:=g) v0
 show MS.b (jds [some (bkD b),none,none]) outE Ω=_;refine (MS.b_ok (a:=.rt (.bl true)) (Ω1:=errN Ω) ?_).trans rfl;unfold jds;rw[eseq (δ':=[some (bkD b),some .non,none]) (Ω':=Ω) rfl,eseq (δ':=[some (bkD b),some (.obj Ω.length),none]) (Ω':=errN Ω) (by
  unfold jsj;rw[mc];dsimp only;unfold jm9 errI xdO;dsimp only;rw[jid];dsimp only;rw[if_pos (by decide)];rfl)]
 have ho:mOr (mNot (mTru (mIsX xcs (fun c=>c == "NoBook") (lF (fVar 1))))) (mNot (mTru (mIsX xcs (fun _=>true) (lF (fVar 1))))) [some (bkD b),some (.obj Ω.length),none] (errN Ω)=some (.ok false,errN Ω):=by
  have a1:mNot (mTru (mIsX xcs (fun c=>c == "NoBook") (lF (fVar 1)))) [some (bkD b),some (.obj Ω.length),none] (errN Ω)=some (.ok false,errN Ω):=by
   unfold mNot mTru;rw[MS.b_ok (a:=true) (Ω1:=errN Ω) (by rw[MS.b_ok (i1 _)];rfl)];rfl
  have a2:mNot (mTru (mIsX xcs (fun _=>true) (lF (fVar 1)))) [some (bkD b),some (.obj Ω.length),none] (errN Ω)=some (.ok false,errN Ω):=by
   unfold mNot mTru;rw[MS.b_ok (a:=true) (Ω1:=errN Ω) (by rw[MS.b_ok (i1 _)];rfl)];rfl
  unfold mOr;rw[MS.b_ok a1,if_neg (by decide)];exact a2
 rw[eseq (δ':=[some (bkD b),some (.obj Ω.length),none]) (Ω':=errN Ω) (by rw[eif ho,if_neg (by decide)];rfl)];rw[eseq (δ':=[some (bkD b),some (.obj Ω.length),none]) (Ω':=errN Ω) (by
  rw[eif (c:=false) (Ω':=errN Ω) (by
   unfold mTru;rw[MS.b_ok (i1 _)];rfl),if_neg (by decide)]
  rfl)]
 unfold eRet jwf;rw[MS.b_ok (a:=.bl true) (Ω1:=errN Ω) (by rw[MS.b_ok (i1 _)];rfl)];rfl
end
noncomputable section
theorem jz7(b:Bk):okDs (b.its.map itD)=true:=jeh fun x _=>by unfold itD;rfl
theorem juw(r:Rul):okD (rulD r)=true:=by
 unfold rulD;have:okDs (r.cs.map D.int)=true:=jeh fun y _=>rfl
 show (okD (.str r.nm)&&(okDs (r.cs.map D.int)&&(okD (.int r.rest)&&true)))=true;rw[this];rfl
theorem juv(rs:List Rul):okDs (rs.map rulD)=true:=jeh fun x _=>juw x
theorem juu(d:Ded):okD (dedD d)=true:=by
 unfold dedD;have:okDs (d.chs.map chD)=true:=jeh fun y _=>by unfold chD;rfl
 show (okD (.str d.nm)&&(okD (.int d.lo)&&(okD (.int d.hi)&&(okDs (d.chs.map chD)&&true))))=true;rw[this];rfl
theorem jwy(b:Bk):okD (bkD b)=true:=by
 have h3:okDs (b.dds.map dedD)=true:=jeh fun x _=>juu x
 show (okDs (b.its.map itD)&&(okDs (b.rls.map rulD)&&(okDs (b.dds.map dedD)&&true)))=true;rw[jz7,juv,h3];rfl
theorem jpt(rs:List Rul):depDs (rs.map rulD)<=5:=jem fun x _=>by
 have:depDs (x.cs.map D.int)<=1:=jem fun y _=>by unfold depD;omega
 unfold rulD;simp only[depD,depDs];omega
theorem jud(b:Bk):depD (bkD b)<=20:=by
 have h1:depDs (b.its.map itD)<=3:=jem fun x _=>by
  unfold itD;simp only[depD,depDs];omega
 have h2:=jpt b.rls;have h3:depDs (b.dds.map dedD)<=7:=jem fun x _=>by
  have:depDs (x.chs.map chD)<=3:=jem fun y _=>by
   unfold chD;simp only[depD,depDs];omega
  unfold dedD;simp only[depD,depDs];omega
 simp only[depD,depDs];omega
theorem jiu{Ω r:Sto}{x d:D}(h:rs1 Ω x=some d):rs1 (Ω++r) x=some d:=by
 cases x with
 | obj i =>
  unfold rs1 at h |-
  dsimp only at h |-
  split at h
  ·rename_i ds hi;cases h;rw[List.getElem?_append_left (zbb.mp hi).1,hi]
  ·cases h
 | _=>exact h
structure Wr(b:Bk)(x0 x1 x2:D)(Ω:Sto):Prop where
 h0:rs1 Ω x0=some (itsD b)
 h1:rs1 Ω x1=some (rlsD b)
 h2:rs1 Ω x2=some (ddsD b)
theorem Wr.ext{b:Bk}{x0 x1 x2:D}{Ω r:Sto}(h:Wr b x0 x1 x2 Ω):Wr b x0 x1 x2 (Ω++r):=⟨jiu h.h0,jiu h.h1,jiu h.h2⟩
structure Sm(b b':Bk):Prop where
 i:b'.its=b.its
 d:b'.dds=b.dds
 r:b'.rls.map (fun r=>(r.nm,r.cs))=b.rls.map fun r=>(r.nm,r.cs)
theorem Sm.nm{b b':Bk}(h:Sm b b'):b'.rls.map (·.nm)=b.rls.map (·.nm):=by
 have:=congrArg (List.map Prod.fst) h.r;rw[List.map_map,List.map_map] at this;exact this
theorem Sm.len{b b':Bk}(h:Sm b b'):b'.rls.length=b.rls.length:=by
 have:=congrArg List.length h.r;rw[zav,zav] at this;exact this
theorem Sm.ex{b b':Bk}(h:Sm b b'){r:Rul}(hr:r∈b.rls):∃ r'∈b'.rls,r'.cs=r.cs:=by
 have:(r.nm,r.cs)∈b'.rls.map fun r=>(r.nm,r.cs):=by rw[h.r];exact List.mem_map_of_mem hr
 obtain⟨r',h1,h2⟩:=List.mem_map.mp this;exact⟨r',h1,congrArg Prod.snd h2⟩
theorem Sm.all{b b':Bk}(h:Sm b b')(q:∀ r∈b.rls,r.cs.length=b.its.length):∀ r∈b'.rls,r.cs.length=b'.its.length:=fun r hr=>by
 have:(r.nm,r.cs)∈b.rls.map fun r=>(r.nm,r.cs):=by rw[<- h.r];exact List.mem_map_of_mem hr
 obtain⟨r',h1,h2⟩:=List.mem_map.mp this;have e:r'.cs=r.cs:=congrArg Prod.snd h2;rw[<- e,h.i];exact q r' h1
theorem Sm.nb{b b':Bk}(h:Sm b b')(n:NB b):NB b':=by
 cases n with
 | its k=>exact .its (by rw[h.i];exact k)
 | rls k g=>exact .rls (by rw[h.i];exact k) (by rw[h.nm];exact g)
 | cs k g r hr q =>
  obtain⟨r',h1,h2⟩:=h.ex hr;exact .cs (by rw[h.i];exact k) (by rw[h.nm];exact g) r' h1 (by rw[h2,h.i];exact q)
 | dds k g q d=>exact .dds (by rw[h.i];exact k) (by rw[h.nm];exact g) (h.all q) (by rw[h.d];exact d)
 | ch k g q d e he w=>exact .ch (by rw[h.i];exact k) (by rw[h.nm];exact g) (h.all q) (by rw[h.d];exact d) e (by rw[h.d];exact he) (by rw[h.i];exact w)
theorem jv8{n i:Nat}(h:i<n):L2.ixN n (i:Int)=some i:=by
 unfold L2.ixN;rw[if_pos (by omega),if_pos (by omega)];rfl
theorem jCk:gPow (.int 10) (.int 29)=some (.int 100000000000000000000000000000):=by rw[jra (by decide)];rfl
theorem jx8{Ω:Sto}{i:Nat}{ds:List D}{j:Int}{d:D}(h:Ω[i]? = some (.lst ds))(hj:L2.atI ds j=some d):atL (.obj i) (.int j) Ω=some (.ok d,Ω):=by
 unfold atL;dsimp only;rw[h];dsimp only;rw[hj];rfl
theorem je3{fa fb:DSt->MS D}{δ:DSt}{Ω:Sto}{i:Nat}{ds:List D}{j:Int}{d:D}(ha:fa δ Ω=some (.ok (.obj i),Ω))(hb:fb δ Ω=some (.ok (.int j),Ω))(h:Ω[i]? = some (.lst ds))(hj:L2.atI ds j=some d):mIxL fa fb δ Ω=some (.ok d,Ω):=by
 unfold mIxL;rw[MS.b_ok ha,MS.b_ok hb];exact jx8 h hj
theorem jhd{fo fi fv:DSt->MS D}{δ:DSt}{Ω:Sto}{i j:Nat}{ds:List D}{d:D}(hv:fv δ Ω=some (.ok d,Ω))(ho:fo δ Ω=some (.ok (.obj i),Ω))(hi:fi δ Ω=some (.ok (.int (j:Nat)),Ω))(h:Ω[i]? = some (.lst ds))(hj:j<ds.length):jen fo fi fv δ Ω=some (.ok (.nx δ),Ω.set i (.lst (ds.set j d))):=by
 unfold jen;rw[MS.b_ok hv,MS.b_ok ho,MS.b_ok hi,jtu];refine (MS.b_ok (a:=.non) (Ω1:=Ω.set i (.lst (ds.set j d))) ?_).trans rfl;unfold putL;dsimp only;rw[h];dsimp only;unfold gStL;rw[show ixN ds.length (j:Int)=some j from jv8 hj];rfl
theorem jc2{f:DSt->MS D}{g:DSt->MS (List D)}{δ:DSt}{Ω Ω1 Ω2:Sto}{x:D}{xs:List D}(h:f δ Ω=some (.ok x,Ω1))(k:g δ Ω1=some (.ok xs,Ω2)):jce f g δ Ω=some (.ok (x::xs),Ω2):=by
 unfold jce;rw[MS.b_ok h,MS.b_ok k];rfl
theorem js5{k:List D->Option D}{g:DSt->MS (List D)}{δ:DSt}{Ω Ω1:Sto}{xs:List D}{d:D}(h:g δ Ω=some (.ok xs,Ω1))(hk:k xs=some d):mL k g δ Ω=some (.ok d,Ω1):=by
 unfold mL;rw[MS.b_ok h,hk];rfl
theorem js2{k:D->D->Option D}{fa fb:DSt->MS D}{δ:DSt}{Ω Ω1 Ω2:Sto}{x y d:D}(ha:fa δ Ω=some (.ok x,Ω1))(hb:fb δ Ω1=some (.ok y,Ω2))(hk:k x y=some d):m2 k fa fb δ Ω=some (.ok d,Ω2):=by
 unfold m2;rw[MS.b_ok ha,MS.b_ok hb,hk];rfl
theorem eset{i:Nat}{f:DSt->MS D}{δ:DSt}{Ω Ω1:Sto}{d:D}(h:f δ Ω=some (.ok d,Ω1)):eSet i f δ Ω=some (.ok (.nx (δ.set i (some d))),Ω1):=by
 unfold eSet;rw[MS.b_ok h];rfl
theorem jnl{i:Nat}{f:DSt->M D}{δ:DSt}{Ω:Sto}{d d' x:D}(h1:(δ[i]?).join=some d)(h2:rsT Ω d=some d')(h3:f (δ.set i (some d'))=some (.ok x))(h4:jy1 x=true):jhi i f δ Ω=some (.ok x,Ω):=by
 unfold jhi;rw[h1];dsimp only;rw[h2];dsimp only;rw[h3,M.b_ok,if_pos h4];rfl
theorem jpe{b:Bk}{x0 x1 x2:D}{Ω:Sto}(h:Wr b x0 x1 x2 Ω)(num:Int):∃ (b':Bk) (Ω':Sto),jef [.tup [x0,x1,x2],.int num] Ω=some (.ok (.tup [x0,.obj Ω.length,x2]),Ω')/\Wr b' x0 (.obj Ω.length) x2 Ω'/\Sm b b':=by
 let δ (a:Option D):DSt:=[some (.tup [x0,x1,x2]),some (.int num),some (.obj Ω.length),a]
 let Ω1:Sto:=Ω++[.lst (b.rls.map rulD)]
 have g1:Ω1[Ω.length]? = some (.lst (b.rls.map rulD)):=jid Ω;have s1:eSet 2 (fun δ=>MS.b ((lF (jac (f2 gIx (fVar 0) (fC (.int 1))) fNil)) δ) jqh) [some (.tup [x0,x1,x2]),some (.int num),none,none] Ω=some (.ok (.nx (δ none)),Ω1):=by
  refine eset (d:=.obj Ω.length) ?_;rw[MS.b_ok (a:=[x1]) (Ω1:=Ω) (lft rfl)];unfold jqh;dsimp only;rw[h.h1]
 have fin:∀ (a:Option D) (rls:List Rul),rls.map (fun r=>(r.nm,r.cs))=b.rls.map (fun r=>(r.nm,r.cs))->eIf (mAnd (mB (mNeR (lF (fVar 2)) (lF (fL jb0 fNil)))) (lF (t2 gEq (f2 gMod (fVar 1) (fC (.int 2))) (fC (.int 0))))) (eSeq (eSet 3 (jhi 2 (f2 gMod (f2 jbn (fVar 1) (fC (.int 2))) (fL kLen (jac (fVar 2) fNil)))))
  (jen (lF (fVar 2)) (lF (fVar 3)) (mL jb6 (jce (m2 gIx (mIxL (lF (fVar 2)) (lF (fVar 3))) (lF (fC (.int 0)))) (jce (m2 gIx (mIxL (lF (fVar 2)) (lF (fVar 3))) (lF (fC (.int 1)))) (jce (jhi 2 (f2 gSub (f2 gIx (f2 gIx (fVar 2) (fVar 3)) (fC (.int 2))) (f2 gPow (fC (.int 10)) (fC (.int 29))))) (lF fNil))))))) eNx (δ none) Ω1=some (.ok (.nx (δ a)),Ω++[.lst (rls.map rulD)]) ->
   ∃ (b':Bk) (Ω':Sto),jef [.tup [x0,x1,x2],.int num] Ω=some (.ok (.tup [x0,.obj Ω.length,x2]),Ω')/\Wr b' x0 (.obj Ω.length) x2 Ω'/\Sm b b':=fun a rls hr e=>by
  refine⟨⟨b.its,rls,b.dds⟩,Ω++[.lst (rls.map rulD)],?_,⟨jiu h.h0,?_,jiu h.h2⟩,rfl,rfl,hr⟩
  ·show MS.b (jed [some (.tup [x0,x1,x2]),some (.int num),none,none]) outE Ω=_;refine (MS.b_ok (a:=.rt (.tup [x0,.obj Ω.length,x2])) (Ω1:=Ω++[.lst (rls.map rulD)]) ?_).trans rfl;unfold jed;rw[eseq s1,eseq e];unfold eRet;rw[MS.b_ok (js5 (d:=.tup [x0,.obj Ω.length,x2]) (jc2 (x:=x0) (lft rfl) (jc2 (x:=.obj Ω.length) (lft rfl) (lft (a:=[x2]) rfl))) rfl)];rfl
  ·unfold rs1;dsimp only;rw[jid]
 have ok1:okD (.lst (b.rls.map rulD))=true:=juv _;have dp1:depD (.lst (b.rls.map rulD))<=20:=by have:=jpt b.rls;simp only[depD];omega
 have e2:=jau (i:=num) (j:=2) (by decide);have rT:rsT Ω1 (.obj Ω.length)=some (.lst (b.rls.map rulD)):=by
  show rs1 Ω1 (.obj Ω.length)=_;unfold rs1;dsimp only;rw[g1]
 have nr:mB (mNeR (lF (fVar 2)) (lF (fL jb0 fNil))) (δ none) Ω1=some (.ok (!(eqB (.lst (b.rls.map rulD)) (.lst []))),Ω1):=by
  have:mNeR (lF (fVar 2)) (lF (fL jb0 fNil)) (δ none) Ω1=some (.ok (.bl !(eqB (.lst (b.rls.map rulD)) (.lst []))),Ω1):=by
   unfold mNeR;rw[MS.b_ok (a:=.obj Ω.length) (Ω1:=Ω1) (lft rfl),MS.b_ok (a:=.lst []) (Ω1:=Ω1) (lft rfl)];unfold neR;rw[rT,show rsT Ω1 (.lst [])=some (.lst []) from rfl];dsimp only;rw[if_pos];rw[ok1,decide_eq_true dp1];rfl
  unfold mB;rw[MS.b_ok this];rfl
 have t0:lF (t2 gEq (f2 gMod (fVar 1) (fC (.int 2))) (fC (.int 0))) (δ none) Ω1=some (.ok (num % 2 == 0),Ω1):=lft (by simp only[δ,stp,e2];rfl)
 cases hrl:b.rls with
 | nil =>
  refine fin none [] (by rw[hrl]) ?_;rw[hrl] at nr;rw[eif (c:=false) (Ω':=Ω1) (by unfold mAnd;rw[MS.b_ok nr];rfl),if_neg (by decide)];show some _=some _;rw[show Ω1=Ω++[.lst (b.rls.map rulD)] from rfl,hrl]
 | cons r0 rs0 =>
  have hne:(!(eqB (.lst (b.rls.map rulD)) (.lst [])))=true:=by rw[hrl];rfl
  rw[hne] at nr;have ha:mAnd (mB (mNeR (lF (fVar 2)) (lF (fL jb0 fNil)))) (lF (t2 gEq (f2 gMod (fVar 1) (fC (.int 2))) (fC (.int 0)))) (δ none) Ω1=some (.ok (num % 2 == 0),Ω1):=by
   unfold mAnd;rw[MS.b_ok nr,if_pos rfl];exact t0
  cases hc:(num % 2 == 0) with
  | false =>
   rw[hc] at ha;refine fin none b.rls rfl ?_;rw[eif ha,if_neg (by decide)];rfl
  | true =>
   rw[hc] at ha;have lp:0<b.rls.length:=by rw[hrl];exact Nat.succ_pos _
   have f2':=jbe (i:=num) (j:=2) (by decide) (by decide);have em:=jau (i:=num / 2) (j:=(b.rls.length:Nat)) (by omega);have x1':=md (i:=num / 2) (j:=b.rls.length) lp;obtain⟨i,hi⟩:=Int.eq_ofNat_of_zero_le x1'.1;rw[hi] at em x1';have il:i<b.rls.length:=by have:=x1'.2;omega
   have hri:b.rls[i]? = some b.rls[i]:=zax il;generalize b.rls[i]=r at hri;have ai:atI (b.rls.map rulD) (i:Int)=some (rulD r):=atI_get (by rw[zba,hri];rfl);refine fin (some (.int (i:Nat))) (b.rls.set i ⟨r.nm,r.cs,r.rest-100000000000000000000000000000⟩) ?_ ?_
   ·rw[List.map_set];refine List.ext_getElem? fun j=>?_
    by_cases hj:i=j
    ·subst hj;rw[zcz (by rw[zav];exact il),zba,hri];rfl
    ·rw[zbw hj]
   ·rw[eif ha,if_pos rfl];rw[eseq (δ':=δ (some (.int (i:Nat)))) (Ω':=Ω1) (eset (d:=.int (i:Nat)) (jnl (d:=.obj Ω.length) rfl rT (by simp only[δ,stp,zav,f2',em];rfl) rfl))];rw[jhd (i:=Ω.length) (j:=i) (ds:=b.rls.map rulD) (d:=rulD ⟨r.nm,r.cs,r.rest-100000000000000000000000000000⟩) (js5 (jc2 (js2 (je3 (lft rfl) (lft rfl) g1 ai) (lft rfl) (rl0 r)) (jc2 (js2 (je3 (lft rfl) (lft rfl) g1 ai) (lft rfl) (rl1 r)) (jc2 (x:=.int (r.rest-100000000000000000000000000000)) (jnl (d:=.obj Ω.length) rfl rT (by simp only[δ,stp,ix_l,ai,rl2,jCk];rfl) rfl) (lft rfl)))) rfl) (lft rfl) (lft rfl) g1 (by rw[zav];exact il)];rw[List.map_set,List.set_append_right _ _ (zac _),Nat.sub_self];rfl
end
noncomputable section
theorem jnf{α:Type}{xs:List α}{k:Nat}(h:k<=xs.length):cutL xs (some (k:Int)) none=xs.drop k:=by
 have e1:HT.sIx xs.length 0 (some (k:Int))=k:=by
  rw[HT.sIx_nat];omega
 have e2:HT.sIx xs.length xs.length none=xs.length:=rfl;unfold cutL;rw[e1,e2,List.take_of_length_le (by rw[List.length_drop];omega)]
theorem jyg{α:Type}{xs:List α}{k:Nat}(h:k<=xs.length):cutL xs none (some (k:Int))=xs.take k:=by
 have e1:HT.sIx xs.length xs.length (some (k:Int))=k:=by
  rw[HT.sIx_nat];omega
 have e2:HT.sIx xs.length 0 none=0:=rfl;unfold cutL;rw[e1,e2];rfl
theorem jpr{d:D}{ds:List D}:cutD (.tup (d::ds)) (some 1) none=some (.tup ds):=by
 have e1:HT.sIx (d::ds).length 0 (some 1)=1:=by
  show HT.sIx (d::ds).length 0 (some ((1:Nat):Int))=1;rw[HT.sIx_nat,List.length_cons];omega
 have e0:cutL (d::ds) (some 1) none=ds:=jnf (xs:=d::ds) (k:=1) (by rw[List.length_cons];omega);unfold cutD;dsimp only;rw[if_neg (by rw[e1];omega),e0]
theorem jl4{α β:Type}(f:α->β)(xs:List α)(lo hi:Option Int):cutL (xs.map f) lo hi=(cutL xs lo hi).map f:=by
 unfold cutL;rw[zav,List.map_take,List.map_drop]
theorem jye(xs:List D)(lo hi:Option Int):cutD (.lst xs) lo hi=some (.lst (cutL xs lo hi)):=rfl
theorem joz{fa:DSt->M D}{fl fh:DSt->M (Option Int)}{δ:DSt}{x y:D}{lo hi:Option Int}(ha:fa δ=some (.ok x))(hl:fl δ=some (.ok lo))(hh:fh δ=some (.ok hi))(h:cutD x lo hi=some y):fSl fa fl fh δ=some (.ok y):=by
 unfold fSl;rw[ha,M.b_ok,hl,M.b_ok,hh,M.b_ok,h];rfl
theorem jhe{f:DSt->M D}{δ:DSt}{i:Int}(h:f δ=some (.ok (.int i))):jfm f δ=some (.ok (some i)):=by
 unfold jfm;rw[h,M.b_ok];rfl
theorem ja0{g:D->D->Option D}{fa fb:DSt->M D}{δ:DSt}{x y d:D}(ha:fa δ=some (.ok x))(hb:fb δ=some (.ok y))(h:g x y=some d):f2 g fa fb δ=some (.ok d):=by
 unfold f2;rw[ha,M.b_ok,hb,M.b_ok,h];rfl
theorem jg7{k:List D->Option D}{g:DSt->M (List D)}{δ:DSt}{xs:List D}{d:D}(h:g δ=some (.ok xs))(hk:k xs=some d):fL k g δ=some (.ok d):=by
 unfold fL;rw[h,M.b_ok,hk];rfl
theorem ja6{f:DSt->M D}{g:DSt->M (List D)}{δ:DSt}{x:D}{xs:List D}(h:f δ=some (.ok x))(k:g δ=some (.ok xs)):jac f g δ=some (.ok (x::xs)):=by
 unfold jac;rw[h,M.b_ok,k,M.b_ok];rfl
theorem jj4{m:List D->M D}{g:DSt->M (List D)}{δ:DSt}{xs:List D}{d:D}(h:g δ=some (.ok xs))(hm:m xs=some (.ok d)):jax m g δ=some (.ok d):=by
 unfold jax;rw[h,M.b_ok];exact hm
theorem jvj{xs ys:List D}(h:xs.length+ys.length<=1000):gCat (.lst xs) (.lst ys)=some (.lst (xs++ys)):=if_pos (zcc h (by decide))
theorem catE{xs ys:List D}(h:xs.length+ys.length<=1000):jh9 (.tup xs) (.tup ys)=some (.tup (xs++ys)):=if_pos (zcc h (by decide))
theorem jrw{ta tb:DSt->M Bool}{δ:DSt}{x y:Bool}(h:ta δ=some (.ok x))(g:tb δ=some (.ok y)):DL.tAnd ta tb δ=some (.ok (x&&y)):=by
 unfold DL.tAnd;rw[h,M.b_ok];cases x
 ·rfl
 ·exact g
noncomputable def badL:List Str:=["","A","abcdefghijk","a1","a b"," a","a ","aB","-","abcdefghijklmnopqrst","1","a:"]
noncomputable def noM:M D->Bool
 | some (.ok (.bl false))=>true
 | _=>false
theorem jz5{m:M D}(h:noM m=true):m=some (.ok (.bl false)):=by
 unfold noM at h
 split at h
 ·rfl
 ·cases h
theorem jve:∀ s∈badL,noM (jb2 [.str s])=true:=by decide +kernel
theorem jya{s:Str}(h:s∈badL):jb2 [.str s]=some (.ok (.bl false)):=jz5 (jve s h)
theorem ix_str{xs:List Str}{i:Nat}(h:i<xs.length):gIx (.lst (xs.map .str)) (.int (i:Nat))=some (.str xs[i]):=by
 rw[ix_l];exact atI_get (by rw[zba,zax h];rfl)
theorem jfl{q:Int}{n:Nat}(h:0<n):∃ i:Nat,q % (n:Int)=(i:Nat)/\i<n:=by
 have x:=md (i:=q) h;obtain⟨i,hi⟩:=Int.eq_ofNat_of_zero_le x.1;have h2:q % (n:Int)=(i:Nat):=hi;exact⟨i,h2,by have:=x.2;omega⟩
theorem jtk(q:Int){nms:List Str}(h1:1<=nms.length):∃ s:Str,jcn [.int q,.lst (nms.map .str)]=some (.ok (.str s))/\(s∈nms\/s∈badL):=by
 have e2:=jau (i:=q) (j:=2) (by decide);have f2':=jbe (i:=q) (j:=2) (by decide) (by decide);have em:=jau (i:=q / 2) (j:=(nms.length:Nat)) (by omega);have e12:=jau (i:=q / 2) (j:=12) (by decide);obtain⟨i,hi,il⟩:=jfl (q:=q / 2) (n:=nms.length) (by omega);obtain⟨j,hj,jl⟩:=jfl (q:=q / 2) (n:=12) (by decide);have hj':q / 2 % 12=(j:Int):=hj;rw[hi] at em;rw[hj'] at e12
 let δ:DSt:=[some (.int q),some (.lst (nms.map .str)),some (.lst (badL.map .str))]
 have t:DL.tAnd (t2 gEq (f2 gMod (fVar 0) (fC (.int 2))) (fC (.int 0))) (t2 gGt (fL kLen (jac (fVar 1) fNil)) (fC (.int 1))) δ=some (.ok ((q % 2 == 0)&&decide ((nms.length:Int) > 1))) :=
  jrw (by simp only[δ,stp,e2];rfl) (by simp only[δ,stp,zav];rfl)
 unfold jcn;rw[jgq];unfold jb1;rw[jc6 (δ':=δ) (jd9 2 (d:=.lst (badL.map .str)) rfl)]
 cases hc:((q % 2 == 0)&&decide ((nms.length:Int) > 1)) with
 | true =>
  rw[hc] at t;refine⟨nms[i],?_,.inl (List.getElem_mem il)⟩;rw[w_rt (d:=.str nms[i]) (by
   rw[w_if t,if_pos rfl];exact jdm (ja0 (x:=.lst (nms.map .str)) (y:=.int (i:Nat)) rfl (by simp only[δ,stp,zav,f2',em];rfl) (ix_str il)))]
  rfl
 | false =>
  rw[hc] at t;refine⟨badL[j],?_,.inr (List.getElem_mem jl)⟩;rw[jn5 t,jdm (d:=.str badL[j]) (ja0 (x:=.lst (badL.map .str)) (y:=.int (j:Nat)) rfl (by simp only[δ,stp,f2',e12];rfl) (ix_str jl))];rfl
section
variable {α:Type}{f:α->Str}{K:α->D}{tl:α->List D}{ren:α->Str->α}
noncomputable def oth(f:α->Str)(i:Nat):Nat->List α->List Str
 | _,[]=>[]
 | j,x::xs=>if j=i then oth f i (j+1) xs else f x::oth f i (j+1) xs
theorem jmm{i:Nat}{s:Str}:∀ {xs:List α} {j:Nat},s∈oth f i j xs->∃ k x,xs[k]? = some x/\j+k≠i/\f x=s
 | [],j,h=>by cases h
 | x::xs,j,h=>by
  unfold oth at h
  split at h
  ·obtain⟨k,y,h1,h2,h3⟩:=jmm h;exact⟨k+1,y,h1,by omega,h3⟩
  ·rename_i hj;rcases List.mem_cons.mp h with rfl|h
   ·exact⟨0,x,rfl,hj,rfl⟩
   ·obtain⟨k,y,h1,h2,h3⟩:=jmm h;exact⟨k+1,y,h1,by omega,h3⟩
theorem jq5{i:Nat}:∀ {xs:List α} {j:Nat},(oth f i j xs).length<=xs.length
 | [],j=>zac _
 | x::xs,j=>by
  have:=jq5 (i:=i) (xs:=xs) (j:=j+1);unfold oth
  split
  ·rw[List.length_cons];omega
  ·rw[List.length_cons,List.length_cons];omega
theorem jne(hK:∀ x,gIx (K x) (.int 0)=some (.str (f x))){i:Nat}:∀ (xs:List α) (j:Nat) (a c:Option D),jet (je5 0 1) (t2 gNe (fVar 0) (fVar 2)) jb4 (je4 (j:Nat) (xs.map K)) [a,c,some (.int (i:Nat))]=some ((oth f i j xs).map .str)
 | [],j,a,c=>rfl
 | x::xs,j,a,c=>by
  have ih:=jne hK (i:=i) xs (j+1) (some (.int (j:Nat))) (some (K x));have t:t2 gNe (fVar 0) (fVar 2) [some (.int (j:Nat)),some (K x),some (.int (i:Nat))]=some (.ok (!(((j:Nat):Int) == ((i:Nat):Int)))):=by
   simp only[stp,ne_i];rfl
  have e:jb4 [some (.int (j:Nat)),some (K x),some (.int (i:Nat))]=some (.ok (.str (f x))):=by
   unfold jb4;simp only[stp,hK];rfl
  show jet (je5 0 1) (t2 gNe (fVar 0) (fVar 2)) jb4 (.tup [.int (j:Nat),K x]::je4 ((j+1:Nat):Int) (xs.map K)) _=_;unfold jet;rw[show je5 0 1 (.tup [.int (j:Nat),K x]) [a,c,some (.int (i:Nat))]=some [some (.int (j:Nat)),some (K x),some (.int (i:Nat))] from rfl];dsimp only;rw[t];unfold oth
  by_cases h:j=i
  ·rw[if_pos h,show ((((j:Nat):Int) == ((i:Nat):Int)))=true by rw[h];exact beq_self_eq_true _];exact ih
  ·rw[if_neg h,show ((((j:Nat):Int) == ((i:Nat):Int)))=false by rw[beq_eq_false_iff_ne];omega];simp only[Bool.not_false,e,ih];rfl
theorem jou(hK:∀ x,K x=.tup (.str (f x)::tl x))(hr:∀ x s,K (ren x s)=.tup (.str s::tl x))(ht:∀ x,(tl x).length<=100){xs:List α}(h1:1<=xs.length)(h2:xs.length<=100)(q:Int):∃ (i:Nat) (x:α) (s:Str),xs[i]? = some x/\jc4 [.lst (xs.map K),.int q]=some (.ok (.lst ((xs.set i (ren x s)).map K)))/\((∃ k y,k≠i/\xs[k]? = some y/\f y=s)\/s∈badL):=by
 have h0:∀ x,gIx (K x) (.int 0)=some (.str (f x)):=fun x=>by rw[hK,ix_t,at0]
 obtain⟨i,hi,il⟩:=jfl (q:=q) (n:=xs.length) (by omega);have em:=jau (i:=q) (j:=(xs.length:Nat)) (by omega);rw[hi] at em;have f8:=jbe (i:=q) (j:=8) (by decide) (by decide);have hx:xs[i]? = some xs[i]:=zax il;generalize xs[i]=x at hx;have ai:atI (xs.map K) (i:Int)=some (K x):=atI_get (by rw[zba,hx];rfl);have hc:=jne h0 (i:=i) xs 0 none none;have ol:=jq5 (f:=f) (i:=i) (xs:=xs) (j:=0)
 let nms:List Str:=oth f i 0 xs++[("":Str)]
 obtain⟨s,hs,hm⟩:=jtk (q / 8) (nms:=nms) (by show 1<=(oth f i 0 xs++[("":Str)]).length;rw[zca];exact Nat.le_add_left _ _);refine⟨i,x,s,hx,?_,?_⟩
 ·let δ (a c d:Option D):DSt:=[some (.lst (xs.map K)),some (.int q),a,c,d]
  have s2:gSet 2 (f2 gMod (fVar 1) (fL kLen (jac (fVar 0) fNil))) (δ none none none)=some (.ok (.nx (δ (some (.int (i:Nat))) none none))):=jd9 2 (by simp only[δ,stp,zav,em];rfl);have s3:gSet 3 (f2 gCat (jf1 2 [("_law_at_here",2)] (je6 jev (jac (fVar 0) fNil)) (je5 0 1) (t2 gNe (fVar 0) (fVar 2)) jb4) (fL jb0 (jac (fC (.str "")) fNil))) (δ (some (.int (i:Nat))) none none)=some (.ok (.nx (δ (some (.int (i:Nat))) (some (.lst (nms.map .str))) none))):=by
   refine jd9 3 (ja0 (x:=.lst ((oth f i 0 xs).map .str)) (y:=.lst [.str ""]) ?_ rfl ?_)
   ·unfold jf1;rw[show je6 jev (jac (fVar 0) fNil) (δ (some (.int (i:Nat))) none none)=some (.ok (je4 ((0:Nat):Int) (xs.map K))) from rfl,M.b_ok];rw[show jf3 2 [("_law_at_here",2)] (δ (some (.int (i:Nat))) none none)=[none,none,some (.int (i:Nat))] from rfl,hc];show M.o (jb0 _)=_;rw[jgu (by rw[zav];omega)];rfl
   ·rw[jvj (by rw[zav];show _+1<=_;omega)];show _=some (D.lst ((oth f i 0 xs++[("":Str)]).map .str));rw[List.map_append];rfl
  have s4:gSet 4 (f2 jh9 (fL jb6 (jac (jax jcn (jac (f2 jbn (fVar 1) (fC (.int 8))) (jac (fVar 3) fNil))) fNil)) (fSl (f2 gIx (fVar 0) (fVar 2)) (jfm (fC (.int 1))) jgj)) (δ (some (.int (i:Nat))) (some (.lst (nms.map .str))) none)=some (.ok (.nx (δ (some (.int (i:Nat))) (some (.lst (nms.map .str))) (some (K (ren x s)))))):=by
   refine jd9 4 (ja0 (x:=.tup [.str s]) (y:=.tup (tl x)) (jg7 (ja6 (jj4 (ja6 (ja0 (x:=.int q) (y:=.int 8) rfl rfl f8) (ja6 (x:=.lst (nms.map .str)) rfl rfl)) hs) rfl) rfl) (joz (ja0 (x:=.lst (xs.map K)) (y:=.int (i:Nat)) rfl rfl (by rw[ix_l];exact ai)) (jhe (i:=1) rfl) (hi:=none) rfl (by rw[hK];exact jpr)) ?_);rw[catE (by have:=ht x;show 1+_<=_;omega),hr];rfl
  have s5:gRet (f2 gCat (f2 gCat (fSl (fVar 0) jgj (jfm (fVar 2))) (fL jb0 (jac (fVar 4) fNil))) (fSl (fVar 0) (jfm (f2 gCat (fVar 2) (fC (.int 1)))) jgj)) (δ (some (.int (i:Nat))) (some (.lst (nms.map .str))) (some (K (ren x s))))=some (.ok (.rt (.lst ((xs.set i (ren x s)).map K)))):=by
   have c1:cutL (xs.map K) none (some (i:Int))=(xs.take i).map K:=by rw[jl4,jyg (by omega)]
   have c2:cutL (xs.map K) (some ((i:Int)+1)) none=(xs.drop (i+1)).map K:=by
    rw[jl4];exact congrArg _ (jnf (k:=i+1) (by omega))
   refine jdm (ja0 (x:=.lst ((xs.take i).map K++[K (ren x s)])) (y:=.lst ((xs.drop (i+1)).map K)) (ja0 (x:=.lst ((xs.take i).map K)) (y:=.lst [K (ren x s)]) (joz (x:=.lst (xs.map K)) rfl (lo:=none) rfl (jhe (i:=(i:Int)) rfl) (by rw[jye,c1])) rfl (jvj (by rw[zav,List.length_take];show _+1<=_;omega))) (joz (x:=.lst (xs.map K)) rfl (jhe (i:=(i:Int)+1) rfl) (hi:=none) rfl (by rw[jye,c2])) ?_);rw[jvj (by rw[zca,zav,zav,List.length_take,List.length_drop];show _+1+_<=_;omega)];rw[List.set_eq_take_append_cons_drop,if_pos il,List.map_append,List.map_cons,List.append_assoc];rfl
  unfold jc4;rw[jgq];unfold jey;rw[show some (D.lst (xs.map K))::some (D.int q)::List.replicate (5-2) none=δ none none none from rfl,jc6 s2,jc6 s3,jc6 s4,s5];rfl
 ·rcases hm with hm|hm
  ·rcases List.mem_append.mp hm with hm|hm
   ·obtain⟨k,y,q1,q2,q3⟩:=jmm hm;exact .inl ⟨k,y,by omega,q1,q3⟩
   ·rw[List.mem_singleton.mp hm];exact .inr zaa
  ·exact .inr hm
end
theorem jwv{n:Nat}{nms:List Str}{i:Nat}{s:Str}(h:NmT n nms)(hi:i<nms.length)(hs:(∃ k,k≠i/\nms[k]? = some s)\/s∈badL):NmF n (nms.set i s)/\nms≠nms.set i s:=by
 have hl:(nms.set i s).length=nms.length:=List.length_set;have gi:(nms.set i s)[i]? = some s:=zcz hi;have go:∀ {x},x∈nms.set i s->x=s\/x∈nms:=fun {x} hx=>(List.mem_or_eq_of_mem_set hx).symm
 rcases hs with ⟨k,hk,ek⟩|hs
 ·have hkl:=(zbb.mp ek).1;have sm:s∈nms:=List.mem_of_getElem? ek;have gk:(nms.set i s)[k]? = some s:=by rw[zbw (Ne.symm hk)];exact ek
  have ok:∀ x∈nms.set i s,jb2 [.str x]=some (.ok (.bl true)):=fun x hx=>by
   rcases go hx with rfl|hx
   ·exact h.ok _ sm
   ·exact h.ok x hx
  refine⟨?_,fun e=>?_⟩
  ·rcases Nat.lt_or_gt_of_ne hk with q|q
   ·exact .dup (by rw[hl];exact h.l1) (by rw[hl];exact h.ln) ok k i q (by rw[hl];exact hi) (by rw[gk,gi])
   ·exact .dup (by rw[hl];exact h.l1) (by rw[hl];exact h.ln) ok i k q (by rw[hl];exact hkl) (by rw[gk,gi])
  ·rw[<- e] at gi;have a1:=(zbb.mp gi).2;have a2:=(zbb.mp ek).2;exact hk ((List.getElem_inj h.nd).mp (a2.trans a1.symm))
 ·have no:=jya hs;have ns:s∉nms:=fun c=>by
   have:=h.ok s c;rw[no] at this;cases this
  refine⟨.bad (by rw[hl];exact h.l1) (by rw[hl];exact h.ln) (fun x=>!(x == s)) (fun x hx=>?_) s (List.mem_of_getElem? gi) (by show (!(s == s))=false;rw[beq_self_eq_true];rfl),fun e=>?_⟩
  ·rcases go hx with rfl|hx
   ·rw[no,beq_self_eq_true];rfl
   ·have:(x == s)=false:=by
     rw[beq_eq_false_iff_ne];intro z;rw[z] at hx;exact ns hx
    rw[this,h.ok x hx];rfl
  ·rw[<- e] at gi;exact ns (List.mem_of_getElem? gi)
theorem jjn{d0:D}{ds:List D}(hl:ds.length<=900)(q:Int)(d:D):jbm [.tup (d0::ds),.int q,d]=some (.ok (.tup (if q % 2=0 then ds else d0::ds++[d]))):=by
 have e2:=jau (i:=q) (j:=2) (by decide);have t0:t2 gEq (f2 gMod (fVar 1) (fC (.int 2))) (fC (.int 0)) [some (.tup (d0::ds)),some (.int q),some d]=some (.ok (q % 2 == 0)):=by
  simp only[stp,e2];rfl
 unfold jbm;rw[jk0];unfold jez;rw[show List.replicate (3-3) (none:Option D)=[] from rfl]
 by_cases h:q % 2=0
 ·rw[if_pos h];rw[show (q % 2 == 0)=true by rw[h];rfl] at t0;rw[w_rt (d:=.tup ds) (by
   rw[w_if t0,if_pos rfl];exact jdm (joz (x:=.tup (d0::ds)) rfl (jhe (i:=1) rfl) (hi:=none) rfl jpr))]
  rfl
 ·rw[if_neg h];rw[show (q % 2 == 0)=false by rw[beq_eq_false_iff_ne];exact h] at t0;rw[jn5 t0,jdm (ja0 (x:=.tup (d0::ds)) (y:=.tup [d]) rfl rfl (catE (by rw[List.length_cons];show _+1+1<=_;omega)))];rfl
end
noncomputable section
noncomputable def tA:DSt->MS Bool:=(lF (t2 gEq (fVar 3) (fC (.int 0))))
noncomputable def wA:DSt->MS Out:=(jen (lF (fVar 4)) (lF (fVar 5)) (lF (fL jb0 fNil)))
noncomputable def tB:DSt->MS Bool:=(lF (DL.tAnd (t2 gEq (fVar 3) (fC (.int 1))) (DL.tAnd (t2 gGt (fVar 5) (fC (.int 0))) (t2 gEq (f2 gMod (f2 jbn (fVar 2) (fC (.int 3))) (fC (.int 2))) (fC (.int 0))))))
noncomputable def wB:DSt->MS Out:=(eSeq (eSet 6 (mIxL (mIxL (lF (fVar 4)) (lF (fVar 5))) (lF (fC (.int 0))))) (eSeq (eFor (lF (je6 jb3 (jac (f2 gCat (fC (.int 7)) (f2 gMod (f2 jbn (fVar 2) (fC (.int 8))) (fC (.int 30)))) fNil))) (DL.gName 7) jdi) (jen (lF (fVar 4)) (lF (fVar 5)) (mSlL (mIxL (lF (fVar 4)) (lF (fVar 5))) (jfm (f1 gNeg (fC (.int 40)))) jgj))))
noncomputable def tC:DSt->MS Bool:=(lF (t2 gEq (fVar 3) (fC (.int 1))))
noncomputable def wC:DSt->MS Out:=(eSeq (eSet 9 (jdp jc3 (lF (jac (fVar 0) fNil)))) (eSeq (lF (jnj 9 (fVar 5) (f2 gIx (fL jb0 (jac (fC (.int 5)) (jac (fC (.int 6)) (jac (fC (.int 7)) fNil)))) (fVar 5)))) (lF (gRet (jax jcz (jac (fVar 0) (jac (fVar 9) fNil)))))))
noncomputable def tD:DSt->MS Bool:=(lF (t2 gLt (fVar 3) (fC (.int 5))))
noncomputable def wD:DSt->MS Out:=(jen (lF (fVar 4)) (lF (fVar 5)) (jik jc4 (jce (mIxL (lF (fVar 4)) (lF (fVar 5))) (lF (jac (f2 jbn (fVar 2) (fC (.int 3))) fNil)))))
noncomputable def tE:DSt->MS Bool:=(lF (t2 gEq (fVar 3) (fC (.int 5))))
noncomputable def wE:DSt->MS Out:=(eSeq (lF (gSet 10 (f2 gMod (f2 jbn (fVar 2) (fC (.int 3))) (fL kLen (jac (f2 gIx (fVar 1) (fC (.int 1))) fNil))))) (eSeq (lF (gSet 11 (f2 gIx (f2 gIx (fVar 1) (fC (.int 1))) (fVar 10)))) (jen (mIxL (lF (fVar 4)) (lF (fC (.int 1)))) (lF (fVar 10)) (lF (fL jb6 (jac (f2 gIx (fVar 11) (fC (.int 0))) (jac (jax jbm (jac (f2 gIx (fVar 11) (fC (.int 1))) (jac (f2 jbn (fVar 2) (fC (.int 64))) (jac (fC (.int 0)) fNil)))) (jac (f2 gIx (fVar 11) (fC (.int 2))) fNil))))))))
noncomputable def wF:DSt->MS Out:=(eSeq (lF (gSet 10 (f2 gMod (f2 jbn (fVar 2) (fC (.int 3))) (fL kLen (jac (f2 gIx (fVar 1) (fC (.int 2))) fNil))))) (eSeq (lF (gSet 12 (f2 gIx (f2 gIx (fVar 1) (fC (.int 2))) (fVar 10)))) (eSeq (jen (mIxL (lF (fVar 4)) (lF (fC (.int 2)))) (lF (fVar 10)) (lF (fL jb6 (jac (f2 gIx (fVar 12) (fC (.int 0))) (jac (f2 gCat (f2 gCat (f2 gIx (fVar 12) (fC (.int 2))) (fC (.int 1))) (f2 gMod (f2 jbn (fVar 2) (fC (.int 64))) (fC (.int 3)))) (jac (f2 gIx (fVar 12) (fC (.int 2))) (jac (f2 gIx (fVar 12) (fC (.int 3))) fNil))))))) (eIf (lF (t2 gEq (fVar 3) (fC (.int 6)))) (jen (mIxL (lF (fVar 4)) (lF (fC (.int 2)))) (lF (fVar 10)) (lF (f2 jh9 (fSl (fVar 12) jgj (jfm (fC (.int 3)))) (fL jb6 (jac (jax jbm (jac (f2 gIx (fVar 12) (fC (.int 3))) (jac (f2 jbn (fVar 2) (fC (.int 64))) (jac (fL jb6 (jac (fC (.int 0)) (jac (fC (.int 0)) fNil))) fNil)))) fNil))))) eNx))))
noncomputable def wR:DSt->MS Out:=(eRet (mL jb6 (jce (mIxL (lF (fVar 4)) (lF (fC (.int 0)))) (jce (mIxL (lF (fVar 4)) (lF (fC (.int 1)))) (jce (mIxL (lF (fVar 4)) (lF (fC (.int 2)))) (lF fNil))))))
noncomputable def wIF:DSt->MS Out:=eIf tA wA (eIf tB wB (eIf tC wC (eIf tD wD (eIf tE wE wF))))
noncomputable def wS0:DSt->MS Out:=(lF (gSet 3 (f2 gMod (fVar 2) (fC (.int 8)))))
noncomputable def wS1:DSt->MS Out:=(lF (gSet 2 (f2 jbn (fVar 2) (fC (.int 8)))))
noncomputable def wS2:DSt->MS Out:=(eSet 4 (jwe (jce (fun δ=>MS.b ((lF (jac (f2 gIx (fVar 1) (fC (.int 0))) fNil)) δ) jla) (jce (fun δ=>MS.b ((lF (jac (f2 gIx (fVar 1) (fC (.int 1))) fNil)) δ) jla) (jce (fun δ=>MS.b ((lF (jac (f2 gIx (fVar 1) (fC (.int 2))) fNil)) δ) jla) (lF fNil))))))
noncomputable def wS3:DSt->MS Out:=(lF (gSet 5 (f2 gMod (fVar 2) (fC (.int 3)))))
theorem jt3:jc8=eSeq wS0 (eSeq wS1 (eSeq wS2 (eSeq wS3 (eSeq wIF wR)))):=rfl
noncomputable abbrev w13(ns:List Int)(b:Bk)(q way:Int)(p:Nat)(x6 x7 x8 x9 x10 x11 x12:Option D):DSt:=[some (scr ns),some (bkD b),some (.int q),some (.int way),some (.obj 3),some (.int (p:Nat)),x6,x7,x8,x9,x10,x11,x12]
noncomputable abbrev w0(ns:List Int)(b:Bk)(q way:Int)(p:Nat):DSt:=w13 ns b q way p none none none none none none none
noncomputable abbrev S4(A B C l:List D):Sto:=[.lst A,.lst B,.lst C,.lst l]
noncomputable abbrev SB(b:Bk):Sto:=S4 (b.its.map itD) (b.rls.map rulD) (b.dds.map dedD) [.obj 0,.obj 1,.obj 2]
variable {ns:List Int}{b:Bk}{q way num:Int}{p:Nat}
theorem jr3(hp:num / 8 % 3=(p:Nat)):jc8 [some (scr ns),some (bkD b),some (.int num),none,none,none,none,none,none,none,none,none,none] []=eSeq wIF wR (w0 ns b (num / 8) (num % 8) p) (SB b):=by
 have e8:=jau (i:=num) (j:=8) (by decide);have f8:=jbe (i:=num) (j:=8) (by decide) (by decide);have e3:=jau (i:=num / 8) (j:=3) (by decide);rw[hp] at e3;rw[jt3];rw[eseq (δ':=[some (scr ns),some (bkD b),some (.int num),some (.int (num % 8)),none,none,none,none,none,none,none,none,none]) (g1:=wS0) (Ω':=[]) (lft (jd9 3 (ja0 (x:=.int num) (y:=.int 8) rfl rfl e8)))];rw[eseq (δ':=[some (scr ns),some (bkD b),some (.int (num / 8)),some (.int (num % 8)),none,none,none,none,none,none,none,none,none]) (g1:=wS1) (Ω':=[]) (lft (jd9 2 (ja0 (x:=.int num) (y:=.int 8) rfl rfl f8)))];rw[eseq (δ':=[some (scr ns),some (bkD b),some (.int (num / 8)),some (.int (num % 8)),some (.obj 3),none,none,none,none,none,none,none,none]) (Ω':=SB b) rfl];rw[eseq (δ':=w0 ns b (num / 8) (num % 8) p) (g1:=wS3) (Ω':=SB b) (lft (jd9 5 (ja0 (x:=.int (num / 8)) (y:=.int 3) rfl rfl e3)))]
inductive WOut(ns:List Int)(b:Bk)(num:Int):Prop
 | mk (b':Bk) (x0 x1 x2:D) (Ω':Sto) (h:jcp [scr ns,bkD b,.int num] []=some (.ok (.tup [x0,x1,x2]),Ω')) (w:Wr b' x0 x1 x2 Ω') (n:NB b') (l1:b'.its.length<=100) (l2:b'.rls.length<=100) (l3:b'.dds.length<=100)
theorem jDd{d:D}{Ω':Sto}(hp:num / 8 % 3=(p:Nat))(h:wIF (w0 ns b (num / 8) (num % 8) p) (SB b)=some (.ok (.rt d),Ω')):jcp [scr ns,bkD b,.int num] []=some (.ok d,Ω'):=by
 show MS.b (jc8 [some (scr ns),some (bkD b),some (.int num),none,none,none,none,none,none,none,none,none,none]) outE []=_;refine (MS.b_ok (a:=.rt d) (Ω1:=Ω') ?_).trans rfl;rw[jr3 hp,jv0 h]
theorem w_by{x6 x7 x8 x9 x10 x11 x12:Option D}{y0 y1 y2:D}{Ω':Sto}(hp:num / 8 % 3=(p:Nat))(h:wIF (w0 ns b (num / 8) (num % 8) p) (SB b)=some (.ok (.nx (w13 ns b (num / 8) (num % 8) p x6 x7 x8 x9 x10 x11 x12)),Ω'))(h3:Ω'[3]? = some (.lst [y0,y1,y2])):jcp [scr ns,bkD b,.int num] []=some (.ok (.tup [y0,y1,y2]),Ω'):=by
 show MS.b (jc8 [some (scr ns),some (bkD b),some (.int num),none,none,none,none,none,none,none,none,none,none]) outE []=_;refine (MS.b_ok (a:=.rt (.tup [y0,y1,y2])) (Ω1:=Ω') ?_).trans rfl;rw[jr3 hp,eseq h];unfold wR eRet;rw[MS.b_ok (js5 (d:=.tup [y0,y1,y2]) (jc2 (je3 (i:=3) (j:=0) (d:=y0) (lft rfl) (lft rfl) h3 rfl) (jc2 (je3 (i:=3) (j:=1) (d:=y1) (lft rfl) (lft rfl) h3 rfl) (jc2 (je3 (i:=3) (j:=2) (d:=y2) (lft rfl) (lft rfl) h3 rfl) (lft rfl)))) rfl)];rfl
theorem setp{fv:DSt->MS D}{y:D}{l:List D}{A B C:List D}{x6 x7 x8 x9 x10 x11 x12:Option D}(hl:l.length=3)(hp:p<3)(hv:fv (w13 ns b q way p x6 x7 x8 x9 x10 x11 x12) (S4 A B C l)=some (.ok y,S4 A B C l)):jen (lF (fVar 4)) (lF (fVar 5)) fv (w13 ns b q way p x6 x7 x8 x9 x10 x11 x12) (S4 A B C l)=some (.ok (.nx (w13 ns b q way p x6 x7 x8 x9 x10 x11 x12)),S4 A B C (l.set p y)) :=
 jhd (i:=3) hv (lft rfl) (lft rfl) rfl (by rw[hl];exact hp)
theorem jn2{α:Type}{xs:List α}{i:Nat}{x:α}(h:xs[i]? = some x):xs.set i x=xs:=by
 refine List.ext_getElem? fun j=>?_
 by_cases hj:i=j
 ·subst hj;rw[zcz (zbb.mp h).1,h]
 ·rw[zbw hj]
theorem GB.l1(hg:GB b):1<=b.its.length/\b.its.length<=4:=by have h1:=hg.its.l1;have h2:=hg.its.ln;rw[zav] at h1 h2;exact⟨h1,h2⟩
theorem GB.l2(hg:GB b):1<=b.rls.length/\b.rls.length<=5:=by have h1:=hg.rls.l1;have h2:=hg.rls.ln;rw[zav] at h1 h2;exact⟨h1,h2⟩
theorem GB.l3(hg:GB b):1<=b.dds.length/\b.dds.length<=6:=by have h1:=hg.dds.l1;have h2:=hg.dds.ln;rw[zav] at h1 h2;exact⟨h1,h2⟩
theorem way0(hg:GB b)(hp:num / 8 % 3=(p:Nat))(pl:p<3)(hw:num % 8=0):WOut ns b num:=by
 have l1:=hg.l1;have l2:=hg.l2;have l3:=hg.l3;have e:wIF (w0 ns b (num / 8) (num % 8) p) (SB b)=some (.ok (.nx (w0 ns b (num / 8) (num % 8) p)),S4 (b.its.map itD) (b.rls.map rulD) (b.dds.map dedD) ([D.obj 0,.obj 1,.obj 2].set p (.lst []))):=by
  rw[hw];unfold wIF;rw[eif (c:=true) (Ω':=SB b) rfl,if_pos rfl];unfold wA;exact setp rfl pl (lft rfl)
 match p,pl with
 | 0,_=>exact⟨⟨[],b.rls,b.dds⟩,.lst [],.obj 1,.obj 2,_,w_by hp e rfl,⟨rfl,rfl,rfl⟩,.its (.size (.inl Nat.zero_lt_one)),Nat.zero_le _,by show b.rls.length<=100;omega,by show b.dds.length<=100;omega⟩
 | 1,_=>exact⟨⟨b.its,[],b.dds⟩,.obj 0,.lst [],.obj 2,_,w_by hp e rfl,⟨rfl,rfl,rfl⟩,.rls hg.its (.size (.inl Nat.zero_lt_one)),by show b.its.length<=100;omega,Nat.zero_le _,by show b.dds.length<=100;omega⟩
 | 2,_=>exact⟨⟨b.its,b.rls,[]⟩,.obj 0,.obj 1,.lst [],_,w_by hp e rfl,⟨rfl,rfl,rfl⟩,.dds hg.its hg.rls hg.cs (.size (.inl Nat.zero_lt_one)),by show b.its.length<=100;omega,by show b.rls.length<=100;omega,Nat.zero_le _⟩
theorem jxo{Ω:Sto}:tB (w0 ns b q way p) Ω=some (.ok ((way == 1)&&(decide (((p:Nat):Int) > 0)&&(q / 3 % 2 == 0))),Ω):=by
 have f3:=jbe (i:=q) (j:=3) (by decide) (by decide);have e2:=jau (i:=q / 3) (j:=2) (by decide);unfold tB;exact lft (jrw rfl (jrw rfl (by simp only[stp,f3,e2];rfl)))
theorem if_D(h2:(way == 0)=false)(h3:(way == 1)=false)(h4:decide (way<5)=true){Ω:Sto}:wIF (w0 ns b q way p) Ω=wD (w0 ns b q way p) Ω:=by
 have a:tA (w0 ns b q way p) Ω=some (.ok false,Ω):=by unfold tA;exact lft (by rw[<- h2];rfl)
 have c:tB (w0 ns b q way p) Ω=some (.ok false,Ω):=by rw[jxo,h3];rfl
 have d:tC (w0 ns b q way p) Ω=some (.ok false,Ω):=by unfold tC;exact lft (by rw[<- h3];rfl)
 have e:tD (w0 ns b q way p) Ω=some (.ok true,Ω):=by unfold tD;exact lft (by rw[<- h4];rfl)
 unfold wIF;rw[eif a,if_neg (by decide),eif c,if_neg (by decide),eif d,if_neg (by decide),eif e,if_pos rfl]
theorem if_E{x:Bool}(h2:(way == 0)=false)(h3:(way == 1)=false)(h4:decide (way<5)=false)(h5:(way == 5)=x){Ω:Sto}:wIF (w0 ns b q way p) Ω=if x=true then wE (w0 ns b q way p) Ω else wF (w0 ns b q way p) Ω:=by
 have a:tA (w0 ns b q way p) Ω=some (.ok false,Ω):=by unfold tA;exact lft (by rw[<- h2];rfl)
 have c:tB (w0 ns b q way p) Ω=some (.ok false,Ω):=by rw[jxo,h3];rfl
 have d:tC (w0 ns b q way p) Ω=some (.ok false,Ω):=by unfold tC;exact lft (by rw[<- h3];rfl)
 have e:tD (w0 ns b q way p) Ω=some (.ok false,Ω):=by unfold tD;exact lft (by rw[<- h4];rfl)
 have f:tE (w0 ns b q way p) Ω=some (.ok x,Ω):=by unfold tE;exact lft (by rw[<- h5];rfl)
 unfold wIF;rw[eif a,if_neg (by decide),eif c,if_neg (by decide),eif d,if_neg (by decide),eif e,if_neg (by decide),eif f]
theorem jsb{m:List D->M D}{fl:DSt->MS (List D)}{δ:DSt}{Ω:Sto}{i:Nat}{j:Int}{a es:List D}(hf:fl δ Ω=some (.ok [.obj i,.int j],Ω))(hi:Ω[i]? = some (.lst a))(hm:m [.lst a,.int j]=some (.ok (.lst es)))(oa:okDs a=true)(oe:okDs es=true)(pe:plL es=true)(ne:a≠es):jik m fl δ Ω=some (.ok (.lst es),Ω):=by
 unfold jik;rw[hf];dsimp only;rw[hi];dsimp only;rw[hm];dsimp only;rw[if_pos ⟨oa,oe,pe,ne⟩]
theorem jnv{α:Type}{f:α->D}:∀ {xs:List α},(∀ x,plD (f x)=true)->plL (xs.map f)=true
 | [],_=>by unfold plL;rfl
 | x::xs,h=>by rw[List.map_cons];unfold plL;rw[h x,jnv h];rfl
theorem jw9(cs:List Int):plL (cs.map D.int)=true:=jnv fun x=>by unfold plD;rfl
theorem jCo(p:Str×Int):plD (itD p)=true:=by unfold itD;simp only[plD,plL];rfl
theorem jAk(r:Rul):plD (rulD r)=true:=by unfold rulD;simp only[plD,plL,jw9];rfl
theorem jAi(d:Ded):plD (dedD d)=true:=by
 have:plL (d.chs.map chD)=true:=jnv fun x=>by unfold chD;simp only[plD,plL];rfl
 unfold dedD;simp only[plD,plL,this];rfl
theorem jmz{α:Type}{f:α->Str}{K:α->D}{tl:α->List D}{ren:α->Str->α}(hK:∀ x,K x=.tup (.str (f x)::tl x))(hr:∀ x s,K (ren x s)=.tup (.str s::tl x))(hf:∀ x s,f (ren x s)=s)(ht:∀ x,(tl x).length<=100)(ok:∀ x,okD (K x)=true)(pk:∀ x,plD (K x)=true){n:Nat}(hn:n<=100){xs:List α}(hN:NmT n (xs.map f)){A B C:List D}(pl:p<3)(hx:(S4 A B C [.obj 0,.obj 1,.obj 2])[p]? = some (.lst (xs.map K)))(ha:atI [D.obj 0,.obj 1,.obj 2] (p:Int)=some (.obj p)) :
  ∃ ys:List α,wD (w0 ns b q way p) (S4 A B C [.obj 0,.obj 1,.obj 2])=some (.ok (.nx (w0 ns b q way p)),S4 A B C ([D.obj 0,.obj 1,.obj 2].set p (.lst (ys.map K))))/\NmF n (ys.map f)/\ys.length=xs.length:=by
 have l1:=hN.l1;have ln:=hN.ln;rw[zav] at l1 ln;have f3:=jbe (i:=q) (j:=3) (by decide) (by decide);obtain⟨i,x,s,hi,hm,hs⟩:=jou (ren:=ren) hK hr ht (xs:=xs) l1 (by omega) (q / 3);have il:=(zbb.mp hi).1;obtain⟨nf,ne⟩:=jwv hN (i:=i) (s:=s) (by rw[zav];exact il) (hs.imp (fun ⟨k,y,h1,h2,h3⟩=>⟨k,h1,by rw[zba,h2,<- h3];rfl⟩) id);have en:(xs.set i (ren x s)).map f=(xs.map f).set i s:=by rw[List.map_set,hf]
 refine⟨xs.set i (ren x s),?_,by rw[en];exact nf,List.length_set⟩;unfold wD;refine setp rfl pl (jsb (i:=p) (j:=q / 3) (a:=xs.map K) (jc2 (je3 (i:=3) (j:=(p:Int)) (lft rfl) (lft rfl) rfl ha) (lft (ja6 (ja0 (x:=.int q) (y:=.int 3) rfl rfl f3) rfl))) hx hm (jeh fun x _=>ok x) (jeh fun x _=>ok x) (jnv pk) fun e=>ne ?_);have e2:(xs.map K).map (fun d=>gIx d (.int 0))=((xs.set i (ren x s)).map K).map (fun d=>gIx d (.int 0)):=by rw[<- e]
 rw[List.map_map,List.map_map] at e2;have e3:∀ zs:List α,zs.map ((fun d=>gIx d (.int 0)) ∘ K)=(zs.map f).map fun s=>some (D.str s):=fun zs=>by
  rw[List.map_map];exact List.map_congr_left fun z _=>by
   show gIx (K z) (.int 0)=some (.str (f z));rw[hK,ix_t,at0]
 rw[e3,e3,en] at e2;exact List.map_inj_right (fun a b h=>by cases h;rfl) |>.mp e2
theorem wayD(hg:GB b)(hp:num / 8 % 3=(p:Nat))(pl:p<3)(h2:(num % 8 == 0)=false)(h3:(num % 8 == 1)=false)(h4:decide (num % 8<5)=true):WOut ns b num:=by
 have l1:=hg.l1;have l2:=hg.l2;have l3:=hg.l3
 match p,pl with
 | 0,pl =>
  obtain⟨ys,e,nf,ln⟩:=jmz (ns:=ns) (b:=b) (q:=num / 8) (way:=num % 8) (K:=itD) (f:=fun p=>p.1) (tl:=fun p=>[.int p.2]) (ren:=fun p s=>(s,p.2)) (fun _=>rfl) (fun _ _=>rfl) (fun _ _=>rfl) (fun _=>by show 1<=100;decide) (fun x=>by unfold itD;rfl) jCo (by decide) hg.its (A:=b.its.map itD) (B:=b.rls.map rulD) (C:=b.dds.map dedD) pl rfl rfl;exact⟨⟨ys,b.rls,b.dds⟩,.lst (ys.map itD),.obj 1,.obj 2,_,w_by hp (by rw[if_D h2 h3 h4];exact e) rfl,⟨rfl,rfl,rfl⟩,.its nf,by show ys.length<=100;omega,by show b.rls.length<=100;omega,by show b.dds.length<=100;omega⟩
 | 1,pl =>
  obtain⟨ys,e,nf,ln⟩:=jmz (ns:=ns) (b:=b) (q:=num / 8) (way:=num % 8) (K:=rulD) (f:=fun r=>r.nm) (tl:=fun r=>[.tup (r.cs.map .int),.int r.rest]) (ren:=fun r s=>⟨s,r.cs,r.rest⟩) (fun _=>rfl) (fun _ _=>rfl) (fun _ _=>rfl) (fun _=>by show 2<=100;decide) juw jAk (by decide) hg.rls (A:=b.its.map itD) (B:=b.rls.map rulD) (C:=b.dds.map dedD) pl rfl rfl;exact⟨⟨b.its,ys,b.dds⟩,.obj 0,.lst (ys.map rulD),.obj 2,_,w_by hp (by rw[if_D h2 h3 h4];exact e) rfl,⟨rfl,rfl,rfl⟩,.rls hg.its nf,by show b.its.length<=100;omega,by show ys.length<=100;omega,by show b.dds.length<=100;omega⟩
 | 2,pl =>
  obtain⟨ys,e,nf,ln⟩:=jmz (ns:=ns) (b:=b) (q:=num / 8) (way:=num % 8) (K:=dedD) (f:=fun d=>d.nm) (tl:=fun d=>[.int d.lo,.int d.hi,.tup (d.chs.map chD)]) (ren:=fun d s=>⟨s,d.lo,d.hi,d.chs⟩) (fun _=>rfl) (fun _ _=>rfl) (fun _ _=>rfl) (fun _=>by show 3<=100;decide) juu jAi (by decide) hg.dds (A:=b.its.map itD) (B:=b.rls.map rulD) (C:=b.dds.map dedD) pl rfl rfl;exact⟨⟨b.its,b.rls,ys⟩,.obj 0,.obj 1,.lst (ys.map dedD),_,w_by hp (by rw[if_D h2 h3 h4];exact e) rfl,⟨rfl,rfl,rfl⟩,.dds hg.its hg.rls hg.cs nf,by show b.its.length<=100;omega,by show b.rls.length<=100;omega,by show ys.length<=100;omega⟩
theorem ixr{i:Nat}{r:Rul}(h:b.rls[i]? = some r):gIx (rlsD b) (.int (i:Nat))=some (rulD r):=by rw[ix_l];exact atI_get (by rw[zba,h];rfl)
theorem ixd{i:Nat}{d:Ded}(h:b.dds[i]? = some d):gIx (ddsD b) (.int (i:Nat))=some (dedD d):=by rw[ix_l];exact atI_get (by rw[zba,h];rfl)
theorem jup{α:Type}{K:α->D}{xs:List α}:kLen [.lst (xs.map K)]=some (.int (xs.length:Nat)):=by
 rw[jzi,zav]
theorem way5(hg:GB b)(hp:num / 8 % 3=(p:Nat))(pl:p<3)(hw:num % 8=5):WOut ns b num:=by
 have l1:=hg.l1;have l2:=hg.l2;have l3:=hg.l3;generalize hq:num / 8=q at hp;obtain⟨i,hi,il⟩:=jfl (q:=q / 3) (n:=b.rls.length) (by omega);have f3:=jbe (i:=q) (j:=3) (by decide) (by decide);have f64:=jbe (i:=q) (j:=64) (by decide) (by decide);have em:=jau (i:=q / 3) (j:=(b.rls.length:Nat)) (by omega);rw[hi] at em;have hr:b.rls[i]? = some b.rls[i]:=zax il;have rm:b.rls[i]∈b.rls:=List.getElem_mem il;generalize b.rls[i]=r at hr rm;have cl:=hg.cs r rm;obtain⟨c0,cs0,hcs⟩:∃ c0 cs0,r.cs=c0::cs0:=by
  cases h:r.cs with
  | nil=>rw[h] at cl;have:0=b.its.length:=cl;omega
  | cons c0 cs0=>exact⟨c0,cs0,rfl⟩
 have cl0:cs0.length+1=b.its.length:=by rw[hcs] at cl;exact cl
 have rz:=jjn (d0:=.int c0) (ds:=cs0.map .int) (by rw[zav];omega) (q / 64) (.int 0)
 let cs':List Int:=if q / 64 % 2=0 then cs0 else c0::cs0++[0]
 have ecs:(if q / 64 % 2=0 then cs0.map D.int else .int c0::cs0.map .int++[.int 0])=cs'.map .int:=by
  show _=List.map D.int (if q / 64 % 2=0 then cs0 else c0::cs0++[0])
  split
  ·rfl
  ·rw[List.map_append];rfl
 rw[ecs] at rz;have hlen:cs'.length≠b.its.length:=by
  show (if q / 64 % 2=0 then cs0 else c0::cs0++[0]).length≠_
  split
  ·omega
  ·rw[zca,List.length_cons];show cs0.length+1+1≠_;omega
 let r':Rul:=⟨r.nm,cs',r.rest⟩
 have e:wIF (w0 ns b q 5 p) (SB b)=some (.ok (.nx (w13 ns b q 5 p none none none none (some (.int (i:Nat))) (some (rulD r)) none)),S4 (b.its.map itD) ((b.rls.set i r').map rulD) (b.dds.map dedD) [.obj 0,.obj 1,.obj 2]):=by
  rw[if_E (x:=true) rfl rfl rfl rfl,if_pos rfl];unfold wE;rw[eseq (δ':=w13 ns b q 5 p none none none none (some (.int (i:Nat))) none none) (Ω':=SB b) (lft (jd9 10 (ja0 (ja0 (x:=.int q) (y:=.int 3) rfl rfl f3) (jg7 (ja6 (ja0 (x:=bkD b) (y:=.int 1) (d:=rlsD b) rfl rfl rfl) rfl) jup) em)))];rw[eseq (δ':=w13 ns b q 5 p none none none none (some (.int (i:Nat))) (some (rulD r)) none) (Ω':=SB b) (lft (jd9 11 (ja0 (ja0 (x:=bkD b) (y:=.int 1) (d:=rlsD b) rfl rfl rfl) (y:=.int (i:Nat)) rfl (ixr hr))))];rw[jhd (i:=1) (j:=i) (ds:=b.rls.map rulD) (d:=rulD r') (lft (jg7 (ja6 (ja0 (x:=rulD r) (y:=.int 0) rfl rfl (rl0 r)) (ja6 (jj4 (ja6 (x:=.tup (.int c0::cs0.map .int)) (ja0 (x:=rulD r) (y:=.int 1) rfl rfl (by rw[rl1,hcs];rfl)) (ja6 (ja0 (x:=.int q) (y:=.int 64) rfl rfl f64) (ja6 (x:=.int 0) rfl rfl))) rz) (ja6 (ja0 (x:=rulD r) (y:=.int 2) rfl rfl (rl2 r)) rfl))) rfl)) (je3 (i:=3) (j:=1) (lft rfl) (lft rfl) rfl rfl) (lft rfl) rfl (by rw[zav];exact il)];rw[List.map_set];rfl
 have nmE:(b.rls.set i r').map (·.nm)=b.rls.map (·.nm):=by
  rw[List.map_set];exact jn2 (by rw[zba,hr];rfl)
 refine⟨⟨b.its,b.rls.set i r',b.dds⟩,.obj 0,.obj 1,.obj 2,_,w_by (p:=p) (by rw[hq];exact hp) (by rw[hq,hw];exact e) rfl,⟨rfl,rfl,rfl⟩,.cs hg.its (by rw[nmE];exact hg.rls) r' (List.mem_set il r') hlen,by show b.its.length<=100;omega,by show (b.rls.set i r').length<=100;rw[List.length_set];omega,by show b.dds.length<=100;omega⟩
end
noncomputable section
variable {ns:List Int}{b:Bk}{q way num:Int}{p:Nat}
theorem jyf(a c d e:D):cutD (.tup [a,c,d,e]) none (some 3)=some (.tup [a,c,d]):=rfl
theorem dd2(d:Ded):gIx (dedD d) (.int 2)=some (.int d.hi):=rfl
theorem dd3(d:Ded):gIx (dedD d) (.int 3)=some (.tup (d.chs.map chD)):=rfl
theorem wayF(hg:GB b)(hp:num / 8 % 3=(p:Nat))(pl:p<3)(hw:num % 8=6\/num % 8=7):WOut ns b num:=by
 have l1:=hg.l1;have l2:=hg.l2;have l3:=hg.l3;generalize hq:num / 8=q at hp;obtain⟨i,hi,il⟩:=jfl (q:=q / 3) (n:=b.dds.length) (by omega);have f3:=jbe (i:=q) (j:=3) (by decide) (by decide);have f64:=jbe (i:=q) (j:=64) (by decide) (by decide);have m3:=jau (i:=q / 64) (j:=3) (by decide);have x3:=md (i:=q / 64) (j:=3) (by decide);have em:=jau (i:=q / 3) (j:=(b.dds.length:Nat)) (by omega);rw[hi] at em;have hr:b.dds[i]? = some b.dds[i]:=zax il;have rm:b.dds[i]∈b.dds:=List.getElem_mem il;generalize b.dds[i]=d at hr rm;have cl:=(hg.ch d rm).1;obtain⟨c0,cs0,hcs⟩:∃ c0 cs0,d.chs=c0::cs0:=by
  cases h:d.chs with
  | nil=>rw[h] at cl;have:0=b.its.length:=cl;omega
  | cons c0 cs0=>exact⟨c0,cs0,rfl⟩
 have cl0:cs0.length+1=b.its.length:=by rw[hcs] at cl;exact cl
 let d1:Ded:=⟨d.nm,d.hi+1+q / 64 % 3,d.hi,d.chs⟩
 have s1:∀ way:Int,jen (mIxL (lF (fVar 4)) (lF (fC (.int 2)))) (lF (fVar 10)) (lF (fL jb6 (jac (f2 gIx (fVar 12) (fC (.int 0))) (jac (f2 gCat (f2 gCat (f2 gIx (fVar 12) (fC (.int 2))) (fC (.int 1))) (f2 gMod (f2 jbn (fVar 2) (fC (.int 64))) (fC (.int 3)))) (jac (f2 gIx (fVar 12) (fC (.int 2))) (jac (f2 gIx (fVar 12) (fC (.int 3))) fNil)))))) (w13 ns b q way p none none none none (some (.int (i:Nat))) none (some (dedD d))) (SB b)=some (.ok (.nx (w13 ns b q way p none none none none (some (.int (i:Nat))) none (some (dedD d)))),S4 (b.its.map itD) (b.rls.map rulD) ((b.dds.set i d1).map dedD) [.obj 0,.obj 1,.obj 2]):=fun way=>by
  rw[jhd (i:=2) (j:=i) (ds:=b.dds.map dedD) (d:=dedD d1) (lft (jg7 (ja6 (ja0 (x:=dedD d) (y:=.int 0) rfl rfl (dd0 d)) (ja6 (x:=.int (d.hi+1+q / 64 % 3)) (ja0 (x:=.int (d.hi+1)) (y:=.int (q / 64 % 3)) (ja0 (x:=.int d.hi) (y:=.int 1) (ja0 (x:=dedD d) (y:=.int 2) rfl rfl (dd2 d)) rfl rfl) (ja0 (ja0 (x:=.int q) (y:=.int 64) rfl rfl f64) (y:=.int 3) rfl m3) rfl) (ja6 (ja0 (x:=dedD d) (y:=.int 2) rfl rfl (dd2 d)) (ja6 (ja0 (x:=dedD d) (y:=.int 3) rfl rfl (dd3 d)) rfl)))) rfl)) (je3 (i:=3) (j:=2) (lft rfl) (lft rfl) rfl rfl) (lft rfl) rfl (by rw[zav];exact il)];rw[List.map_set];rfl
 have go:∀ {way:Int} {Ω':Sto},(way == 0)=false->(way == 1)=false->decide (way<5)=false->(way == 5)=false->eIf (lF (t2 gEq (fVar 3) (fC (.int 6)))) (jen (mIxL (lF (fVar 4)) (lF (fC (.int 2)))) (lF (fVar 10)) (lF (f2 jh9 (fSl (fVar 12) jgj (jfm (fC (.int 3)))) (fL jb6 (jac (jax jbm (jac (f2 gIx (fVar 12) (fC (.int 3))) (jac (f2 jbn (fVar 2) (fC (.int 64))) (jac (fL jb6 (jac (fC (.int 0)) (jac (fC (.int 0)) fNil))) fNil)))) fNil))))) eNx (w13 ns b q way p none none none none (some (.int (i:Nat))) none (some (dedD d))) (S4 (b.its.map itD) (b.rls.map rulD) ((b.dds.set i d1).map dedD) [.obj 0,.obj 1,.obj 2])=some (.ok (.nx (w13 ns b q way p none none none none (some (.int (i:Nat))) none (some (dedD d)))),Ω') ->
   wIF (w0 ns b q way p) (SB b)=some (.ok (.nx (w13 ns b q way p none none none none (some (.int (i:Nat))) none (some (dedD d)))),Ω'):=fun {way Ω'} h0 h1 h5 h55 h=>by
  rw[if_E (x:=false) h0 h1 h5 h55,if_neg (by decide)];unfold wF;rw[eseq (δ':=w13 ns b q way p none none none none (some (.int (i:Nat))) none none) (Ω':=SB b) (lft (jd9 10 (ja0 (ja0 (x:=.int q) (y:=.int 3) rfl rfl f3) (jg7 (ja6 (ja0 (x:=bkD b) (y:=.int 2) (d:=ddsD b) rfl rfl rfl) rfl) jup) em)))];rw[eseq (δ':=w13 ns b q way p none none none none (some (.int (i:Nat))) none (some (dedD d))) (Ω':=SB b) (lft (jd9 12 (ja0 (ja0 (x:=bkD b) (y:=.int 2) (d:=ddsD b) rfl rfl rfl) (y:=.int (i:Nat)) rfl (ixd hr))))];rw[eseq (s1 way)];exact h
 have nmE:∀ d':Ded,d'.nm=d.nm->(b.dds.set i d').map (·.nm)=b.dds.map (·.nm):=fun d' h=>by
  rw[List.map_set];exact jn2 (by rw[zba,hr];show some d.nm=some d'.nm;rw[h])
 have fin:∀ {way:Int} {d':Ded},num % 8=way->d'.nm=d.nm->(d'.chs.length≠b.its.length\/d'.hi<d'.lo)->wIF (w0 ns b q way p) (SB b)=some (.ok (.nx (w13 ns b q way p none none none none (some (.int (i:Nat))) none (some (dedD d)))),S4 (b.its.map itD) (b.rls.map rulD) ((b.dds.set i d').map dedD) [.obj 0,.obj 1,.obj 2])->WOut ns b num:=fun {way d'} hw hn w e =>
  ⟨⟨b.its,b.rls,b.dds.set i d'⟩,.obj 0,.obj 1,.obj 2,_,w_by (p:=p) (by rw[hq];exact hp) (by rw[hq,hw];exact e) rfl,⟨rfl,rfl,rfl⟩,.ch hg.its hg.rls hg.cs (by rw[nmE d' hn];exact hg.dds) d' (List.mem_set il d') w,by show b.its.length<=100;omega,by show b.rls.length<=100;omega,by show (b.dds.set i d').length<=100;rw[List.length_set];omega⟩
 rcases hw with hw|hw
 ·have rz:=jjn (d0:=chD c0) (ds:=cs0.map chD) (by rw[zav];omega) (q / 64) (.tup [.int 0,.int 0])
  let cs':List (Int×Int):=if q / 64 % 2=0 then cs0 else c0::cs0++[(0,0)]
  have ecs:(if q / 64 % 2=0 then cs0.map chD else chD c0::cs0.map chD++[.tup [.int 0,.int 0]])=cs'.map chD:=by
   show _=List.map chD (if q / 64 % 2=0 then cs0 else c0::cs0++[(0,0)])
   split
   ·rfl
   ·rw[List.map_append];rfl
  rw[ecs] at rz;have hlen:cs'.length≠b.its.length:=by
   show (if q / 64 % 2=0 then cs0 else c0::cs0++[(0,0)]).length≠_
   split
   ·omega
   ·rw[zca,List.length_cons];show cs0.length+1+1≠_;omega
  let d2:Ded:=⟨d.nm,d.lo,d.hi,cs'⟩
  refine fin (d':=d2) hw rfl (.inl hlen) (go rfl rfl rfl rfl ?_);rw[eif (c:=true) (Ω':=S4 (b.its.map itD) (b.rls.map rulD) ((b.dds.set i d1).map dedD) [.obj 0,.obj 1,.obj 2]) rfl,if_pos rfl];rw[jhd (i:=2) (j:=i) (ds:=(b.dds.set i d1).map dedD) (d:=dedD d2) (lft (ja0 (x:=.tup [.str d.nm,.int d.lo,.int d.hi]) (y:=.tup [.tup (cs'.map chD)]) (joz (x:=dedD d) rfl (lo:=none) rfl (jhe (i:=3) rfl) (jyf _ _ _ _)) (jg7 (ja6 (jj4 (ja6 (x:=.tup (chD c0::cs0.map chD)) (ja0 (x:=dedD d) (y:=.int 3) rfl rfl (by rw[dd3,hcs];rfl)) (ja6 (ja0 (x:=.int q) (y:=.int 64) rfl rfl f64) (ja6 (x:=.tup [.int 0,.int 0]) rfl rfl))) rz) rfl) rfl) rfl)) (je3 (i:=3) (j:=2) (lft rfl) (lft rfl) rfl rfl) (lft rfl) rfl (by rw[zav,List.length_set];exact il)];rw[List.map_set,List.map_set,List.set_set];rfl
 ·refine fin (d':=d1) hw rfl (.inr (by show d.hi<d.hi+1+q / 64 % 3;have:0<=q / 64 % 3:=x3.1;omega)) (go rfl rfl rfl rfl ?_);rw[eif (c:=false) (Ω':=S4 (b.its.map itD) (b.rls.map rulD) ((b.dds.set i d1).map dedD) [.obj 0,.obj 1,.obj 2]) rfl,if_neg (by decide)];rfl
theorem jof(ns:List Int)(Ω:Sto):∃ a b c:Nat,jc3 [scr ns] Ω=some (.ok (.lst [.int (a:Nat),.int (b:Nat),.int (c:Nat)]),Ω)/\(1<=a/\a<=4)/\(1<=b/\b<=5)/\(1<=c/\c<=6):=by
 have c0:=w_at (ns:=ns) (k:=0) (by decide) (by decide);have mx:=jo3 (n:=atF ns 0) (p:=1) (by decide) (by decide);generalize mixF (atF ns 0) 1=m at mx;have e1:=jau (i:=m) (j:=4) (by decide);have f1:=jbe (i:=m) (j:=4) (by decide) (by decide);have e2:=jau (i:=m / 4) (j:=5) (by decide);have f2':=jbe (i:=m) (j:=20) (by decide) (by decide);have e3:=jau (i:=m / 20) (j:=6) (by decide);obtain⟨a,ha,al⟩:=jfl (q:=m) (n:=4) (by decide);obtain⟨b,hb,bl⟩:=jfl (q:=m / 4) (n:=5) (by decide);obtain⟨c,hc,cl⟩:=jfl (q:=m / 20) (n:=6) (by decide);have ha':m % 4=(a:Int):=ha;have hb':m / 4 % 5=(b:Int):=hb;have hc':m / 20 % 6=(c:Int):=hc;refine⟨1+a,1+b,1+c,?_,by omega,by omega,by omega⟩;have s1:lF (gSet 1 (jax jbl (jac (jax jbw (jac (fVar 0) (jac (fC (.int 0)) fNil))) (jac (fC (.int 1)) fNil)))) [some (scr ns),none] Ω=some (.ok (.nx [some (scr ns),some (.int m)]),Ω):=lft (jd9 1 (by simp only[stp,c0,mx]));have s2:lF (jac (f2 gCat (fC (.int 1)) (f2 gMod (fVar 1) (fC (.int 4)))) (jac (f2 gCat (fC (.int 1)) (f2 gMod (f2 jbn (fVar 1) (fC (.int 4))) (fC (.int 5)))) (jac (f2 gCat (fC (.int 1)) (f2 gMod (f2 jbn (fVar 1) (fC (.int 20))) (fC (.int 6)))) fNil))) [some (scr ns),some (.int m)] Ω=some (.ok [.int (1+m % 4),.int (1+m / 4 % 5),.int (1+m / 20 % 6)],Ω):=lft (by simp only[stp,e1,f1,e2,f2',e3];rfl);unfold jc3 mirL;rw[if_pos (show [scr ns].length=1 from rfl)];rw[show startD 2 [scr ns]=[some (scr ns),none] from rfl,s1];unfold jto;dsimp only;rw[s2];dsimp only;rw[if_pos (show [D.int (1+m % 4),D.int (1+m / 4 % 5),D.int (1+m / 20 % 6)].length<=sizeLine by show 3<=sizeLine;decide),ha',hb',hc',Int.natCast_add,Int.natCast_add,Int.natCast_add];rfl
theorem jy7{x y z:Nat}(hb:BkOk x y z b)(hx:1<=x/\x<=4):NmT 4 (b.its.map (·.1)):=by
 obtain⟨m,h⟩:=hb.im;exact jle h (by rw[hb.i4];exact hx.1) (by rw[hb.i4];exact hx.2) (by decide)
theorem jCr{x y z:Nat}(hb:BkOk x y z b)(hy:1<=y/\y<=5):NmT 5 (b.rls.map (·.nm)):=by
 obtain⟨m,h⟩:=hb.rl;exact jle (fun i r k=>(h i r k).nm) (by rw[hb.r5];exact hy.1) (by rw[hb.r5];exact hy.2) (by decide)
theorem jyd{x y z:Nat}(hb:BkOk x y z b):∀ r∈b.rls,r.cs.length=b.its.length:=fun r hr=>by
 obtain⟨m,h⟩:=hb.rl;obtain⟨i,hi⟩:=List.getElem?_of_mem hr;exact (h i r hi).len
theorem if_B{x:Bool}(h:(decide (((p:Nat):Int) > 0)&&(q / 3 % 2 == 0))=x){Ω:Sto}:wIF (w0 ns b q 1 p) Ω=if x=true then wB (w0 ns b q 1 p) Ω else wC (w0 ns b q 1 p) Ω:=by
 have a:tA (w0 ns b q 1 p) Ω=some (.ok false,Ω):=rfl;have c:tB (w0 ns b q 1 p) Ω=some (.ok x,Ω):=by rw[jxo,h];rfl
 have d:tC (w0 ns b q 1 p) Ω=some (.ok true,Ω):=rfl;unfold wIF;rw[eif a,if_neg (by decide),eif c];cases x
 ·rw[if_neg (by decide),if_neg (by decide),eif d,if_pos rfl]
 ·rfl
theorem jDf(hg:GB b)(hp:num / 8 % 3=(p:Nat))(pl:p<3)(hw:num % 8=1)(hx:(decide (((p:Nat):Int) > 0)&&(num / 8 / 3 % 2 == 0))=false):WOut ns b num:=by
 obtain⟨x,y,z,hc,rx,ry,rz⟩:=jof ns (SB b);have go:∀ {x' y' z':Nat} {b':Bk},lF (jnj 9 (fVar 5) (f2 gIx (fL jb0 (jac (fC (.int 5)) (jac (fC (.int 6)) (jac (fC (.int 7)) fNil)))) (fVar 5))) (w13 ns b (num / 8) 1 p none none none (some (.lst [.int (x:Nat),.int (y:Nat),.int (z:Nat)])) none none none) (SB b)=some (.ok (.nx (w13 ns b (num / 8) 1 p none none none (some (.lst [.int (x':Nat),.int (y':Nat),.int (z':Nat)])) none none none)),SB b)->jcz [scr ns,.lst [.int (x':Nat),.int (y':Nat),.int (z':Nat)]]=some (.ok (bkD b'))->jcp [scr ns,bkD b,.int num] []=some (.ok (bkD b'),SB b):=fun {x' y' z' b'} h1 h2=>by
  refine jDd hp ?_;rw[hw,if_B hx,if_neg (by decide)];unfold wC;rw[eseq (δ':=w13 ns b (num / 8) 1 p none none none (some (.lst [.int (x:Nat),.int (y:Nat),.int (z:Nat)])) none none none) (Ω':=SB b) (eset (by
   unfold jdp;rw[MS.b_ok (a:=[scr ns]) (Ω1:=SB b) (lft rfl)];exact hc)),eseq h1]
  exact lft (jdm (jj4 (ja6 (x:=scr ns) rfl (ja6 (x:=.lst [.int (x':Nat),.int (y':Nat),.int (z':Nat)]) rfl rfl)) h2))
 match p,pl with
 | 0,pl =>
  obtain⟨b',e,hb⟩:=jjy ns (a:=5) (b:=y) (c:=z) (by decide) (by omega) (by omega);exact⟨b',itsD b',rlsD b',ddsD b',SB b,go rfl e,⟨rfl,rfl,rfl⟩,.its (.size (.inr (by rw[zav,hb.i4];decide))),by rw[hb.i4];decide,by rw[hb.r5];omega,by rw[hb.d6];omega⟩
 | 1,pl =>
  obtain⟨b',e,hb⟩:=jjy ns (a:=x) (b:=6) (c:=z) (by omega) (by decide) (by omega);exact⟨b',itsD b',rlsD b',ddsD b',SB b,go rfl e,⟨rfl,rfl,rfl⟩,.rls (jy7 hb rx) (.size (.inr (by rw[zav,hb.r5];decide))),by rw[hb.i4];omega,by rw[hb.r5];decide,by rw[hb.d6];omega⟩
 | 2,pl =>
  obtain⟨b',e,hb⟩:=jjy ns (a:=x) (b:=y) (c:=7) (by omega) (by omega) (by decide);exact⟨b',itsD b',rlsD b',ddsD b',SB b,go rfl e,⟨rfl,rfl,rfl⟩,.dds (jy7 hb rx) (jCr hb ry) (jyd hb) (.size (.inr (by rw[zav,hb.d6];decide))),by rw[hb.i4];omega,by rw[hb.r5];omega,by rw[hb.d6];decide⟩
noncomputable def nmZ(a c:Nat):Option D:=(gIx (.str "abcdefghijklmnopqrstuvwxyz") (.int (a:Nat))).bind fun x=>(gCat (.str "z") x).bind fun u=>(gIx (.str "pq") (.int (c:Nat))).bind fun y=>gCat u y
theorem jww:∀ a∈List.range 26,∀ c∈List.range 2,isSt (nmZ a c)=true:=by decide +kernel
theorem jDh{k:Nat}(hk:k<37):∃ s:Str,∀ δ:DSt,fVar 7 δ=some (.ok (.int (k:Nat)))->f2 gCat (f2 gCat (fC (.str "z")) (f2 gIx (fC (.str "abcdefghijklmnopqrstuvwxyz")) (f2 gMod (fVar 7) (fC (.int 26))))) (f2 gIx (fC (.str "pq")) (f2 jbn (fVar 7) (fC (.int 26)))) δ=some (.ok (.str s)):=by
 have h:=jmc (jww (k % 26) (zcb.mpr (Nat.mod_lt _ (by decide))) (k / 26) (zcb.mpr (by omega)));refine⟨getS (nmZ (k % 26) (k / 26)),fun δ hδ=>?_⟩;generalize getS (nmZ (k % 26) (k / 26))=s at h;unfold nmZ at h;obtain⟨x1,g1,h⟩:=Option.bind_eq_some_iff.mp h;obtain⟨x2,g2,h⟩:=Option.bind_eq_some_iff.mp h;obtain⟨x3,g3,h⟩:=Option.bind_eq_some_iff.mp h;have e1:gMod (.int (k:Nat)) (.int 26)=some (.int ((k % 26:Nat):Int)):=jau (by decide);have e2:jbn (.int (k:Nat)) (.int 26)=some (.int ((k / 26:Nat):Int)):=jbe (by decide) (by decide);exact ja0 (ja0 rfl (ja0 rfl (ja0 hδ rfl e1) g1) g2) (ja0 rfl (ja0 hδ rfl e2) g3) h
theorem jvb{fo fa:DSt->MS D}{δ:DSt}{Ω:Sto}{i:Nat}{ds:List D}{d:D}(ho:fo δ Ω=some (.ok (.obj i),Ω))(h:Ω[i]? = some (.lst ds))(ha:fa δ Ω=some (.ok d,Ω))(hl:ds.length<=1000):js4 fo fa δ Ω=some (.ok .non,Ω.set i (.lst (ds++[d]))):=by
 unfold js4;rw[MS.b_ok ho,MS.b_ok (a:=.obj i) (Ω1:=Ω) (by unfold chkL;dsimp only;rw[h]),MS.b_ok ha];unfold putL;dsimp only;rw[h];dsimp only;unfold gApL;rw[if_pos (Nat.lt_of_le_of_lt hl (by decide))];rfl
section
variable {α:Type}{f:α->Str}{K:α->D}{tl:α->List D}{ren:α->Str->α}
theorem jBi(hK:∀ x,K x=.tup (.str (f x)::tl x))(hr:∀ x s,K (ren x s)=.tup (.str s::tl x))(ht:∀ x,(tl x).length<=100){Ωf:List D->Sto}(hg:∀ l,(Ωf l)[p]? = some (.lst l))(h3:∀ l,(Ωf l)[3]? = some (.lst [.obj 0,.obj 1,.obj 2]))(hs:∀ l l',(Ωf l).set p (.lst l')=Ωf l')(hp:atI [D.obj 0,.obj 1,.obj 2] (p:Int)=some (.obj p))(x:α):∀ (ks:List Nat) (ys:List α) (x7 x8:Option D),(∀ k∈ks,k<37)->ys.length+ks.length<=100 ->
  ∃ (ys':List α) (x7' x8':Option D),forE jdi (DL.gName 7) (ks.map fun k=>.int (k:Nat)) (w13 ns b q way p (some (K x)) x7 x8 none none none none) (Ωf (ys.map K))=some (.ok (.nx (w13 ns b q way p (some (K x)) x7' x8' none none none none)),Ωf (ys'.map K))/\ys'.length=ys.length+ks.length
 | [],ys,x7,x8,_,_=>⟨ys,x7,x8,rfl,rfl⟩
 | k::ks,ys,x7,x8,hk,hl=>by
  obtain⟨s,es⟩:=jDh (hk k zaa);rw[List.length_cons] at hl;obtain⟨ys',x7',x8',ih,il⟩:=jBi hK hr ht hg h3 hs hp x ks (ys++[ren x s]) (some (.int (k:Nat))) (some (.str s)) (fun j hj=>hk j (zaw _ hj)) (by rw[zca];show _+1+_<=_;omega);refine⟨ys',x7',x8',?_,by rw[il];simp only[zca,List.length_cons,List.length_nil];omega⟩;have bd:jdi (w13 ns b q way p (some (K x)) (some (.int (k:Nat))) x8 none none none none) (Ωf (ys.map K))=some (.ok (.nx (w13 ns b q way p (some (K x)) (some (.int (k:Nat))) (some (.str s)) none none none none)),Ωf ((ys++[ren x s]).map K)):=by
   unfold jdi;rw[eseq (δ':=w13 ns b q way p (some (K x)) (some (.int (k:Nat))) (some (.str s)) none none none none) (Ω':=Ωf (ys.map K)) (lft (jd9 8 (es _ rfl)))];have ap:=jvb (fo:=mIxL (lF (fVar 4)) (lF (fVar 5))) (fa:=lF (f2 jh9 (fL jb6 (jac (fVar 8) fNil)) (fSl (fVar 6) (jfm (fC (.int 1))) jgj))) (δ:=w13 ns b q way p (some (K x)) (some (.int (k:Nat))) (some (.str s)) none none none none) (Ω:=Ωf (ys.map K)) (i:=p) (ds:=ys.map K) (d:=K (ren x s)) (je3 (i:=3) (j:=(p:Int)) (lft rfl) (lft rfl) (h3 _) hp) (hg _) (lft (ja0 (x:=.tup [.str s]) (y:=.tup (tl x)) rfl (joz (x:=K x) rfl (jhe (i:=1) rfl) (hi:=none) rfl (by rw[hK];exact jpr)) (by rw[catE (by have:=ht x;show 1+_<=_;omega),hr];rfl))) (by rw[zav];omega);unfold jl6;rw[MS.b_ok ap,hs,List.map_append];rfl
  rw[List.map_cons,jk5 (δ1:=w13 ns b q way p (some (K x)) (some (.int (k:Nat))) x8 none none none none) rfl bd];exact ih
theorem jsg{α:Type}(xs:List α)(h:7<=xs.length):7<=(cutL xs (some (-40)) none).length/\(cutL xs (some (-40)) none).length<=xs.length:=by
 unfold cutL;rw[List.length_take,List.length_drop];have e2:HT.sIx xs.length xs.length none=xs.length:=rfl;have e1:HT.sIx xs.length 0 (some (-40))=xs.length-40:=by
  unfold HT.sIx;dsimp only
  split<;>omega
 rw[e1,e2];omega
theorem jA4(hK:∀ x,K x=.tup (.str (f x)::tl x))(hr:∀ x s,K (ren x s)=.tup (.str s::tl x))(ht:∀ x,(tl x).length<=100){Ωf:List D->Sto}(hg:∀ l,(Ωf l)[p]? = some (.lst l))(h3:∀ l,(Ωf l)[3]? = some (.lst [.obj 0,.obj 1,.obj 2]))(hs:∀ l l',(Ωf l).set p (.lst l')=Ωf l')(hp:atI [D.obj 0,.obj 1,.obj 2] (p:Int)=some (.obj p))(pl:p<3){xs:List α}(l1:1<=xs.length)(l2:xs.length<=6) :
  ∃ (ys zs:List α) (x6 x7 x8:Option D),wB (w0 ns b q way p) (Ωf (xs.map K))=some (.ok (.nx (w13 ns b q way p x6 x7 x8 none none none none)),(Ωf (ys.map K)).set 3 (.lst ([D.obj 0,.obj 1,.obj 2].set p (.lst (zs.map K)))))/\7<=zs.length/\zs.length<=100:=by
 have f8:=jbe (i:=q) (j:=8) (by decide) (by decide);have e30:=jau (i:=q / 8) (j:=30) (by decide);obtain⟨n,hn,nl⟩:=jfl (q:=q / 8) (n:=30) (by decide);have hn':q / 8 % 30=(n:Int):=hn;rw[hn'] at e30;have hx:xs[0]? = some xs[0]:=zax (by omega);generalize xs[0]=x at hx;have a0:atI (xs.map K) 0=some (K x):=atI_get (j:=0) (by rw[zba,hx];rfl);obtain⟨ys,x7,x8,lp,yl⟩:=jBi (ns:=ns) (b:=b) (q:=q) (way:=way) hK hr ht hg h3 hs hp x (List.range (7+n)) xs none none (fun k hk=>by have:=zcb.mp hk;omega) (by rw[List.length_range];omega);rw[List.length_range] at yl;have er:jbi 0 (7+n)=(List.range (7+n)).map fun k=>D.int (k:Nat):=jri (7+n)
 rw[<- er] at lp;obtain⟨c1,c2⟩:=jsg ys (by omega);refine⟨ys,cutL ys (some (-40)) none,some (K x),x7,x8,?_,c1,by omega⟩;unfold wB;have hix:∀ {x6 x7 x8:Option D} {l:List D},mIxL (lF (fVar 4)) (lF (fVar 5)) (w13 ns b q way p x6 x7 x8 none none none none) (Ωf l)=some (.ok (.obj p),Ωf l):=fun {x6 x7 x8 l}=>je3 (i:=3) (j:=(p:Int)) (lft rfl) (lft rfl) (h3 _) hp
 rw[eseq (δ':=w13 ns b q way p (some (K x)) none none none none none none) (Ω':=Ωf (xs.map K)) (eset (je3 (i:=p) (j:=0) hix (lft rfl) (hg _) a0))];have fi:lF (je6 jb3 (jac (f2 gCat (fC (.int 7)) (f2 gMod (f2 jbn (fVar 2) (fC (.int 8))) (fC (.int 30)))) fNil)) (w13 ns b q way p (some (K x)) none none none none none none) (Ωf (xs.map K))=some (.ok (jbi 0 (7+n)),Ωf (xs.map K)):=lft (by
  have e7:(7+(n:Int)).toNat=7+n:=by omega
  simp only[stp,f8,e30,e7];rfl)
 rw[eseq (by rw[efor fi];exact lp)];refine jhd (i:=3) (j:=p) (ds:=[.obj 0,.obj 1,.obj 2]) ?_ (lft rfl) (lft rfl) (h3 _) pl;unfold mSlL;rw[MS.b_ok hix,MS.b_ok (a:=some (-40)) (Ω1:=Ωf (ys.map K)) rfl,MS.b_ok (a:=none) (Ω1:=Ωf (ys.map K)) rfl];unfold rs1;dsimp only;rw[hg];dsimp only;rw[jl4]
end
theorem jDe(hg:GB b)(hp:num / 8 % 3=(p:Nat))(pl:p<3)(hw:num % 8=1)(hx:(decide (((p:Nat):Int) > 0)&&(num / 8 / 3 % 2 == 0))=true):WOut ns b num:=by
 have l1:=hg.l1;have l2:=hg.l2;have l3:=hg.l3
 match p,pl with
 | 0,pl=>cases hx
 | 1,pl =>
  obtain⟨ys,zs,x6,x7,x8,e,z1,z2⟩:=jA4 (ns:=ns) (b:=b) (q:=num / 8) (way:=1) (p:=1) (K:=rulD) (f:=fun r=>r.nm) (tl:=fun r=>[.tup (r.cs.map .int),.int r.rest]) (ren:=fun r s=>⟨s,r.cs,r.rest⟩) (fun _=>rfl) (fun _ _=>rfl) (fun _=>by show 2<=100;decide) (Ωf:=fun l=>S4 (b.its.map itD) l (b.dds.map dedD) [.obj 0,.obj 1,.obj 2]) (fun _=>rfl) (fun _=>rfl) (fun _ _=>rfl) rfl pl (xs:=b.rls) l2.1 (by omega);exact⟨⟨b.its,zs,b.dds⟩,.obj 0,.lst (zs.map rulD),.obj 2,_,w_by hp (by rw[hw,if_B hx,if_pos rfl];exact e) rfl,⟨rfl,rfl,rfl⟩,.rls hg.its (.size (.inr (by show 5<(zs.map _).length;rw[zav];omega))),by show b.its.length<=100;omega,z2,by show b.dds.length<=100;omega⟩
 | 2,pl =>
  obtain⟨ys,zs,x6,x7,x8,e,z1,z2⟩:=jA4 (ns:=ns) (b:=b) (q:=num / 8) (way:=1) (p:=2) (K:=dedD) (f:=fun d=>d.nm) (tl:=fun d=>[.int d.lo,.int d.hi,.tup (d.chs.map chD)]) (ren:=fun d s=>⟨s,d.lo,d.hi,d.chs⟩) (fun _=>rfl) (fun _ _=>rfl) (fun _=>by show 3<=100;decide) (Ωf:=fun l=>S4 (b.its.map itD) (b.rls.map rulD) l [.obj 0,.obj 1,.obj 2]) (fun _=>rfl) (fun _=>rfl) (fun _ _=>rfl) rfl pl (xs:=b.dds) l3.1 (by omega);exact⟨⟨b.its,b.rls,zs⟩,.obj 0,.obj 1,.lst (zs.map dedD),_,w_by hp (by rw[hw,if_B hx,if_pos rfl];exact e) rfl,⟨rfl,rfl,rfl⟩,.dds hg.its hg.rls hg.cs (.size (.inr (by show 6<(zs.map _).length;rw[zav];omega))),by show b.its.length<=100;omega,by show b.rls.length<=100;omega,z2⟩
theorem jt4(hg:GB b)(num:Int):WOut ns b num:=by
 obtain⟨p,hp,pl⟩:=jfl (q:=num / 8) (n:=3) (by decide);obtain⟨w,hw,wl⟩:=jfl (q:=num) (n:=8) (by decide);have hp':num / 8 % 3=(p:Int):=hp;have hw':num % 8=(w:Int):=hw
 match w,wl with
 | 0,_=>exact way0 hg hp' pl hw'
 | 1,_ =>
  cases hx:(decide (((p:Nat):Int) > 0)&&(num / 8 / 3 % 2 == 0)) with
  | true=>exact jDe hg hp' pl hw' hx
  | false=>exact jDf hg hp' pl hw' hx
 | 2,_=>exact wayD hg hp' pl (by rw[hw'];rfl) (by rw[hw'];rfl) (by rw[hw'];rfl)
 | 3,_=>exact wayD hg hp' pl (by rw[hw'];rfl) (by rw[hw'];rfl) (by rw[hw'];rfl)
 | 4,_=>exact wayD hg hp' pl (by rw[hw'];rfl) (by rw[hw'];rfl) (by rw[hw'];rfl)
 | 5,_=>exact way5 hg hp' pl hw'
 | 6,_=>exact wayF hg hp' pl (.inl hw')
 | 7,_=>exact wayF hg hp' pl (.inr hw')
end
noncomputable section
theorem jka{f:DSt->MS (List D)}{δ:DSt}{Ω:Sto}{x:D}{ds:List D}(h:f δ Ω=some (.ok [x],Ω))(hx:rs1 Ω x=some (.lst ds)):MS.b (f δ) jmf Ω=some (.ok (.lst ds),Ω):=by
 rw[MS.b_ok h];unfold jmf;dsimp only;rw[hx]
theorem Wr.rsT{b:Bk}{x0 x1 x2:D}{Ω:Sto}(h:Wr b x0 x1 x2 Ω):rsT Ω (.tup [x0,x1,x2])=some (bkD b):=by
 show (rsL Ω [x0,x1,x2]).map D.tup=_;unfold rsL;rw[h.h0];show ((rsL Ω [x1,x2]).map _).map _=_;unfold rsL;rw[h.h1];show (((rsL Ω [x2]).map _).map _).map _=_;unfold rsL;rw[h.h2];rfl
theorem law_true:∀ ns:List Int,ns.length<=63->∃ Ω,js6 [.lst (ns.map .int)] []=some (.ok (.bl true),Ω):=fun ns hns=>by
 obtain⟨x,y,z,hc,rx,ry,rz⟩:=jpq ns;obtain⟨b,hb0,hb⟩:=jjy ns (a:=x) (b:=y) (c:=z) (by omega) (by omega) (by omega);have hg:=jB3 hb rx ry rz;have hk:=jB9 hb (by omega);have c0:=w_at (ns:=ns) (k:=0) (by decide) (by decide);have m5:=jo3 (n:=atF ns 0) (p:=5) (by decide) (by decide);have m6:=jo3 (n:=atF ns 0) (p:=6) (by decide) (by decide);obtain⟨b1,x0,x1,x2,Ω1,hw,w1,nb,n1,n2,n3⟩:=jt4 (ns:=ns) hg (mixF (atF ns 0) 5);obtain⟨b2,Ω2,hbr,w2,sm⟩:=jpe w1 (mixF (atF ns 0) 6);have nb2:=sm.nb nb;have ib:=jp9 nb2 (by rw[sm.i];exact n1) (by rw[sm.len];exact n2) (by rw[sm.d];exact n3);have r1:=jjm ib Ω2;have r2:=jjm ib (errN Ω2);have w3:Wr b2 x0 (.obj Ω1.length) x2 (errN (errN Ω2)):=w2.ext.ext;refine⟨errN (errN Ω2),?_⟩;show MS.b (jsp [some (scr ns),none,none,none]) outE []=_;refine (MS.b_ok (a:=.rt (.bl true)) (Ω1:=errN (errN Ω2)) ?_).trans rfl;unfold jsp;rw[eseq (δ':=[some (scr ns),some (bkD b),none,none]) (Ω':=[]) (lft (jd9 1 (by simp only[stp,hc,hb0])))];rw[eseq (δ':=[some (scr ns),some (bkD b),some (bkD b),none]) (Ω':=[]) (lft (jd9 2 (by simp only[stp,ix_t,at0,at1,at2];rfl)))];have ck:jil ja4 (lF (jac (fVar 2) fNil)) [some (scr ns),some (bkD b),some (bkD b),none] []=some (.ok .non,[]):=by
  unfold jil;rw[show jdp ja4 (lF (jac (fVar 2) fNil)) [some (scr ns),some (bkD b),some (bkD b),none] []=ja4 [bkD b] [] from rfl,jvm hk hg]
 have t1:mOr (mB (m2 jni (jil ja4 (lF (jac (fVar 2) fNil))) (lF (fC .non)))) (lF (t2 gNe (fVar 2) (fVar 1))) [some (scr ns),some (bkD b),some (bkD b),none] []=some (.ok false,[]):=by
  have a1:mB (m2 jni (jil ja4 (lF (jac (fVar 2) fNil))) (lF (fC .non))) [some (scr ns),some (bkD b),some (bkD b),none] []=some (.ok false,[]):=by
   unfold mB;rw[MS.b_ok (js2 (y:=.non) (d:=.bl false) ck (lft rfl) rfl)];rfl
  unfold mOr;rw[MS.b_ok a1,if_neg (by decide)];exact lft (by simp only[stp,jwu (jwy b) (jud b)];rfl)
 rw[eseq (δ':=[some (scr ns),some (bkD b),some (bkD b),none]) (Ω':=[]) (by rw[eif t1,if_neg (by decide)];rfl)];rw[eseq (δ':=[some (scr ns),some (bkD b),some (bkD b),some (.tup [x0,.obj Ω1.length,x2])]) (Ω':=Ω2) (eset (by
  have a1:jdp jcp (lF (jac (fVar 0) (jac (fVar 1) (jac (jax jbl (jac (jax jbw (jac (fVar 0) (jac (fC (.int 0)) fNil))) (jac (fC (.int 5)) fNil))) fNil)))) [some (scr ns),some (bkD b),some (bkD b),none] []=some (.ok (.tup [x0,x1,x2]),Ω1):=by
   unfold jdp;rw[MS.b_ok (a:=[scr ns,bkD b,.int (mixF (atF ns 0) 5)]) (Ω1:=[]) (lft (by simp only[stp,c0,m5];rfl))];exact hw
  have a2:=jc2 (g:=lF (jac (jax jbl (jac (jax jbw (jac (fVar 0) (jac (fC (.int 0)) fNil))) (jac (fC (.int 6)) fNil))) fNil)) (xs:=[.int (mixF (atF ns 0) 6)]) (Ω2:=Ω1) a1 (lft (by simp only[stp,c0,m6];rfl));unfold jdp at a2 |-
  rw[MS.b_ok a2];exact hbr))]
 rw[eseq (δ':=[some (scr ns),some (bkD b),some (bkD b2),some (.tup [x0,.obj Ω1.length,x2])]) (Ω':=Ω2) (eset (d:=bkD b2) (by
  have g1:∀ {i:Int} {y:D},atI [x0,.obj Ω1.length,x2] i=some y->jce (m2 gIx (lF (fVar 3)) (lF (fC (.int i)))) (lF fNil) [some (scr ns),some (bkD b),some (bkD b),some (.tup [x0,.obj Ω1.length,x2])] Ω2=some (.ok [y],Ω2):=fun {i y} h=>jc2 (js2 (x:=.tup [x0,.obj Ω1.length,x2]) (y:=.int i) (lft rfl) (lft rfl) (by rw[ix_t];exact h)) (lft rfl)
  exact js5 (jc2 (jka (g1 (i:=0) rfl) w2.h0) (jc2 (jka (g1 (i:=1) rfl) w2.h1) (jc2 (jka (g1 (i:=2) rfl) w2.h2) (lft rfl)))) rfl))]
 have k:∀ Ω Ω',jcf [bkD b2] Ω=some (.ok (.bl true),Ω')->jdp jcf (lF (jac (fVar 2) fNil)) [some (scr ns),some (bkD b),some (bkD b2),some (.tup [x0,.obj Ω1.length,x2])] Ω=some (.ok (.bl true),Ω'):=fun Ω Ω' h=>by
  unfold jdp;rw[MS.b_ok (a:=[bkD b2]) (Ω1:=Ω) (lft rfl)];exact h
 unfold eRet js3;rw[MS.b_ok (a:=.bl true) (Ω1:=errN (errN Ω2)) (by
  rw[MS.b_ok (k _ _ r1)];dsimp only;rw[MS.b_ok (k _ _ r2)];dsimp only;show mEqR (lF (fVar 2)) (lF (fVar 3)) [some (scr ns),some (bkD b),some (bkD b2),some (.tup [x0,.obj Ω1.length,x2])] (errN (errN Ω2))=_;unfold mEqR;rw[MS.b_ok (a:=bkD b2) (Ω1:=errN (errN Ω2)) (lft rfl),MS.b_ok (a:=.tup [x0,.obj Ω1.length,x2]) (Ω1:=errN (errN Ω2)) (lft rfl)];unfold eqR;rw[w3.rsT,show rsT (errN (errN Ω2)) (bkD b2)=some (bkD b2) from rfl];dsimp only;rw[if_pos (by rw[jwy,decide_eq_true (jud b2)];rfl),jhw _ (jwy b2)])]
 rfl
end
end MyLaw
set_option maxRecDepth 100000 in
set_option maxHeartbeats 0 in
theorem PySem.Challenge.cw_apartbook_k11_no_books_holds : PySem.Challenge.rw_apartbook_k11_no_books.Holds := by
 w_on;o_law;z_head;(case hw=>w_witness2)
 k_fill
 refine MyLaw.walkZ (l:=PySem.Challenge.rw_apartbook_k11_no_books) (fun P=>rfl) rfl rfl ?F MyLaw.law_true
 case F =>
  intro w mg fa h KX G hmg
  refine' ⟨?T,hmg⟩
  case T =>
   refine' MyLaw.txt_mk KX G ?ca_BookError ?ca_Broken ?ca_Folded ?ca_NoBook ?ca_NoDeed ?ca_NoLine ?ca_NoName ?ca_NoPaper ?ca_NoRule ?ca_NoText ?ca_NotPlain ?ca_OutOfRange ?ca_ShortShare ?tab ?tab2 ?ni_NoBook ?ni_Folded ?ni_OutOfRange ?a0 ?l0 ?c0 ?k0 ?a1 ?l1 ?c1 ?k1 ?a2 ?l2 ?c2 ?k2 ?a3 ?l3 ?c3 ?k3 ?a4 ?l4 ?c4 ?k4 ?a5 ?l5 ?c5 ?k5 ?a6 ?l6 ?c6 ?k6 ?a7 ?l7 ?c7 ?k7 ?a8 ?l8 ?c8 ?k8 ?a9 ?l9 ?c9 ?k9 ?a10 ?l10 ?c10 ?k10 ?a11 ?l11 ?c11 ?k11 ?a12 ?l12 ?c12 ?k12 ?a13 ?l13 ?c13 ?k13 ?a14 ?l14 ?c14 ?k14 ?a15 ?b15 ?l15 ?c15 ?k15 ?a16 ?l16 ?c16 ?k16 ?a17 ?l17 ?c17 ?k17 ?a18 ?l18 ?c18 ?k18 ?a19 ?l19 ?c19 ?k19 ?a20 ?l20 ?c20 ?k20 ?a21 ?l21 ?c21 ?k21 ?a22 ?l22 ?c22 ?k22 ?a23 ?l23 ?c23 ?k23 ?a24 ?l24 ?c24 ?k24 ?a25 ?l25 ?c25 ?k25 ?a26 ?l26 ?c26 ?k26 ?a27 ?l27 ?c27 ?k27 ?a28 ?l28 ?c28 ?k28 ?a29 ?l29 ?c29 ?k29 ?y0 ?y1 ?y2 ?y3 ?z0 ?z1 ?z2 ?z3 ?z4 ?z5 ?z6 ?z7 ?z8 ?z9 ?z10 ?z11
   (case ca_BookError=>k_is);(case ca_Broken=>k_is);(case ca_Folded=>k_is);(case ca_NoBook=>k_is);(case ca_NoDeed=>k_is);(case ca_NoLine=>k_is);(case ca_NoName=>k_is);(case ca_NoPaper=>k_is)
   (case ca_NoRule=>k_is);(case ca_NoText=>k_is);(case ca_NotPlain=>k_is);(case ca_OutOfRange=>k_is);(case ca_ShortShare=>k_is);(case tab=>kernel_rfl);(case tab2=>kernel_rfl);(case ni_NoBook=>kernel_rfl)
   (case ni_Folded=>kernel_rfl);(case ni_OutOfRange=>kernel_rfl);(case a0=>k_is);(case l0=>k_is);(case c0=>k_is);(case k0=>k_is);(case a1=>k_is);(case l1=>k_is)
   (case c1=>k_is);(case k1=>k_is);(case a2=>k_is);(case l2=>k_is);(case c2=>k_is);(case k2=>k_is);(case a3=>k_is);(case l3=>k_is)
   (case c3=>k_is);(case k3=>k_is);(case a4=>k_is);(case l4=>k_is);(case c4=>k_is);(case k4=>k_is);(case a5=>k_is);(case l5=>k_is)
   (case c5=>k_is);(case k5=>k_is);(case a6=>k_is);(case l6=>k_is);(case c6=>k_is);(case k6=>k_is);(case a7=>k_is);(case l7=>k_is)
   (case c7=>k_is);(case k7=>k_is);(case a8=>k_is);(case l8=>k_is);(case c8=>k_is);(case k8=>k_is);(case a9=>k_is);(case l9=>k_is)
   (case c9=>k_is);(case k9=>k_is);(case a10=>k_is);(case l10=>k_is);(case c10=>k_is);(case k10=>k_is);(case a11=>k_is);(case l11=>k_is)
   (case c11=>k_is);(case k11=>k_is);(case a12=>k_is);(case l12=>k_is);(case c12=>k_is);(case k12=>k_is);(case a13=>k_is);(case l13=>k_is)
   (case c13=>k_is);(case k13=>k_is);(case a14=>k_is);(case l14=>k_is);(case c14=>k_is);(case k14=>k_is);(case a15=>k_is);(case b15=>k_is)
   (case l15=>k_is);(case c15=>k_is);(case k15=>k_is);(case a16=>k_is);(case l16=>k_is);(case c16=>k_is);(case k16=>k_is);(case a17=>k_is)
   (case l17=>k_is);(case c17=>k_is);(case k17=>k_is);(case a18=>k_is);(case l18=>k_is);(case c18=>k_is);(case k18=>k_is);(case a19=>k_is)
   (case l19=>k_is);(case c19=>k_is);(case k19=>k_is);(case a20=>k_is);(case l20=>k_is);(case c20=>k_is);(case k20=>k_is);(case a21=>k_is)
   (case l21=>k_is);(case c21=>k_is);(case k21=>k_is);(case a22=>k_is);(case l22=>k_is);(case c22=>k_is);(case k22=>k_is);(case a23=>k_is)
   (case l23=>k_is);(case c23=>k_is);(case k23=>k_is);(case a24=>k_is);(case l24=>k_is);(case c24=>k_is);(case k24=>k_is);(case a25=>k_is)
   (case l25=>k_is);(case c25=>k_is);(case k25=>k_is);(case a26=>k_is);(case l26=>k_is);(case c26=>k_is);(case k26=>k_is);(case a27=>k_is)
   (case l27=>k_is);(case c27=>k_is);(case k27=>k_is);(case a28=>k_is);(case l28=>k_is);(case c28=>k_is);(case k28=>k_is);(case a29=>k_is)
   (case l29=>k_is);(case c29=>k_is);(case k29=>k_is);(case y0=>k_is);(case y1=>k_is);(case y2=>k_is);(case y3=>k_is);(case z0=>k_is)
   (case z1=>k_is);(case z2=>k_is);(case z3=>k_is);(case z4=>k_is);(case z5=>k_is);(case z6=>k_is);(case z7=>k_is);(case z8=>k_is)
   (case z9=>k_is);(case z10=>k_is);(case z11=>k_is)