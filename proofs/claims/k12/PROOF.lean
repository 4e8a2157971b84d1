import PyProof.Rows.All
import Wide.All
import OpenK.AllK
import Wide.FinOn
import Lean
import PyProof.EqAt
import PyProof.EqKinds
import PyProof.TupleCall
import PySem.Challenge.RW_apartbook_k12_broken_books
set_option Elab.async false
set_option linter.all false
set_option maxRecDepth 100000
namespace PySem.W.Fast
noncomputable def tw962782303638101448:=PySem.Challenge.pw_apartbook_k12_broken_books
theorem te962782303638101448:PySem.Challenge.pw_apartbook_k12_broken_books=tw962782303638101448:=rfl
def tw8038971107269400670:=0
def tw4180246303583752524:=0
def tw8085013009376461439:=0
def tw4047034411878509250:=0
def tw8871558395947696244:=0
def tw2319994183455984748:=0
def tw13372613482066085896:=0
def tw16727066900946666713:=0
def tw13332281970254911531:=0
def tw2404965420597196560:=0
def tw243650384424918180:=0
def tw17004998058637537914:=0
def tw14639898583545295024:=0
def tw3607690195613288877:=0
def tw9150616320328750637:=0
def tw1214930614013939010:=0
def tw15445229125750412965:=0
def tw9013839703274383403:=0
def tw445498975055962015:=0
def tw7425026533473157965:=0
def tw2371795998301713994:=0
def tw2066200386071290516:=0
def tw1836156308873389220:=0
def tw12153187223153980199:=0
def tw2838232404107831344:=0
def tw1635801987882408303:=0
def tw7729008049928889473:=0
def tw6721225154876469623:=0
def tw1849392253612722287:=0
def tw5578448495557713338:=0
def tw16579664657581275016:=0
def tw12435788359739132059:=0
def tw8770722371641516232:=0
def tw17084526209570420048:=0
def tw13575084941857917500:=0
end PySem.W.Fast
set_option compiler.extract_closed false
abbrev zax.{u}:=@List.getElem?_eq_getElem.{u}
abbrev zay:=@PySem.wpAny_bind
abbrev zaz:=@PySem.Heap.get?_push_of_some
abbrev zav.{u,v}:=@List.length_map.{u,v}
abbrev zaw.{u}:=@List.mem_cons_of_mem.{u}
abbrev zaa.{u}:=@List.mem_cons_self.{u}
abbrev zab:=@PySem.wpAny_pure
abbrev zac:=@Nat.le_refl
abbrev zbx.{u}:=@List.size_toArray.{u}
abbrev zby.{u}:=@Option.some.inj.{u}
abbrev zbz:=@PySem.Heap.get?_push_size
abbrev zbv:=@PySem.Heap.lt_size
abbrev zbw.{u}:=@List.getElem?_set_ne.{u}
abbrev zba.{u,v}:=@List.getElem?_map.{u,v}
abbrev zbb.{u}:=@List.getElem?_eq_some_iff.{u}
abbrev zbc.{u}:=@List.contains_iff_mem.{u}
abbrev zcx:=@Nat.lt_of_lt_of_le
abbrev zcy.{u}:=@List.mem_append_right.{u}
abbrev zcz.{u}:=@List.getElem?_set_self.{u}
abbrev zcv:=@Nat.ne_of_lt
abbrev zcw:=@Int.emod_lt_of_pos
abbrev zca.{u}:=@List.length_append.{u}
abbrev zcb:=@List.mem_range
theorem zau0(h:True:=by first|exact .inl rfl|exact .inr rfl|assumption):True:=h
theorem zau1(h:True:=by decide):True:=h
theorem zau2(h:True:=by rfl):True:=h
theorem zau3(h:True:=by intro _;rfl):True:=h
theorem zau4(h:True:=by with_unfolding_all rfl):True:=h
theorem zau5(h:True:=by first|exact Or.inl rfl|exact Or.inr (Or.inl rfl)|exact Or.inr (Or.inr rfl)):True:=h
theorem zau6(h:True:=by exact fun _ _=>rfl):True:=h
theorem zau7(h:True:=by exact fun _=>rfl):True:=h
theorem zau8(h:True:=by first|exact Or.inl rfl|exact Or.inr rfl):True:=h
namespace L2
open PySem PySem.Spec PyProof.Rows
noncomputable abbrev Key:=Sum Int Str
noncomputable def jmx:Key->Value->Bool
 | .inl k,v=>Value.isInt k v
 | .inr x,v=>Value.isStrOf x v
noncomputable def keyH(w:World):Key->Int
 | .inl k=>hashInt k
 | .inr x=>hashStr w x
theorem jbj:∀ {k:Key} {v:Value},jmx k v=true->(∃ i t,k=Sum.inl i/\v=Value.int i t)\/(∃ x t,k=Sum.inr x/\v=Value.str x t)
 | .inl i,v,h=>by
  obtain⟨t,e⟩:=Value.isInt_shape (k:=i) (v:=v) h;exact .inl ⟨i,t,rfl,e⟩
 | .inr x,v,h=>by
  obtain⟨t,e⟩:=Value.isStrOf_shape (x:=x) (v:=v) h;exact .inr ⟨x,t,rfl,e⟩
theorem joh(i:Int)(t:Tok):jmx (.inl i) (.int i t)=true:=by simp[jmx,Value.isInt]
theorem joi(x:Str)(t:Tok):jmx (.inr x) (.str x t)=true:=by simp[jmx,Value.isStrOf]
theorem jv6(a b:Int):decide ((Sum.inl a:Key)=Sum.inl b)=(a == b):=by
 by_cases e:a=b
 ·subst e;simp
 ·have h:¬ (Sum.inl a:Key)=Sum.inl b:=fun q=>e (Sum.inl.inj q)
  rw[decide_eq_false h];exact (beq_eq_false_iff_ne.mpr e).symm
theorem jv9(a b:Str):decide ((Sum.inr a:Key)=Sum.inr b)=decide (a=b):=by
 by_cases e:a=b
 ·subst e;simp
 ·have h:¬ (Sum.inr a:Key)=Sum.inr b:=fun q=>e (Sum.inr.inj q)
  rw[decide_eq_false h,decide_eq_false e]
theorem jv7(a:Int)(b:Str):decide ((Sum.inl a:Key)=Sum.inr b)=false:=decide_eq_false (fun q=>nomatch q)
theorem jv8(a:Str)(b:Int):decide ((Sum.inr a:Key)=Sum.inl b)=false:=decide_eq_false (fun q=>nomatch q)
noncomputable def jev(prog:Program)(w:World):PySem.KeyKind prog w Key where
 is:=jmx
 hash:=keyH w
 inj:=fun v a b ha hb=>by
  rcases jbj ha with ⟨i,t,rfl,rfl⟩|⟨x,t,rfl,rfl⟩
  ·rcases jbj hb with ⟨j,u,rfl,e⟩|⟨y,u,rfl,e⟩
   ·injection e with e1 _;rw[e1]
   ·exact nomatch e
  ·rcases jbj hb with ⟨j,u,rfl,e⟩|⟨y,u,rfl,e⟩
   ·exact nomatch e
   ·injection e with e1 _;rw[e1]
 byValue:=fun k v h=>by
  rcases jbj h with ⟨i,t,rfl,rfl⟩|⟨x,t,rfl,rfl⟩<;>rfl
 pyHash:=fun hv h=>by
  rcases jbj hv with ⟨i,t,rfl,rfl⟩|⟨x,t,rfl,rfl⟩
  ·exact wpAny_pyHash_int h
  ·exact wpAny_pyHash_str h
 eqBool:=fun hu hv h=>by
  rcases jbj hu with ⟨i,t,rfl,rfl⟩|⟨x,t,rfl,rfl⟩
  ·rcases jbj hv with ⟨j,u,rfl,rfl⟩|⟨y,u,rfl,rfl⟩
   ·rw[jv6] at h;exact wpAny_eqBool_int h
   ·rw[jv7] at h;exact SeqAt.EqAt.int_str i t y u _ _ _ _ h
  ·rcases jbj hv with ⟨j,u,rfl,rfl⟩|⟨y,u,rfl,rfl⟩
   ·rw[jv8] at h;exact SeqAt.EqAt.str_int x t j u _ _ _ _ h
   ·rw[jv9] at h;exact wpAny_eqBool_str h
 «strs»:=fun k x t v h=>by
  rcases jbj h with ⟨i,u,rfl,e⟩|⟨y,u,rfl,e⟩
  ·exact nomatch e
  ·injection e with e1 _
   subst e1;cases v<;>rfl
theorem jli(prog:Program)(w:World)(i:Int)(t:Tok):(jev prog w).is (.inl i) (.int i t)=true:=joh i t
theorem jlj(prog:Program)(w:World)(x:Str)(t:Tok):(jev prog w).is (.inr x) (.str x t)=true:=joi x t
inductive V where
 | non|bl (b:Bool)|int (i:Int)|str (x:Str)|byt (b:Array UInt8)|flt (b:UInt64)|ref (a:Addr)|ty (n:String)
 deriving DecidableEq
noncomputable def RelV:V->Value->Prop
 | .non,u=>u=Value.none
 | .bl b,u=>u=Value.bool b
 | .int i,u=>∃ t,u=Value.int i t
 | .str x,u=>∃ t,u=Value.str x t
 | .byt b,u=>∃ t,u=Value.bytes b t
 | .flt b,u=>∃ t,u=Value.float b t
 | .ref a,u=>u=Value.ref a
 | .ty n,u=>u=Value.type n
noncomputable abbrev Vals:List V->List Value->Prop:=Paired RelV
theorem Vals.length{xs:List V}{us:List Value}(r:Vals xs us):xs.length=us.length:=Paired.length r
theorem Vals.get:∀ {xs:List V} {us:List Value} {i:Nat} {x:V},Vals xs us->xs[i]? = some x->∃ u,us[i]? = some u/\RelV x u
 | _,_,_,_,.nil,e=>by simp at e
 | _,_,0,_,.cons r _,e=>by simp at e;subst e;exact⟨_,rfl,r⟩
 | _,_,i+1,x,.cons _ t,e=>by
  obtain⟨u,h1,h2⟩:=Vals.get (i:=i) (x:=x) t (by simpa using e);exact⟨u,by simpa using h1,h2⟩
theorem Vals.append:∀ {xs ys:List V} {us ws:List Value},Vals xs us->Vals ys ws->Vals (xs++ys) (us++ws)
 | _,_,_,_,.nil,s=>s
 | _,_,_,_,.cons r t,s=>.cons r (Vals.append t s)
noncomputable def RelO:Option V->Option Value->Prop
 | some v,some u=>RelV v u
 | none,none=>True
 | _,_=>False
noncomputable def KV{κ:Type}:List (κ×V)->List (κ×Value)->Prop:=Paired fun (p:κ×V) (q:κ×Value)=>p.1=q.1/\RelV p.2 q.2
noncomputable def kV:Key->V
 | .inl i=>.int i
 | .inr x=>.str x
inductive HO where
  | lst (xs:List V)
  | tup (xs:List V)
  | dK (kvs:List (Key×V))|dT (kvs:List (List Key×V))
  | set (S:Int->Bool) (n:Nat)
  | ins (C dx:Addr) (fs:List (Str×V))
  | own (x:Addr)
  | xd (fs:List (Str×V))
  | met (f x:Addr)
  | rng (lo hi:Int)
  | frz (o:Obj) (u:HO)
  | tbl (ps:Array Value)
  | ext (φ:Heap->Prop)
noncomputable abbrev Hp:=Addr->Option HO
noncomputable def upd(H:Hp)(a:Addr)(o:HO):Hp:=fun b=>if b=a then some o else H b
theorem jak{H:Hp}{a:Addr}{o:HO}:upd H a o a=some o:=by unfold upd;rw[if_pos rfl]
theorem jag{H:Hp}{a b:Addr}{o:HO}(h:b≠a):upd H a o b=H b:=by unfold upd;rw[if_neg h]
theorem jyt{H:Hp}{a b:Addr}{o u:HO}(h:H a=some o)(h':H b=some u)(d:o≠u):a≠b:=by
 intro e;subst e;rw[h] at h';exact d (zby h')
theorem ja1{H:Hp}{a b:Addr}{o:HO}(h:H a=some o)(h':H b=none):a≠b:=by
 intro e;subst e;rw[h] at h';cases h'
section
variable (P:Program)(w:World)
noncomputable def ObjOk(H:Hp)(h:Heap)(a:Addr):HO->Prop
 | .lst xs=>xs.length<=sizeLine/\∃ (its:List Value) (n:Nat),Vals xs its/\h.get? a=some { cls:=.type "list",data:=.seq its.toArray n }
 | .tup xs=>xs.length<=sizeLine/\∃ its:List Value,Vals xs its/\IsTup h a its.toArray
 | .dK kvs=>kvs.length<=sizeLine/\(a == sysModules)=false/\∃ vs,KV kvs vs/\h.DictOf (jev P w) a vs
 | .dT kvs=>kvs.length<=sizeLine/\(a == sysModules)=false/\∃ xs:List (List Key×Addr×Value),
   Paired (fun (p:List Key×V) (q:List Key×Addr×Value)=>p.1=q.1/\H q.2.1=some (.tup (p.1.map kV))/\RelV p.2 q.2.2) kvs xs /\
   ∃ o es ep,h.get? a=some o/\o.ExactDict/\o.data=.dict es ep/\es.toList=xs.map (entryOfKey (tupleKind (jev P w)))/\(xs.map (·.1)).Nodup
 | .set S n=>h.SetOf (intKind P w) a S n
 | .ins C dx fs=>H dx=some (.own a)/\fs.length<=1000/\dx≠a/\h.get? a=some (W.instObj C dx) /\
   ∃ mA,h.Ns1 dx mA/\(∀ f,RelO (fs.lookup f) (mA f))/\PySem.Within mA (fs.map (·.1))
 | .own _=>∃ o,h.get? a=some o
 | .xd fs=>∃ mA,h.Ns1 a mA/\∀ f,RelO (fs.lookup f) (mA f)
 | .rng lo hi=>∃ t u v,h.get? a=some { cls:=.type "range",data:=.fields #[.int lo t,.int hi u,.int 1 v] }
 | .frz o u=>h.get? a=some o/\ObjOk H h a u
 | .tbl ps=>h.get? a=some { cls:=.none,data:=.fields ps }
 | .met f x=>h.get? a=some (W.methodObj (.ref f) (.ref x))
 | .ext φ=>φ h/\(∃ o,h.get? a=some o)/\∀ h1 h2:Heap,φ h1->(∀ o,h1.get? a=some o->h2.get? a=some o)->φ h2
noncomputable def HOk(H:Hp)(h:Heap):Prop:=∀ a o,H a=some o->ObjOk P w H h a o
end
section
variable {P:Program}{w:World}{H H':Hp}{h h':Heap}{a:Addr}{o:HO}
theorem ObjOk.lt(x:ObjOk P w H h a o):a<h.objs.size:=by
 cases o with
 | lst xs=>obtain⟨_,_,_,_,e⟩:=x;exact zbv e
 | tup xs=>obtain⟨_,_,_,p⟩:=x;exact p.lt
 | dK kvs=>obtain⟨_,_,_,_,o,_,_,e,_⟩:=x;exact zbv e
 | dT kvs=>obtain⟨_,_,_,_,o,_,_,e,_⟩:=x;exact zbv e
 | set S n=>obtain⟨o,_,_,_,e,_⟩:=x;exact zbv e
 | ins C dx fs=>obtain⟨_,_,_,e,_⟩:=x;exact zbv e
 | own y=>obtain⟨_,e⟩:=x;exact zbv e
 | xd fs=>obtain⟨_,⟨_,_,_,e,_⟩,_⟩:=x;exact zbv e
 | rng lo hi=>obtain⟨_,_,_,e⟩:=x;exact zbv e
 | frz ob u=>obtain⟨e,_⟩:=x;exact zbv e
 | tbl ps=>exact zbv (show h.get? a=some _ from x)
 | met f y=>exact zbv (show h.get? a=some _ from x)
 | ext φ=>obtain⟨_,⟨_,e⟩,_⟩:=x;exact zbv e
theorem Paired.mapP{α β:Type}{F G:α->β->Prop}:∀ {l₁:List α} {l₂:List β},Paired F l₁ l₂->(∀ a b,F a b->G a b)->Paired G l₁ l₂
 | _,_,.nil,_=>.nil
 | _,_,.cons r t,f=>.cons (f _ _ r) (Paired.mapP t f)
theorem ObjOk.stay(x:ObjOk P w H h a o)(k:∀ b u,(b=a\/H b=some (.own a))->h.get? b=some u->h'.get? b=some u)
  (ho:∀ b,H b=some (.own a)->H' b=some (.own a)) (ht:∀ b xs,H b=some (.tup xs)->H' b=some (.tup xs)):ObjOk P w H' h' a o:=by
 induction o with
 | lst xs=>obtain⟨z,its,n,r,e⟩:=x;exact⟨z,its,n,r,k _ _ (.inl rfl) e⟩
 | tup xs=>obtain⟨z,its,r,ob,e,c⟩:=x;exact⟨z,its,r,ob,k _ _ (.inl rfl) e,c⟩
 | dK kvs=>obtain⟨z,y,vs,r,ob,es,ep,e,c⟩:=x;exact⟨z,y,vs,r,ob,es,ep,k _ _ (.inl rfl) e,c⟩
 | dT kvs =>
  obtain⟨z,y,xs,r,ob,es,ep,e,c⟩:=x;exact⟨z,y,xs,Paired.mapP r fun p q z=>⟨z.1,ht _ _ z.2.1,z.2.2⟩,ob,es,ep,k _ _ (.inl rfl) e,c⟩
 | set S n=>obtain⟨ob,es,ep,t,e,c⟩:=x;exact⟨ob,es,ep,t,k _ _ (.inl rfl) e,c⟩
 | ins C dx fs =>
  obtain⟨d,z,ne,e,mA,⟨od,es,ep,e2,c⟩,r⟩:=x;exact⟨ho _ d,z,ne,k _ _ (.inl rfl) e,mA,⟨od,es,ep,k _ _ (.inr d) e2,c⟩,r⟩
 | own y=>obtain⟨ob,e⟩:=x;exact⟨ob,k _ _ (.inl rfl) e⟩
 | xd fs=>obtain⟨mA,⟨od,es,ep,e,c⟩,r⟩:=x;exact⟨mA,⟨od,es,ep,k _ _ (.inl rfl) e,c⟩,r⟩
 | rng lo hi=>obtain⟨t,u,v,e⟩:=x;exact⟨t,u,v,k _ _ (.inl rfl) e⟩
 | frz ob u ih=>obtain⟨e,q⟩:=x;exact⟨k _ _ (.inl rfl) e,ih q⟩
 | tbl ps =>
  have e:h.get? a=some { cls:=.none,data:=.fields ps }:=x;show h'.get? a=some { cls:=.none,data:=.fields ps };exact k a _ (.inl rfl) e
 | met f y =>
  have e:h.get? a=some (W.methodObj (.ref f) (.ref y)):=x;show h'.get? a=some (W.methodObj (.ref f) (.ref y));exact k a _ (.inl rfl) e
 | ext φ=>obtain⟨p,⟨o,e⟩,st⟩:=x;exact⟨st _ _ p fun o q=>k _ _ (.inl rfl) q,⟨o,k _ _ (.inl rfl) e⟩,st⟩
theorem HOk.lt(x:HOk P w H h)(e:H a=some o):a<h.objs.size:=(x a o e).lt
theorem HOk.fresh(x:HOk P w H h)(e:h.objs.size<=a):H a=none:=by
 cases q:H a with
 | none=>rfl
 | some u=>exact absurd (zcx (x.lt q) e) (Nat.lt_irrefl _)
theorem HOk.kept(x:HOk P w H h)(k:∀ b u,h.get? b=some u->h'.get? b=some u):HOk P w H h':=fun a o e =>
 (x a o e).stay (fun b u _ q=>k b u q) (fun _ q=>q) fun _ _ q=>q
theorem HOk.laid(x:HOk P w H h)(k:∀ b u,h.get? b=some u->h'.get? b=some u)(hp:h.objs.size<=a)(new:ObjOk P w (upd H a o) h' a o):HOk P w (upd H a o) h':=fun b u e=>by
 have hn:=x.fresh hp
 by_cases hb:b=a
 ·subst hb;rw[jak] at e;cases e;exact new
 ·rw[jag hb] at e;exact (x b u e).stay (fun c v _ q=>k c v q) (fun c q=>by rw[jag (ja1 q hn)];exact q) fun c xs q=>by rw[jag (ja1 q hn)];exact q
end
noncomputable def Rd(H:Hp)(a:Addr)(u:HO):Prop:=H a=some u\/∃ o,H a=some (.frz o u)
theorem Rd.ok{P:Program}{w:World}{H:Hp}{h:Heap}{a:Addr}{u:HO}(r:Rd H a u)(x:HOk P w H h):ObjOk P w H h a u:=by
 rcases r with r|⟨o,r⟩
 ·exact x a u r
 ·obtain⟨_,q⟩:=x a _ r;exact q
noncomputable def Mut:Option HO->Prop
 | some (.lst _)=>True
 | some (.dK _)=>True
 | some (.dT _)=>True
 | some (.set _ _)=>True
 | some (.ins _ _ _)=>True
 | some (.ext _)=>True
 | _=>False
section
variable {P:Program}{w:World}{H:Hp}{h h':Heap}{x e:Addr}{o':HO}
theorem HOk.write(ok:HOk P w H h)(mu:Mut (H x))(he:e=x\/H e=some (.own x))(k:∀ b u,b≠e->h.get? b=some u->h'.get? b=some u)(heo:∃ u,h'.get? e=some u)
  (new:ObjOk P w (upd H x o') h' x o'):HOk P w (upd H x o') h':=fun b u q=>by
 have nown:∀ c y,H c=some (.own y)->c≠x:=fun c y r z=>by subst z;rw[r] at mu;exact mu
 have ntup:∀ c xs,H c=some (.tup xs)->c≠x:=fun c xs r z=>by subst z;rw[r] at mu;exact mu
 by_cases hb:b=x
 ·subst hb;rw[jak] at q;cases q;exact new
 ·rw[jag hb] at q
  by_cases hbe:b=e
  ·have q':H b=some (.own x):=by
    rcases he with z|z
    ·exact absurd (hbe.trans z) hb
    ·rw[hbe];exact z
   rw[q] at q';cases q'
   obtain⟨v,hv⟩:=heo;exact⟨v,by rw[hbe];exact hv⟩
  ·refine (ok b u q).stay (fun c v hc r=>k c v ?_ r) (fun c r=>by rw[jag (nown c b r)];exact r) fun c xs r=>by rw[jag (ntup c xs r)];exact r
   rcases hc with rfl|hc
   ·exact hbe
   ·rintro rfl;rcases he with z|z
    ·exact nown c b hc z
    ·rw[hc] at z;cases z;exact hb rfl
end
structure Un(fs ex:List Addr)(H H':Hp)(h h':Heap):Prop where
 keep:∀ b o,h.get? b=some o->H b=none->b∉fs->b∉ex->h'.get? b=some o
 slot:∀ b o,h.get? b=some o->H b=none->b∈fs->b∉ex->∃ sl,h'.get? b=some { o with slots:=sl }
 free:∀ b o,h.get? b=some o->H b=none->b∉ex->H' b=none
 there:∀ b o,h.get? b=some o->b∉ex->∃ o',h'.get? b=some o'
 tups:∀ b xs,H b=some (.tup xs)->H' b=some (.tup xs)
 frzs:∀ b o u,H b=some (.frz o u)->H' b=some (.frz o u)
 tbls:∀ b ps,H b=some (.tbl ps)->∃ more,H' b=some (.tbl (ps++more))
section
variable {fs ex:List Addr}{H H1:Hp}{h h1 h':Heap}{a x e:Addr}{o:HO}
theorem Un.any(u:Un fs ex H H1 h h1){b:Addr}{ob:Obj}(q:h.get? b=some ob)(n:H b=none)(hx:b∉ex):∃ sl,h1.get? b=some { ob with slots:=sl }:=by
 by_cases hb:b∈fs
 ·exact u.slot b ob q n hb hx
 ·exact⟨ob.slots,u.keep b ob q n hb hx⟩
theorem Un.kept(k:∀ b u,h.get? b=some u->h'.get? b=some u):Un fs ex H H h h' :=
 ⟨fun b ob q _ _ _=>k b ob q,fun b ob q _ _ _=>⟨ob.slots,k b ob q⟩,fun _ _ _ n _=>n,fun b ob q _=>⟨ob,k b ob q⟩,fun _ _ q=>q,fun _ _ _ q=>q,fun _ ps q=>⟨#[],by rw[q];simp⟩⟩
theorem Un.refl:Un fs ex H H h h:=Un.kept fun _ _ q=>q
theorem Un.laid(k:∀ b u,h.get? b=some u->h'.get? b=some u)(hp:h.objs.size<=a)(hn:H a=none):Un fs ex H (upd H a o) h h' where
 keep:=fun b u q _ _ _=>k b u q
 slot:=fun b u q _ _ _=>⟨u.slots,k b u q⟩
 free:=fun b u q n _=>by rw[jag (zcv (zcx (zbv q) hp))];exact n
 there:=fun b u q _=>⟨u,k b u q⟩
 tups:=fun b xs q=>by rw[jag (ja1 q hn)];exact q
 frzs:=fun b u xs q=>by rw[jag (ja1 q hn)];exact q
 tbls:=fun b ps q=>⟨#[],by rw[jag (ja1 q hn),q];simp⟩
theorem Un.write(mu:Mut (H x))(he:e=x\/H e=some (.own x))(k:∀ b u,b≠e->h.get? b=some u->h'.get? b=some u)(heo:∃ u,h'.get? e=some u):Un fs ex H (upd H x o) h h':=by
 have hx:∀ b,H b=none->b≠x:=fun b n z=>by subst z;rw[n] at mu;exact mu
 have hb:∀ b,H b=none->b≠e:=fun b n z=>by
  subst z;rcases he with r|r
  ·exact hx b n r
  ·rw[n] at r;cases r
 have hm:∀ b u,H b=some u->¬ Mut (some u)->b≠x:=fun b u q nm z=>by subst z;rw[q] at mu;exact nm mu
 refine⟨fun b u q n _ _=>k b u (hb b n) q,fun b u q n _ _=>⟨u.slots,k b u (hb b n) q⟩,fun b u q n _=>by rw[jag (hx b n)];exact n,fun b u q _=>?_,
  fun b xs q=>by rw[jag (hm b _ q fun z=>z)];exact q,fun b u xs q=>by rw[jag (hm b _ q fun z=>z)];exact q,fun b ps q=>⟨#[],by rw[jag (hm b _ q fun z=>z),q];simp⟩⟩
 by_cases hbe:b=e
 ·subst hbe;exact heo
 ·exact⟨u,k b u hbe q⟩
end
noncomputable def trk(h:Heap)(H:Hp):List Addr:=(List.range h.objs.size).filter fun a=>(H a).isSome
noncomputable def hidT(h:Heap)(H:Hp):Heap:=W.hideAll h (trk h H)
theorem jn8(h:Heap)(H:Hp):(hidT h H).objs.size=h.objs.size:=W.hideAll_size _ _
theorem jqm{h:Heap}{H:Hp}{b:Addr}{o:Obj}(e:h.get? b=some o)(n:H b=none):(hidT h H).get? b=some o :=
 W.hideAll_get _ e fun hm=>by
  have q:(H b).isSome=true:=(List.mem_filter.mp hm).2;rw[n] at q;simp at q
theorem jt4{h:Heap}{H:Hp}{b:Addr}{o:Obj}(e:(hidT h H).get? b=some o):h.get? b=some o/\H b=none:=by
 have e':h.get? b=some o:=W.of_hideAll (trk h H) e;refine⟨e',?_⟩
 cases q:H b with
 | none=>rfl
 | some x =>
  have hm:b∈trk h H:=List.mem_filter.mpr ⟨zcb.mpr (zbv e'),by simp[q]⟩;have z:(hidT h H).get? b=none:=W.hideAll_none (trk h H) hm;rw[z] at e;cases e
noncomputable def jso(g h:Heap)(L:Addr):List (Addr×Obj):=(List.range h.objs.size).filterMap fun a=>if a=L\/(g.get? a).isSome=true then none else (h.get? a).map fun o=>(a,o)
noncomputable def rest(g h:Heap)(L d:Addr):List (Addr×Obj):=(jso g h L).filter fun p=>decide (p.1≠d)
structure Mod(K:W.Frag)(mg:Str->Option Value)(base:Heap):Prop where
 kin:K.In base
 glob:base.Ns mainGlobals mg
 blt:∃ mb,base.Ns builtinsNs mb/\∀ x:Str,x≠"__name__"->mb x=bootBuiltins x
 nolimit:base.NoLimit
structure Cx where
 prog:Program
 w:World
 K:W.Frag
 mg:Str->Option Value
 base:Heap
 A:Around
 N:List Str
 s₀:Shared
 Hz:Hp
 env:Env
 outer:List Env
 stack:List Env
 ex:List Addr
 fn:Str->Bool
 calm:Bool
 pn:List (Addr×Obj)
 xe:Value->Shared->Prop
noncomputable def frs(l:List Env):List Addr:=l.filterMap (·.frame)
noncomputable abbrev Cx.fs(X:Cx):List Addr:=frs X.outer
noncomputable def Vis(sc:Scope)(x:Str):Prop:=sc.names.lookup x=some .local\/sc.names.lookup x=some .cell\/sc.names.lookup x=some .free
noncomputable def Loc(sc:Scope)(x:Str):Prop:=sc.names.lookup x=some .local\/sc.names.lookup x=some .cell
noncomputable def Look(env:Env)(h:Heap)(m:Str->Option Value)(x:Str)(u:Value):Prop :=
 (env.kindOf x=some .local/\m x=some u)\/((env.kindOf x=some .cell\/env.kindOf x=some .free)/\∃ c,env.cells.lookup x=some c/\h.IsCell c (some u))
structure Cx.Ok(X:Cx):Prop where
 mod:Mod X.K X.mg X.base
 kind:X.env.scope.kind=.function
 glob:X.env.globals=mainGlobals
 blt:X.env.builtins=builtinsNs
 above:X.s₀.heap.objs.size<=X.env.locals
 inj:∀ x y c,X.env.cells.lookup x=some c->X.env.cells.lookup y=some c->x=y
 has:∀ x,(X.env.kindOf x=some .cell\/X.env.kindOf x=some .free)->∃ c,X.env.cells.lookup x=some c
 cab:∀ x c,X.fn x=true->X.env.cells.lookup x=some c->X.s₀.heap.objs.size<=c
 hd:X.calm=true->X.A.handled=none
 frames:X.A.frames=some X.stack
 stk:X.stack=X.outer\/(X.stack=X.env::X.outer/\X.env.frame=some X.env.locals)
 exf:∀ b∈X.ex,b≠X.env.locals/\∀ x c,X.env.cells.lookup x=some c->c≠b
 bs:∀ b o,X.base.get? b=some o->X.s₀.heap.get? b=some o/\X.Hz b=none
 bsz:X.base.objs.size<=X.s₀.heap.objs.size
 noex:∀ b o,X.base.get? b=some o->b∉X.ex
 exfs:∀ b∈X.ex,b∉X.fs
 funs:X.s₀.heap.FunFrames X.base X.outer
 frf:∀ b∈X.fs,X.Hz b=none
structure Inv(X:Cx)(pins:List (Addr×Obj))(σ:List (Option V))(H:Hp)(s:Shared):Prop where
 ok:X.Ok
 os:s.os=X.s₀.os
 bare:AllBare s.gens
 base:Un X.fs X.ex X.Hz H X.s₀.heap s.heap
 loc:∃ m,s.heap.Ns X.env.locals m/\∀ (i:Nat) (x:Str) (v:V),X.N[i]? = some x->σ[i]? = some (some v)->Vis X.env.scope x->∃ u,RelV v u/\Look X.env s.heap m x u
 cell:∀ x c,X.env.cells.lookup x=some c->∃ v,s.heap.IsCell c v
 free:H X.env.locals=none
 freeC:∀ x c,X.env.cells.lookup x=some c->H c=none
 pin:∀ p∈X.pn++pins,s.heap.get? p.1=some p.2/\H p.1=none/\p.1≠X.env.locals/\p.1∉X.fs/\∀ v,p.2.data≠.cell v
 hok:HOk X.prog X.w H s.heap
 len:σ.length=X.N.length
section
variable {X:Cx}{pins:List (Addr×Obj)}{σ:List (Option V)}{H H':Hp}{s:Shared}{h':Heap}
theorem Cx.Ok.nofr(ok:X.Ok){b:Addr}{o:Obj}(e:X.base.get? b=some o):b∉X.fs:=fun hb=>by
 have:=(ok.funs.mem hb).1;rw[e] at this;cases this
theorem Inv.bs(I:Inv X pins σ H s):∀ b o,X.base.get? b=some o->s.heap.get? b=some o/\H b=none:=fun b o e =>
 ⟨I.base.keep b o (I.ok.bs b o e).1 (I.ok.bs b o e).2 (I.ok.nofr e) (I.ok.noex b o e),I.base.free b o (I.ok.bs b o e).1 (I.ok.bs b o e).2 (I.ok.noex b o e)⟩
theorem Inv.bk(I:Inv X pins σ H s):∀ b o,X.base.get? b=some o->s.heap.get? b=some o:=fun b o e=>(I.bs b o e).1
theorem Inv.mod(I:Inv X pins σ H s):Mod X.K X.mg X.base:=I.ok.mod
theorem Inv.kIn(I:Inv X pins σ H s):X.K.In s.heap:=I.ok.mod.kin.keeps I.bk
theorem Inv.lt(I:Inv X pins σ H s):X.env.locals<s.heap.objs.size:=let ⟨_,hn,_⟩:=I.loc;hn.lt
theorem Inv.sz(I:Inv X pins σ H s):X.s₀.heap.objs.size<=s.heap.objs.size:=Nat.le_trans I.ok.above (Nat.le_of_lt I.lt)
theorem Inv.nofs(I:Inv X pins σ H s){a:Addr}(h:s.heap.objs.size<=a):a∉X.fs:=fun hb=>by
 obtain⟨_,o,ho,_⟩:=I.ok.funs.mem hb;exact absurd (zcx (zbv ho) (Nat.le_trans I.sz h)) (Nat.lt_irrefl _)
theorem Inv.cne(I:Inv X pins σ H s):∀ x c,X.env.cells.lookup x=some c->c≠X.env.locals:=fun x c e z=>by
 obtain⟨v,o,ho,hd⟩:=I.cell x c e;obtain⟨m,⟨o',es,ep,ho',hd',_⟩,_⟩:=I.loc;rw[z,ho'] at ho;cases ho;rw[hd'] at hd;cases hd
theorem Inv.funs(I:Inv X pins σ H s):s.heap.FunFrames X.base X.outer:=by
 have all:∀ (l:List Env),(∀ b∈frs l,b∈X.fs)->X.s₀.heap.FunFrames X.base l->s.heap.FunFrames X.base l:=by
  intro l
  induction l with
  | nil=>intro _ _;trivial
  | cons env r ih =>
   intro hs hl;obtain⟨hk,⟨L,o,hf,hn,ho,hd⟩,hr⟩:=hl;have hL:L∈X.fs:=hs L (by unfold frs;rw[List.filterMap_cons,hf];exact zaa);obtain⟨sl,e⟩:=I.base.slot L o ho (I.ok.frf L hL) hL fun z=>I.ok.exfs L z hL
   exact⟨hk,⟨L,_,hf,hn,e,hd⟩,ih (fun b hb=>hs b (by unfold frs;rw[List.filterMap_cons,hf];exact zaw _ hb)) hr⟩
 exact all X.outer (fun _ hb=>hb) I.ok.funs
theorem Inv.stack(I:Inv X pins σ H s):s.heap.FunFrames X.base X.stack:=by
 rcases I.ok.stk with e|⟨e,hf⟩
 ·rw[e];exact I.funs
 ·rw[e];obtain⟨m,hn,_⟩:=I.loc;refine .cons (by rw[I.ok.kind];decide) hf hn ?_ I.funs;exact Heap.get?_none_of_le (Nat.le_trans I.ok.bsz I.ok.above)
theorem Inv.stkSub(I:Inv X pins σ H s):∀ b∈frs X.stack,b∈X.env.locals::X.fs:=fun b hb=>by
 rcases I.ok.stk with e|⟨e,hf⟩
 ·rw[e] at hb;exact zaw _ hb
 ·rw[e] at hb;unfold frs at hb;rw[List.filterMap_cons,hf] at hb;exact hb
theorem Inv.stkFree(I:Inv X pins σ H s):∀ b∈frs X.stack,H b=none:=fun b hb=>by
 rcases List.mem_cons.mp (I.stkSub b hb) with e|hb
 ·rw[e];exact I.free
 ·obtain⟨_,o,ho,_⟩:=I.ok.funs.mem hb;exact I.base.free b o ho (I.ok.frf b hb) fun z=>I.ok.exfs b z hb
theorem Inv.step{g':Array GenState}{t':Nat}{d':Drawn}{ch:List Addr}(I:Inv X pins σ H s)
  (hch:∀ b∈ch,(b∈X.ex\/X.s₀.heap.objs.size<=b)/\b≠X.env.locals/\(∀ x c,X.env.cells.lookup x=some c->c≠b)/\∀ p∈X.pn++pins,p.1≠b)
  (keep:∀ b o,b≠X.env.locals->b∉X.fs->b∉ch->s.heap.get? b=some o->H b=none->h'.get? b=some o)
  (slot:∀ b o,b≠X.env.locals->b∈X.fs->b∉ch->s.heap.get? b=some o->H b=none->∃ sl,h'.get? b=some { o with slots:=sl }) (free:∀ b o,b∉ch->s.heap.get? b=some o->H b=none->H' b=none)
  (there:∀ b o,b∉ch->s.heap.get? b=some o->∃ o',h'.get? b=some o')
  (tups:∀ b xs,H b=some (.tup xs)->H' b=some (.tup xs)) (frzs:∀ b o u,H b=some (.frz o u)->H' b=some (.frz o u)) (tbls:∀ b ps,H b=some (.tbl ps)->∃ more,H' b=some (.tbl (ps++more)))
  (ns:∀ m,s.heap.Ns X.env.locals m->h'.Ns X.env.locals m) (hok:HOk X.prog X.w H' h') (hg:AllBare g') :
  Inv X pins σ H' { s with heap:=h',gens:=g',drawn:=d',toks:=t' }:=by
 have neL:∀ b o,X.s₀.heap.get? b=some o->b≠X.env.locals:=fun b o e=>zcv (zcx (zbv e) I.ok.above)
 have neC:∀ b o,X.s₀.heap.get? b=some o->b∉X.ex->b∉ch:=fun b o e hx hb=>by
  rcases (hch b hb).1 with z|z
  ·exact hx z
  ·exact absurd (zcx (zbv e) z) (Nat.lt_irrefl _)
 have cellK:∀ x c,X.env.cells.lookup x=some c->∀ v,s.heap.IsCell c v->h'.IsCell c v:=fun x c e v ⟨o,ho,hd⟩=>by
  have nch:c∉ch:=fun z=>(hch c z).2.2.1 x c e rfl
  by_cases hc:c∈X.fs
  ·obtain⟨sl,q⟩:=slot c o (I.cne x c e) hc nch ho (I.freeC x c e);exact⟨_,q,hd⟩
  ·exact⟨o,keep c o (I.cne x c e) hc nch ho (I.freeC x c e),hd⟩
 refine⟨I.ok,I.os,hg,⟨fun b o e n hb hx=>?_,fun b o e n hb hx=>?_,fun b o e n hx=>?_,fun b o e hx=>?_,fun b xs e=>tups b xs (I.base.tups b xs e),fun b o xs e=>frzs b o xs (I.base.frzs b o xs e),fun b ps e=>?_⟩,?_,fun x c e=>?_,?_,fun x c e=>?_,fun p hp=>?_,hok,I.len⟩
 ·exact keep b o (neL b o e) hb (neC b o e hx) (I.base.keep b o e n hb hx) (I.base.free b o e n hx)
 ·obtain⟨sl,e1⟩:=I.base.slot b o e n hb hx;obtain⟨sl',e2⟩:=slot b _ (neL b o e) hb (neC b o e hx) e1 (I.base.free b o e n hx);exact⟨sl',e2⟩
 ·obtain⟨o',e1⟩:=I.base.there b o e hx;exact free b o' (neC b o e hx) e1 (I.base.free b o e n hx)
 ·obtain⟨o',e1⟩:=I.base.there b o e hx;exact there b o' (neC b o e hx) e1
 ·obtain⟨m1,e1⟩:=I.base.tbls b ps e;obtain⟨m2,e2⟩:=tbls b _ e1;exact⟨m1++m2,by rw[e2,Array.append_assoc]⟩
 ·obtain⟨m,hn,hl⟩:=I.loc;refine⟨m,ns m hn,fun i x v e1 e2 e3=>?_⟩;obtain⟨u,r,l⟩:=hl i x v e1 e2 e3;refine⟨u,r,?_⟩;rcases l with l|⟨k,c,e,z⟩
  ·exact .inl l
  ·exact .inr ⟨k,c,e,cellK x c e _ z⟩
 ·obtain⟨v,z⟩:=I.cell x c e;exact⟨v,cellK x c e v z⟩
 ·obtain⟨m,⟨o,_,_,ho,_⟩,_⟩:=I.loc;exact free _ o (fun z=>(hch _ z).2.1 rfl) ho I.free
 ·obtain⟨v,o,ho,hd⟩:=I.cell x c e;exact free c o (fun z=>(hch c z).2.2.1 x c e rfl) ho (I.freeC x c e)
 ·obtain⟨e,n,ne,nf,d⟩:=I.pin p hp;have nch:p.1∉ch:=fun z=>(hch p.1 z).2.2.2 p hp rfl
  exact⟨keep p.1 p.2 ne nf nch e n,free p.1 p.2 nch e n,ne,nf,d⟩
theorem Inv.un{t':Nat}(I:Inv X pins σ H s)(u:Un X.fs [] H H' s.heap h')(hok:HOk X.prog X.w H' h'):Inv X pins σ H' { s with heap:=h',toks:=t' }:=by
 obtain⟨m,⟨o,es,ep,ho,r⟩,_⟩:=id I.loc;obtain⟨sl,hL⟩:=u.any ho I.free (by simp);exact I.step (g':=s.gens) (d':=s.drawn) (ch:=[]) (fun _ z=>nomatch z) (fun b o _ hb _ e n=>u.keep b o e n hb (by simp)) (fun b o _ hb _ e n=>u.slot b o e n hb (by simp)) (fun b o _ e n=>u.free b o e n (by simp)) (fun b o _ e=>u.there b o e (by simp)) u.tups u.frzs u.tbls (fun m' hm=>by
  obtain⟨o',es',ep',ho',r'⟩:=hm;rw[ho] at ho';cases ho'
  exact⟨_,es',ep',hL,r'⟩) hok I.bare
theorem Inv.call{g':Array GenState}{t':Nat}{d':Drawn}{ch:List Addr}(I:Inv X pins σ H s)(u:Un (frs X.stack) ch H H' s.heap h')(hok:HOk X.prog X.w H' h')(hg:AllBare g')
  (hch:∀ b∈ch,(b∈X.ex\/X.s₀.heap.objs.size<=b)/\b≠X.env.locals/\(∀ x c,X.env.cells.lookup x=some c->c≠b)/\∀ p∈X.pn++pins,p.1≠b) :
  Inv X pins σ H' { s with heap:=h',gens:=g',drawn:=d',toks:=t' }:=by
 obtain⟨m,⟨o,es,ep,ho,r⟩,_⟩:=id I.loc;obtain⟨sl,hL⟩:=u.any ho I.free fun z=>(hch _ z).2.1 rfl
 exact I.step (ch:=ch) hch (fun b o hL hb hc e n=>u.keep b o e n (fun z=>(List.mem_cons.mp (I.stkSub b z)).elim hL hb) hc) (fun b o _ _ hc e n=>u.any e n hc) (fun b o hc e n=>u.free b o e n hc) (fun b o hc e=>u.there b o e hc) u.tups u.frzs u.tbls (fun m' hm=>by
  obtain⟨o',es',ep',ho',r'⟩:=hm;rw[ho] at ho';cases ho'
  exact⟨_,es',ep',hL,r'⟩) hok hg
theorem Inv.turned{t':Nat}{it:Addr}(I:Inv X pins σ H s)(k:∀ b o,b≠it->s.heap.get? b=some o->h'.get? b=some o)(hn:H it=none)(hL:it≠X.env.locals)
  (h1:it∈X.ex\/X.s₀.heap.objs.size<=it) (h2:∀ x c,X.env.cells.lookup x=some c->c≠it) (h3:∀ p∈X.pn++pins,p.1≠it):Inv X pins σ H { s with heap:=h',toks:=t' }:=by
 have nit:∀ b u,H b=some u->b≠it:=fun b u e z=>by rw[z,hn] at e;cases e
 refine I.step (g':=s.gens) (d':=s.drawn) (ch:=[it]) (fun b hb=>?_) (fun b o _ _ hc e _=>k b o (fun z=>hc (by simp[z])) e) (fun b o _ _ hc e _=>⟨o.slots,k b o (fun z=>hc (by simp[z])) e⟩) (fun _ _ _ _ n=>n)
  (fun b o hc e=>⟨o,k b o (fun z=>hc (by simp[z])) e⟩) (fun _ _ e=>e) (fun _ _ _ e=>e) (fun b ps e=>⟨#[],by rw[e];simp⟩) (fun m hm=>?_) (fun b u e=>?_) I.bare
 ·have e:b=it:=by simpa using hb
  subst e;exact⟨h1,hL,h2,h3⟩
 ·obtain⟨o,es,ep,ho,r⟩:=hm;exact⟨o,es,ep,k _ o (Ne.symm hL) ho,r⟩
 ·refine (I.hok b u e).stay (fun c v hc q=>k c v ?_ q) (fun _ q=>q) fun _ _ q=>q
  rcases hc with z|z
  ·rw[z];exact nit b u e
  ·exact nit c _ z
theorem Inv.tok(I:Inv X pins σ H s)(t:Nat):Inv X pins σ H { s with toks:=t }:=I.un (h':=s.heap) (t':=t) Un.refl I.hok
theorem Inv.kept{t':Nat}(I:Inv X pins σ H s)(k:∀ b u,s.heap.get? b=some u->h'.get? b=some u):Inv X pins σ H { s with heap:=h',toks:=t' }:=I.un (Un.kept k) (I.hok.kept k)
theorem Inv.laid{a:Addr}{o:HO}{t':Nat}(I:Inv X pins σ H s)(k:∀ b u,s.heap.get? b=some u->h'.get? b=some u)(hp:s.heap.objs.size<=a)(new:ObjOk X.prog X.w (upd H a o) h' a o) :
  Inv X pins σ (upd H a o) { s with heap:=h',toks:=t' }:=I.un (Un.laid k hp (I.hok.fresh hp)) (I.hok.laid k hp new)
theorem Inv.write{x e:Addr}{o:HO}{t':Nat}(I:Inv X pins σ H s)(mu:Mut (H x))(he:e=x\/H e=some (.own x))(k:∀ b u,b≠e->s.heap.get? b=some u->h'.get? b=some u)(heo:∃ u,h'.get? e=some u)
  (new:ObjOk X.prog X.w (upd H x o) h' x o):Inv X pins σ (upd H x o) { s with heap:=h',toks:=t' }:=I.un (Un.write mu he k heo) (I.hok.write mu he k heo new)
theorem Inv.pins_of{pins':List (Addr×Obj)}(I:Inv X pins σ H s)(h:∀ p∈pins',s.heap.get? p.1=some p.2/\H p.1=none/\p.1≠X.env.locals/\p.1∉X.fs/\∀ v,p.2.data≠.cell v):Inv X pins' σ H s :=
 ⟨I.ok,I.os,I.bare,I.base,I.loc,I.cell,I.free,I.freeC,fun p hp=>(List.mem_append.mp hp).elim (fun z=>I.pin p (List.mem_append_left _ z)) (h p),I.hok,I.len⟩
theorem jjf{N:List Str}(hN:N.Nodup){i j:Nat}{x:Str}(a:N[i]? = some x)(b:N[j]? = some x):i=j:=by
 obtain⟨h1,e1⟩:=zbb.mp a;obtain⟨h2,e2⟩:=zbb.mp b;exact (List.getElem_inj hN).mp (e1.trans e2.symm)
theorem jky{M:Model}{A:Around}{E:Value->Shared->Prop}{i:Nat}{x:Str}{v:V}{u:Value}{Q:Unit->Shared->Prop}(I:Inv X pins σ H s)(hN:X.N.Nodup)(hi:X.N[i]? = some x)(hx:Loc X.env.scope x)(r:RelV v u)
  (h:∀ s',Inv X pins (σ.set i (some v)) H s'->(∃ a,Heap.SameBut a s.heap s'.heap/\(a=X.env.locals\/X.env.cells.lookup x=some a))->Q () s') (hf:autoParam (X.fn x=true\/X.env.scope.names.lookup x=some .local) zau0._auto_1):wpAny M A (storeName X.env x u) Q E s:=by
 obtain⟨m,hn,hl⟩:=id I.loc;have hcls:(X.env.scope.kind == .class || (X.env.scope.kind == .module&&X.env.locals != X.env.globals))=false:=by rw[I.ok.kind];rfl
 have hiσ:i<σ.length:=by rw[I.len];exact (zbb.mp hi).1
 have cne:=I.cne;have tracked:∀ {a:Addr} {h':Heap},(∃ o,s.heap.get? a=some o/\H a=none)->Heap.SameBut a s.heap h'->HOk X.prog X.w H h':=fun {a h'} ha hs b ob e=>by
  obtain⟨_,_,hfree⟩:=ha;refine (I.hok b ob e).stay (fun c w' hc q=>(hs.2 c ?_).trans q) (fun _ q=>q) fun _ _ q=>q
  rintro rfl;rcases hc with rfl|hc
  ·rw[hfree] at e;cases e
  ·rw[hfree] at hc;cases hc
 rcases hx with hk|hk
 ·refine wpAny_storeName_local hk hn (fun h' hn' hs=>?_) hcls;obtain⟨oL,_,_,hoL,_⟩:=id hn;refine h _ ⟨I.ok,I.os,I.bare,⟨fun b o e n hb hx=>?_,fun b o e n hb hx=>?_,I.base.free,fun b o e hx=>?_,I.base.tups,I.base.frzs,I.base.tbls⟩,⟨_,hn',fun j y v' e1 e2 e3=>?_⟩,fun y c e=>?_,I.free,I.freeC,fun p hp=>?_,tracked ⟨oL,hoL,I.free⟩ hs,by simpa using I.len⟩ ⟨_,hs,.inl rfl⟩
  ·exact (hs.2 b (zcv (zcx (zbv e) I.ok.above))).trans (I.base.keep b o e n hb hx)
  ·obtain⟨sl,e1⟩:=I.base.slot b o e n hb hx;exact⟨sl,(hs.2 b (zcv (zcx (zbv e) I.ok.above))).trans e1⟩
  ·obtain⟨o',e1⟩:=I.base.there b o e hx;exact⟨o',(hs.2 b (zcv (zcx (zbv e) I.ok.above))).trans e1⟩
  ·by_cases hj:j=i
   ·subst hj;rw[hi] at e1;cases e1
    rw[zcz hiσ] at e2;cases e2;exact⟨u,r,.inl ⟨hk,by simp⟩⟩
   ·rw[zbw (Ne.symm hj)] at e2;obtain⟨u',r',q⟩:=hl j y v' e1 e2 e3;refine⟨u',r',?_⟩;rcases q with ⟨k,e⟩|⟨k,c,e,z⟩
    ·refine .inl ⟨k,?_⟩;have:y≠x:=fun e=>hj (jjf hN e1 (e ▸ hi))
     simp[this,e]
    ·exact .inr ⟨k,c,e,z.sameBut hs (cne y c e)⟩
  ·obtain⟨w',z⟩:=I.cell y c e;exact⟨w',z.sameBut hs (cne y c e)⟩
  ·obtain⟨e,n,ne,nf,d⟩:=I.pin p hp;exact⟨(hs.2 p.1 ne).trans e,n,ne,nf,d⟩
 ·have hfn:X.fn x=true:=by
   rcases hf with z|z
   ·exact z
   ·rw[z] at hk;cases hk
  obtain⟨c,hc⟩:=I.ok.has x (.inl hk);obtain⟨w',z⟩:=I.cell x c hc;refine wpAny_storeName_cell I.ok.kind hk hc z (fun h' hc' hs=>?_);obtain⟨oc,hoc,hocd⟩:=id z;refine h { s with heap:=h' } ⟨I.ok,I.os,I.bare,⟨fun b o e n hb hx=>?_,fun b o e n hb hx=>?_,I.base.free,fun b o e hx=>?_,I.base.tups,I.base.frzs,I.base.tbls⟩,⟨m,hn.sameBut hs (Ne.symm (cne x c hc)),fun j y v' e1 e2 e3=>?_⟩,fun y c' e=>?_,I.free,I.freeC,fun p hp=>?_,tracked ⟨oc,hoc,I.freeC x c hc⟩ hs,by simpa using I.len⟩ ⟨c,hs,.inr hc⟩
  ·exact (hs.2 b (zcv (zcx (zbv e) (I.ok.cab x c hfn hc)))).trans (I.base.keep b o e n hb hx)
  ·obtain⟨sl,e1⟩:=I.base.slot b o e n hb hx;exact⟨sl,(hs.2 b (zcv (zcx (zbv e) (I.ok.cab x c hfn hc)))).trans e1⟩
  ·obtain⟨o',e1⟩:=I.base.there b o e hx;exact⟨o',(hs.2 b (zcv (zcx (zbv e) (I.ok.cab x c hfn hc)))).trans e1⟩
  ·by_cases hj:j=i
   ·subst hj;rw[hi] at e1;cases e1
    rw[zcz hiσ] at e2;cases e2;exact⟨u,r,.inr ⟨.inl hk,c,hc,hc'⟩⟩
   ·rw[zbw (Ne.symm hj)] at e2;obtain⟨u',r',q⟩:=hl j y v' e1 e2 e3;refine⟨u',r',?_⟩;rcases q with q|⟨k,c',e,z'⟩
    ·exact .inl q
    ·refine .inr ⟨k,c',e,z'.sameBut hs ?_⟩;rintro rfl;exact hj (jjf hN e1 (I.ok.inj _ _ _ e hc ▸ hi))
  ·by_cases hcc:c'=c
   ·subst hcc;exact⟨_,hc'⟩
   ·obtain⟨w2,z2⟩:=I.cell y c' e;exact⟨w2,z2.sameBut hs hcc⟩
  ·obtain⟨e,n,ne,nf,d⟩:=I.pin p hp;refine⟨(hs.2 p.1 ?_).trans e,n,ne,nf,d⟩;intro q;rw[q,hoc] at e;have q':oc=p.2:=zby e;exact d w' (by rw[<- q'];exact hocd)
theorem jha{M:Model}{A:Around}{E:Value->Shared->Prop}{i:Nat}{x:Str}{v:V}{u:Value}{Q:Unit->Shared->Prop}(I:Inv X pins σ H s)(hN:X.N.Nodup)(hi:X.N[i]? = some x)(hx:Loc X.env.scope x)(r:RelV v u)
  (h:∀ s',Inv X pins (σ.set i (some v)) H s'->Q () s') (hf:autoParam (X.fn x=true\/X.env.scope.names.lookup x=some .local) zau0._auto_1):wpAny M A (storeName X.env x u) Q E s :=
 jky I hN hi hx r (fun s' I' _=>h s' I') hf
theorem Inv.call'{s':Shared}{ch:List Addr}(I:Inv X pins σ H s)(ho:s'.os=s.os)(u:Un (frs X.stack) ch H H' s.heap s'.heap)(hok:HOk X.prog X.w H' s'.heap)(hg:AllBare s'.gens)
  (hch:∀ b∈ch,(b∈X.ex\/X.s₀.heap.objs.size<=b)/\b≠X.env.locals/\(∀ x c,X.env.cells.lookup x=some c->c≠b)/\∀ p∈X.pn++pins,p.1≠b):Inv X pins σ H' s':=by
 obtain⟨h',g',d',t',o'⟩:=s';have e:o'=s.os:=ho;subst e;exact I.call (g':=g') (t':=t') (d':=d') u hok hg hch
end
noncomputable abbrev XK:=Value->Option Addr->Hp->Prop
noncomputable abbrev St:=List (Option V)
noncomputable abbrev VK:=V->Hp->Prop
noncomputable abbrev TE:=St->Hp->VK->Prop
noncomputable abbrev TT:=St->Hp->(Bool->Hp->Prop)->Prop
noncomputable abbrev TA:=St->Hp->(List V->Hp->Prop)->Prop
structure Ends where
 nx:St->Hp->Prop
 rt:VK
 bk:St->Hp->Prop:=fun _ _=>False
 ct:St->Hp->Prop:=fun _ _=>False
noncomputable abbrev TS:=Ends->St->Hp->Prop
inductive EP(X:Cx)(pins:List (Addr×Obj))(σ:St)(Q:VK)(u:Value)(s':Shared):Prop
 | mk (v:V) (H':Hp) (h0:Inv X pins σ H' s') (h1:RelV v u) (h2:Q v H')
inductive TP(X:Cx)(pins:List (Addr×Obj))(σ:St)(Q:Bool->Hp->Prop)(b:Bool)(s':Shared):Prop
 | mk (H':Hp) (h0:Inv X pins σ H' s') (h1:Q b H')
inductive AP(X:Cx)(pins:List (Addr×Obj))(σ:St)(Q:List V->Hp->Prop)(us:List Value)(s':Shared):Prop
 | mk (vs:List V) (H':Hp) (h0:Inv X pins σ H' s') (h1:Vals vs us) (h2:Q vs H')
inductive SN(X:Cx)(pins:List (Addr×Obj))(Q:St->Hp->Prop)(s':Shared):Prop
 | mk (σ':St) (H':Hp) (hI:Inv X pins σ' H' s') (hq:Q σ' H')
inductive SR(X:Cx)(pins:List (Addr×Obj))(R:VK)(u:Value)(s':Shared):Prop
 | mk (v:V) (σ':St) (H':Hp) (hI:Inv X pins σ' H' s') (hr:RelV v u) (hq:R v H')
noncomputable def SP(X:Cx)(pins:List (Addr×Obj))(D:Ends)(f:Flow)(s':Shared):Prop :=
 match f with
 | .next=>SN X pins D.nx s'
 | .brk=>SN X pins D.bk s'
 | .cont=>SN X pins D.ct s'
 | .ret u=>SR X pins D.rt u s'
noncomputable def PE(X:Cx)(e:Expr)(t:TE):Prop :=
 ∀ (pins:List (Addr×Obj)) (s:Shared) (σ:St) (H:Hp) (Q:VK),Inv X pins σ H s->t σ H Q->wpAny (model X.prog X.w) X.A (eval e X.env) (EP X pins σ Q) X.xe s
noncomputable def PT(X:Cx)(e:Expr)(t:TT):Prop :=
 ∀ (pins:List (Addr×Obj)) (s:Shared) (σ:St) (H:Hp) (Q:Bool->Hp->Prop),Inv X pins σ H s->t σ H Q->wpAny (model X.prog X.w) X.A (isTrue e X.env (eval e X.env)) (TP X pins σ Q) X.xe s
noncomputable def PW(X:Cx)(e:Expr)(t:TT):Prop :=
 ∀ (whole:Sem Value) (pins:List (Addr×Obj)) (s:Shared) (σ:St) (H:Hp) (Q:Bool->Hp->Prop),Inv X pins σ H s->t σ H Q->wpAny (model X.prog X.w) X.A (isTrue e X.env whole) (TP X pins σ Q) X.xe s
theorem PW.pt{X:Cx}{e:Expr}{t:TT}(h:PW X e t):PT X e t:=h _
noncomputable def PA(X:Cx)(es:List Expr)(t:TA):Prop :=
 ∀ (pos:Pos) (pins:List (Addr×Obj)) (s:Shared) (σ:St) (H:Hp) (Q:List V->Hp->Prop),Inv X pins σ H s->t σ H Q->wpAny (model X.prog X.w) X.A (spliced (backTo pos (starEach es X.env))) (AP X pins σ Q) X.xe s
noncomputable def PS(X:Cx)(st:Stmt)(t:TS):Prop :=
 ∀ (pins:List (Addr×Obj)) (s:Shared) (σ:St) (H:Hp) (D:Ends),Inv X pins σ H s->t D σ H->wpAny (model X.prog X.w) X.A (exec st X.env) (SP X pins D) X.xe s
noncomputable def PSs(X:Cx)(st:List Stmt)(t:TS):Prop :=
 ∀ (pins:List (Addr×Obj)) (s:Shared) (σ:St) (H:Hp) (D:Ends),Inv X pins σ H s->t D σ H->wpAny (model X.prog X.w) X.A (execs st X.env) (SP X pins D) X.xe s
theorem thn{α:Type}{t:Sem α}{Q Q':α->Shared->Prop}{M:Model}{A:Around}{E:Value->Shared->Prop}{s:Shared}(h:wpAny M A t Q E s)(hQ:∀ a s,Q a s->Q' a s):wpAny M A t Q' E s:=wpAny_mono h hQ fun _ _ x=>x
section
variable {X:Cx}
noncomputable def tVar(i:Nat):TE:=fun σ H Q=>∃ v,σ[i]? = some (some v)/\Q v H
noncomputable def tC(v:V):TE:=fun _ H Q=>Q v H
theorem jo8{i:Nat}{x:Str}{pos:Pos}(hN:X.N[i]? = some x)(hv:Vis X.env.scope x)(hd:autoParam ((x == ("__debug__":Str))=false) zau1._auto_1)(hcd:autoParam ((x == ("__classdict__":Str))=false) zau1._auto_1):PE X (.Name x pos) (tVar i):=by
 intro pins s σ H Q I h;obtain⟨v,e,h⟩:=h;obtain⟨m,hn,hl⟩:=I.loc;obtain⟨u,r,l⟩:=hl i x v hN e hv;have fin:EP X pins σ Q u s:=⟨v,H,I,r,h⟩
 rcases l with ⟨hk,hm⟩|⟨hk,c,hc,hcell⟩
 ·exact wpAny_Name (wpAny_loadName_local I.ok.kind hk hn hm fin) hd
 ·rcases hk with hk|hk
  ·exact wpAny_Name (wpAny_loadName_cell I.ok.kind hk hc hcell fin) hd
  ·exact wpAny_Name (wpAny_loadName_free I.ok.kind hk hc hcell fin hcd) hd
theorem jwu{i j pos}:PE X (.Constant (.int i) j pos) (tC (.int i)):=fun _ _ _ H _ I h=>wpAny_Constant_int ⟨.int i,H,I.tok _,⟨_,rfl⟩,h⟩
theorem jyv{b j pos}:PE X (.Constant (.bool b) j pos) (tC (.bl b)):=fun _ _ _ H _ I h=>Constant_bool ⟨.bl b,H,I,rfl,h⟩
theorem jwv{j pos}:PE X (.Constant .none j pos) (tC .non):=fun _ _ _ H _ I h=>Constant_none ⟨.non,H,I,rfl,h⟩
theorem jww{x j pos}:PE X (.Constant (.str x) j pos) (tC (.str x)):=fun _ _ _ H _ I h=>Calls.Constant_str ⟨.str x,H,I.tok _,⟨_,rfl⟩,h⟩
noncomputable def Gl(X:Cx)(x:Str):Prop:=X.env.kindOf x=some .globalImplicit
theorem jgg{E:Value->Shared->Prop}{pins:List (Addr×Obj)}{s:Shared}{σ:St}{H:Hp}{x:Str}{u:Value}{pos:Pos}{Q:Value->Shared->Prop}(I:Inv X pins σ H s)(hg:Gl X x)(hm:X.mg x=some u)(h:Q u s)
  (hd:autoParam ((x == ("__debug__":Str))=false) zau1._auto_1):wpAny (model X.prog X.w) X.A (eval (.Name x pos) X.env) Q E s :=
 Calls.Name_function_global I.ok.kind hg (Calls.loadGlobal_global (by rw[I.ok.glob];exact I.mod.glob.keeps I.bk) hm h) hd
theorem jis{E:Value->Shared->Prop}{pins:List (Addr×Obj)}{s:Shared}{σ:St}{H:Hp}{x:Str}{u:Value}{pos:Pos}{Q:Value->Shared->Prop}(I:Inv X pins σ H s)(hg:Gl X x)(hm:X.mg x=none)(hv:bootBuiltins x=some u)(h:Q u s)
  (hn:autoParam (x≠"__name__") zau1._auto_1) (hd:autoParam ((x == ("__debug__":Str))=false) zau1._auto_1):wpAny (model X.prog X.w) X.A (eval (.Name x pos) X.env) Q E s:=by
 obtain⟨mb,h1,h2⟩:=I.mod.blt;exact Calls.Name_function_global I.ok.kind hg (Calls.loadGlobal_builtin (by rw[I.ok.glob];exact I.mod.glob.keeps I.bk) hm (by rw[I.ok.blt];exact h1.keeps I.bk) ((h2 x hn).trans hv) h) hd
theorem jlo{x:Str}{v:V}{u:Value}{pos:Pos}(hg:Gl X x)(hm:X.mg x=some u)(r:RelV v u)(hd:autoParam ((x == ("__debug__":Str))=false) zau1._auto_1):PE X (.Name x pos) (tC v) :=
 fun _ _ _ H _ I h=>jgg I hg hm ⟨v,H,I,r,h⟩ hd
theorem jo7{x:Str}{v:V}{u:Value}{pos:Pos}(hg:Gl X x)(hm:X.mg x=none)(hv:bootBuiltins x=some u)(r:RelV v u)(hn:autoParam (x≠"__name__") zau1._auto_1)(hd:autoParam ((x == ("__debug__":Str))=false) zau1._auto_1):PE X (.Name x pos) (tC v) :=
 fun _ _ _ H _ I h=>jis I hg hm hv ⟨v,H,I,r,h⟩ hn hd
variable {a b:Expr}{ta tb:TE}{pos:Pos}
noncomputable def tB(t:TE):TT:=fun σ H Q=>t σ H fun x H1=>∃ c,x=.bl c/\Q c H1
variable {tA tB':TT}{rest:List Expr}
noncomputable def tAnd(t u:TT):TT:=fun σ H Q=>t σ H fun c H1=>if c=true then u σ H1 Q else Q false H1
noncomputable def tOr(t u:TT):TT:=fun σ H Q=>t σ H fun c H1=>if c=true then Q true H1 else u σ H1 Q
noncomputable def tNot(t:TT):TT:=fun σ H Q=>t σ H fun c H1=>Q (!c) H1
theorem juk(ha:PT X a tA):PW X (.BoolOp .And [a] pos) tA:=by
 intro wh pins s σ H Q I h;refine isTrue_and (thn (ha pins s σ H Q I h) fun c s1 e=>?_)
 cases c with
 | true=>exact isTrue_and_nil e
 | false=>exact e
theorem jsf(ha:PT X a tA):PW X (.BoolOp .Or [a] pos) tA:=by
 intro wh pins s σ H Q I h;refine isTrue_or (thn (ha pins s σ H Q I h) fun c s1 e=>?_)
 cases c with
 | false=>exact isTrue_or_nil e
 | true=>exact e
theorem jw1(ha:PT X a tA)(hb:PW X (.BoolOp .And (b::rest) pos) tB'):PW X (.BoolOp .And (a::b::rest) pos) (tAnd tA tB'):=by
 intro wh pins s σ H Q I h;refine isTrue_and (thn (ha pins s σ H _ I h) fun c s1 hzz=>?_);obtain⟨H1,I1,q1⟩:=hzz
 cases c with
 | true=>exact hb wh pins s1 σ H1 Q I1 q1
 | false=>exact⟨H1,I1,q1⟩
theorem jw2(ha:PT X a tA)(hb:PW X (.BoolOp .Or (b::rest) pos) tB'):PW X (.BoolOp .Or (a::b::rest) pos) (tOr tA tB'):=by
 intro wh pins s σ H Q I h;refine isTrue_or (thn (ha pins s σ H _ I h) fun c s1 hzz=>?_);obtain⟨H1,I1,q1⟩:=hzz
 cases c with
 | true=>exact⟨H1,I1,q1⟩
 | false=>exact hb wh pins s1 σ H1 Q I1 q1
theorem jse(ha:PT X a tA):PT X (.UnaryOp .Not a pos) (tNot tA):=by
 intro pins s σ H Q I h;exact isTrue_not (thn (ha pins s σ H (fun c H1=>Q (!c) H1) I h) fun c s1 z=>z.casesOn fun H1 I1 q1=>⟨H1,I1,q1⟩)
noncomputable def jy9(ta tb:TE):TE:=fun σ H Q=>ta σ H fun x H1=>∃ c,x=.bl c/\if c=true then tb σ H1 Q else Q (.bl false) H1
noncomputable def jzd(ta:TE):TE:=fun σ H Q=>ta σ H fun x H1=>∃ c,x=.bl c/\Q (.bl (!c)) H1
theorem jsa{op}{t:TE}(h:PE X a t):PE X (.BoolOp op [a] pos) t:=fun pins s σ H Q I hw=>BoolOp_one (h pins s σ H Q I hw)
theorem jr7(ha:PE X a ta)(hb:PE X (.BoolOp .And (b::rest) pos) tb):PE X (.BoolOp .And (a::b::rest) pos) (jy9 ta tb):=by
 intro pins s σ H Q I h;refine BoolOp_and (thn (ha pins s σ H _ I h) fun v s1 hzz=>?_);obtain⟨x,H1,I1,r1,q1⟩:=hzz;obtain⟨c,rfl,q1⟩:=q1;cases r1;refine wpAny_truthy_bool ?_
 cases c with
 | true=>exact hb pins s1 σ H1 Q I1 q1
 | false=>exact⟨.bl false,H1,I1,rfl,q1⟩
theorem jr9(ha:PE X a ta):PE X (.UnaryOp .Not a pos) (jzd ta):=by
 intro pins s σ H Q I h;refine UnaryOp_ (thn (ha pins s σ H _ I h) fun v s1 hzz=>?_);obtain⟨x,H1,I1,r1,q1⟩:=hzz;obtain⟨c,rfl,q1⟩:=q1;cases r1;exact not_of (wpAny_truthy_bool ⟨.bl (!c),H1,I1,rfl,q1⟩)
end
noncomputable def SqL(K:W.Frag)(H:Hp)(a:Addr)(xs:List V):Prop :=
 Rd H a (.lst xs) \/
  ∃ (o:Obj) (its:Array Value) (n:Nat),K.lookup a=some o/\o.cls=.type "list"/\o.dict=none/\o.data=.seq its n/\its.size<=sizeLine/\Vals xs its.toList
noncomputable def SqT(K:W.Frag)(H:Hp)(a:Addr)(xs:List V):Prop :=
 Rd H a (.tup xs) \/
  ∃ (o:Obj) (its:Array Value) (n:Nat),K.lookup a=some o/\o.cls=.type "tuple"/\o.data=.seq its n/\its.size<=sizeLine/\Vals xs its.toList
noncomputable def absV:Value->Option V
 | .none=>some .non
 | .bool b=>some (.bl b)
 | .int i _=>some (.int i)
 | .str x _=>some (.str x)
 | .bytes b _=>some (.byt b)
 | .float b _=>some (.flt b)
 | .ref a=>some (.ref a)
 | .type n=>some (.ty n)
 | _=>none
theorem RelV.abs{x:V}{u:Value}(r:RelV x u):absV u=some x:=by
 cases x with
 | non=>cases r;rfl
 | bl _=>cases r;rfl
 | int _=>obtain⟨t,rfl⟩:=r;rfl
 | str _=>obtain⟨t,rfl⟩:=r;rfl
 | byt _=>obtain⟨t,rfl⟩:=r;rfl
 | flt _=>obtain⟨t,rfl⟩:=r;rfl
 | ref _=>cases r;rfl
 | ty _=>cases r;rfl
theorem RelV.inj{x y:V}{u:Value}(r:RelV x u)(q:RelV y u):x=y:=zby (r.abs.symm.trans q.abs)
theorem Vals.inj:∀ {xs ys:List V} {us:List Value},Vals xs us->Vals ys us->xs=ys
 | _,_,_,.nil,.nil=>rfl
 | _,_,_,.cons r t,.cons r' t'=>by rw[r.inj r',Vals.inj t t']
section
variable {X:Cx}{pins:List (Addr×Obj)}{σ:St}{H:Hp}{s:Shared}{a:Addr}{xs ys:List V}
theorem SqL.of{K:W.Frag}(h:H a=some (.lst xs)):SqL K H a xs:=.inl (.inl h)
theorem SqT.of{K:W.Frag}(h:H a=some (.tup xs)):SqT K H a xs:=.inl (.inl h)
theorem Inv.list(I:Inv X pins σ H s)(h:SqL X.K H a xs):∃ its:List Value,Vals xs its/\PlainL s.heap a its.toArray/\xs.length<=sizeLine:=by
 rcases h with h|⟨o,its,n,hk,hc,hd,hs,hz,r⟩
 ·obtain⟨z,its,n,r,e⟩:=h.ok I.hok;exact⟨its,r,⟨_,n,e,rfl,rfl,rfl⟩,z⟩
 ·refine⟨its.toList,r,⟨o,n,I.kIn a o hk,hc,hd,by simpa using hs⟩,?_⟩;have e:=r.length;simp only[Array.length_toList] at e;omega
theorem Inv.tuple(I:Inv X pins σ H s)(h:SqT X.K H a xs):∃ its:List Value,Vals xs its/\IsTup s.heap a its.toArray/\xs.length<=sizeLine:=by
 rcases h with h|⟨o,its,n,hk,hc,hs,hz,r⟩
 ·obtain⟨z,its,r,p⟩:=h.ok I.hok;exact⟨its,r,p,z⟩
 ·refine⟨its.toList,r,⟨o,I.kIn a o hk,hc,n,by simpa using hs⟩,?_⟩;have e:=r.length;simp only[Array.length_toList] at e;omega
theorem Inv.list_inj(I:Inv X pins σ H s)(h:SqL X.K H a xs)(h':SqL X.K H a ys):xs=ys:=by
 obtain⟨its,r,⟨o,n,e,_,_,d⟩,_⟩:=I.list h;obtain⟨its',r',⟨o',n',e',_,_,d'⟩,_⟩:=I.list h';rw[e] at e';cases e'
 rw[d] at d';injection d' with d1 _
 have:its=its':=by simpa using congrArg Array.toList d1
 subst this;exact r.inj r'
theorem Inv.tuple_inj(I:Inv X pins σ H s)(h:SqT X.K H a xs)(h':SqT X.K H a ys):xs=ys:=by
 obtain⟨its,r,⟨o,e,_,n,d⟩,_⟩:=I.tuple h;obtain⟨its',r',⟨o',e',_,n',d'⟩,_⟩:=I.tuple h';rw[e] at e';cases e'
 rw[d] at d';injection d' with d1 _
 have:its=its':=by simpa using congrArg Array.toList d1
 subst this;exact r.inj r'
end
noncomputable abbrev Cx.wish(X:Cx)(E:Value->Shared->Prop):Cx:={ X with xe:=E }
noncomputable abbrev Cx.nox(X:Cx):Cx:=X.wish fun _ _=>False
theorem Cx.Ok.wish{X:Cx}(ok:X.Ok)(E:Value->Shared->Prop):(X.wish E).Ok :=
 ⟨ok.mod,ok.kind,ok.glob,ok.blt,ok.above,ok.inj,ok.has,ok.cab,ok.hd,ok.frames,ok.stk,ok.exf,ok.bs,ok.bsz,ok.noex,ok.exfs,ok.funs,ok.frf⟩
theorem Cx.Ok.unwish{X:Cx}{E:Value->Shared->Prop}(ok:(X.wish E).Ok):X.Ok :=
 ⟨ok.mod,ok.kind,ok.glob,ok.blt,ok.above,ok.inj,ok.has,ok.cab,ok.hd,ok.frames,ok.stk,ok.exf,ok.bs,ok.bsz,ok.noex,ok.exfs,ok.funs,ok.frf⟩
section
variable {X:Cx}{pins:List (Addr×Obj)}{σ:St}{H:Hp}{s:Shared}{E:Value->Shared->Prop}
theorem Inv.wish(I:Inv X pins σ H s)(E:Value->Shared->Prop):Inv (X.wish E) pins σ H s:=⟨I.ok.wish E,I.os,I.bare,I.base,I.loc,I.cell,I.free,I.freeC,I.pin,I.hok,I.len⟩
theorem Inv.unwish(I:Inv (X.wish E) pins σ H s):Inv X pins σ H s:=⟨I.ok.unwish,I.os,I.bare,I.base,I.loc,I.cell,I.free,I.freeC,I.pin,I.hok,I.len⟩
theorem SP.unwish{D:Ends}{f:Flow}{s':Shared}(h:SP (X.wish E) pins D f s'):SP X pins D f s':=by
 cases f with
 | next=>obtain⟨σ',H',I,q⟩:=h;exact⟨σ',H',I.unwish,q⟩
 | brk=>obtain⟨σ',H',I,q⟩:=h;exact⟨σ',H',I.unwish,q⟩
 | cont=>obtain⟨σ',H',I,q⟩:=h;exact⟨σ',H',I.unwish,q⟩
 | ret u=>obtain⟨v,σ',H',I,r,q⟩:=h;exact⟨v,σ',H',I.unwish,r,q⟩
theorem PSs.nox{st:List Stmt}{t:TS}(h:PSs X.nox st t):PSs X st t:=fun pins s σ H D I hw =>
 wpAny_mono (h pins s σ H D (I.wish _) hw) (fun _ _ q=>q.unwish) fun _ _ z=>False.elim z
end
section
variable {X:Cx}{st:Stmt}{rest:List Stmt}{t u:TS}{e:Expr}{te:TE}{pos:Pos}
noncomputable def jzc:TS:=fun D σ H=>D.nx σ H
noncomputable def tSeq(t u:TS):TS:=fun D σ H=>t { D with nx:=u D } σ H
theorem jpe:PSs X [] jzc:=fun _ _ σ H _ I h=>wpAny_execs_nil ⟨σ,H,I,h⟩
theorem jji(h1:PS X st t)(h2:PSs X rest u):PSs X (st::rest) (tSeq t u):=by
 intro pins s σ H D I h;refine wpAny_execs_cons (thn (h1 pins s σ H { D with nx:=u D } I h) fun f s1 q=>?_)
 cases f with
 | next =>
  obtain⟨σ',H',I',q⟩:=q;exact h2 pins s1 σ' H' D I' q
 | ret v=>exact q
 | brk=>exact q
 | cont=>exact q
theorem jjj(h1:PS X st t):PSs X [st] t:=by
 intro pins s σ H D I h;refine wpAny_execs_cons (thn (h1 pins s σ H D I h) fun f s1 q=>?_)
 cases f with
 | next=>exact wpAny_execs_nil q
 | ret v=>exact q
 | brk=>exact q
 | cont=>exact q
theorem Inv.quiet{pins:List (Addr×Obj)}{σ:St}{H:Hp}{s:Shared}(I:Inv X pins σ H s):interactive X.env=false:=by simp[interactive,I.ok.kind]
noncomputable def jxb(te:TE):TS:=fun D σ H=>te σ H fun _ H1=>D.nx σ H1
theorem jpc(he:PE X e te)(hs:autoParam (swapsWith e none pos.line X.env=pure false) zau2._auto_1):PS X (.Expr e pos) (jxb te):=by
 intro pins s σ H D I h;exact wpAny_Expr_any (thn (he pins s σ H _ I h) fun v s1 ⟨x,H1,I1,r1,q1⟩=>⟨σ,H1,I1,q1⟩) I.quiet hs
noncomputable def tRet(te:TE):TS:=fun D σ H=>te σ H D.rt
theorem jsd(he:PE X e te):PS X (.Return (some e) pos) (tRet te):=by
 intro pins s σ H D I h;exact wpAny_Return_some (thn (he pins s σ H _ I h) fun v s1 ⟨x,H1,I1,r1,q1⟩=>⟨x,σ,H1,I1,r1,q1⟩)
noncomputable def tIfS(c:TT)(t u:TS):TS:=fun D σ H=>c σ H fun b H1=>if b=true then t D σ H1 else u D σ H1
theorem jug{c:Expr}{a b:List Stmt}{tc:TT}(hc:PT X c tc)(ha:PSs X a t)(hb:PSs X b u):PS X (.If c a b pos) (tIfS tc t u):=by
 intro pins s σ H D I h;refine wpAny_If (thn (hc pins s σ H _ I h) fun d s1 hzz=>?_);obtain⟨H1,I1,q1⟩:=hzz
 cases d with
 | true=>exact ha pins s1 σ H1 D I1 q1
 | false=>exact hb pins s1 σ H1 D I1 q1
end
noncomputable abbrev TG:=V->St->Hp->(St->Hp->Prop)->Prop
noncomputable abbrev TGs:=List V->St->Hp->(St->Hp->Prop)->Prop
noncomputable def PG(X:Cx)(target:Expr)(t:TG):Prop :=
 ∀ (pins:List (Addr×Obj)) (s:Shared) (σ:St) (H:Hp) (v:V) (u:Value) (Q:St->Hp->Prop),Inv X pins σ H s->RelV v u->t v σ H Q ->
  wpAny (model X.prog X.w) X.A (assign target X.env u) (fun _ s'=>SN X pins Q s') X.xe s
noncomputable def PGs(X:Cx)(ts:List Expr)(t:TGs):Prop :=
 ∀ (pins:List (Addr×Obj)) (s:Shared) (σ:St) (H:Hp) (vs:List V) (us:List Value) (Q:St->Hp->Prop),Inv X pins σ H s->Vals vs us->t vs σ H Q ->
  wpAny (model X.prog X.w) X.A (assignInOrder ((assignEach ts X.env).map (·.2)) us) (fun _ s'=>SN X pins Q s') X.xe s
noncomputable abbrev TSet:=V->V->V->Hp->(Hp->Prop)->Prop
section
variable {X:Cx}{pos:Pos}
noncomputable def gName(i:Nat):TG:=fun v σ H Q=>Q (σ.set i (some v)) H
theorem jlp{i:Nat}{x:Str}(hN:X.N.Nodup)(hi:X.N[i]? = some x)(hx:Loc X.env.scope x)(hf:autoParam (X.fn x=true\/X.env.scope.names.lookup x=some .local) zau0._auto_1):PG X (.Name x pos) (gName i):=by
 intro pins s σ H v u Q I r h;exact wpAny_assign_Name (jha I hN hi hx r (fun s' I'=>⟨_,H,I',h⟩) hf)
noncomputable def gNil:TGs:=fun vs σ H Q=>vs=[]/\Q σ H
noncomputable def jyb(t:TG)(u:TGs):TGs:=fun vs σ H Q=>∃ v r,vs=v::r/\t v σ H fun σ' H'=>u r σ' H' Q
theorem jue:PGs X [] gNil:=by
 intro pins s σ H vs us Q I r h;obtain⟨e,h⟩:=h;subst e;cases r;exact assignInOrder_nil ⟨σ,H,I,h⟩
theorem jmf{e:Expr}{es:List Expr}{t:TG}{u:TGs}(h1:PG X e t)(h2:PGs X es u)
  (hs:autoParam ((assignEach (e::es) X.env).map (·.2)=assign e X.env::(assignEach es X.env).map (·.2)) zau2._auto_1):PGs X (e::es) (jyb t u):=by
 intro pins s σ H vs us Q I r h;obtain⟨v,vr,e1,h⟩:=h;subst e1
 cases r with
 | cons r rr =>
  rw[hs];refine assignInOrder_cons (thn (h1 pins s σ H _ _ _ I r h) fun _ s1 hzz=>?_);obtain⟨σ1,H1,I1,q1⟩:=hzz;exact h2 pins s1 σ1 H1 _ _ Q I1 rr q1
noncomputable def gTup(K:W.Frag)(n:Nat)(t:TGs):TG:=fun v σ H Q=>∃ a xs,v=.ref a/\SqT K H a xs/\xs.length=n/\t xs σ H Q
theorem jwx{es:List Expr}{k:Nat}{t:TGs}{n:Nat}(hc:X.calm=true)(h:PGs X es t)
  (hn:autoParam ((assignEach es X.env).length=n) zau2._auto_1) (hst:autoParam ((assignEach es X.env).findIdx? (·.1)=none) zau2._auto_1):PG X (.Tuple es k pos) (gTup X.K n t):=by
 intro pins s σ H v u Q I r hw;obtain⟨a,xs,e1,hq,hl,hw⟩:=hw;subst e1;cases r;obtain⟨its,rv,ht,hz⟩:=I.tuple hq;refine assign_Tuple_tuple (I.ok.hd hc) ht (by simp[hn,<- hl,rv.length]) hst fun h' hx=>?_
 have I1:Inv X pins σ H { s with heap:=h' }:=I.kept (t':=s.toks) fun b o e=>hx b o (zcv (zbv e)) e
 exact h pins _ σ H xs _ Q I1 (by simpa using rv) hw
noncomputable def gSub(to ti:TE)(t:TSet):TG:=fun v σ H Q=>to σ H fun o H1=>ti σ H1 fun i H2=>t o i v H2 fun H3=>Q σ H3
noncomputable def tAsg(te:TE)(g:TG):TS:=fun D σ H=>te σ H fun x H1=>g x σ H1 D.nx
theorem jpd{i:Nat}{x:Str}{e:Expr}{te:TE}{pos':Pos}(hN:X.N.Nodup)(hi:X.N[i]? = some x)(hx:Loc X.env.scope x)(he:PE X e te)(hs:autoParam (swapsWith e (some (.Name x pos')) pos.line X.env=pure false) zau2._auto_1)(hf:autoParam (X.fn x=true\/X.env.scope.names.lookup x=some .local) zau0._auto_1) :
  PS X (.Assign [.Name x pos'] e pos) (tAsg te (gName i)):=by
 intro pins s σ H D I h;refine wpAny_Assign_Name (thn (he pins s σ H _ I h) fun v s1 hzz=>?_) hs;obtain⟨y,H1,I1,r1,q1⟩:=hzz;exact jha I1 hN hi hx r1 (fun s2 I2=>⟨_,H1,I2,q1⟩) hf
end
section
end
structure It where
 go:Nat->Hp->Prop
 yld:Nat->Hp->V->Hp->Prop
 stop:Nat->Hp->Prop
noncomputable def FpOk(X:Cx)(pins:List (Addr×Obj))(H:Hp)(b:Addr):Prop :=
 H b=none/\b≠X.env.locals/\b∉X.fs/\(b∈X.ex\/X.s₀.heap.objs.size<=b)/\(∀ x c,X.env.cells.lookup x=some c->c≠b)/\∀ p∈X.pn++pins,p.1≠b
theorem Inv.fpOk{X:Cx}{pins:List (Addr×Obj)}{σ:St}{H H':Hp}{s:Shared}{b:Addr}(I:Inv X pins σ H s)(hb:s.heap.objs.size<=b)(hn:H' b=none):FpOk X pins H' b:=by
 refine⟨hn,Nat.ne_of_gt (zcx I.lt hb),I.nofs hb,.inr (Nat.le_trans I.sz hb),fun x c e z=>?_,fun p hp z=>?_⟩
 ·obtain⟨v,q⟩:=I.cell x c e;exact absurd (zcx q.lt (by rw[z];exact hb)) (Nat.lt_irrefl _)
 ·exact absurd (zcx (zbv (I.pin p hp).1) (by rw[z];exact hb)) (Nat.lt_irrefl _)
inductive TIt(X:Cx)(pins:List (Addr×Obj))(σ:St)(J:It)(fp:List Addr)(tn:Nat->Heap->Prop)(i:Nat)(H:Hp)(u:Value)(s2:Shared):Prop
 | mk (x:V) (H':Hp) (h1:Inv X pins σ H' s2) (h2:RelV x u) (h3:J.yld i H x H') (h4:tn (i+1) s2.heap) (h5:∀ b∈fp,H' b=none)
structure Turn(P:Program)(w:World)(K:W.Frag)(tg:Expr)(J:It)(fp:List Addr)(it:Addr)(tn:Nat->Heap->Prop):Prop where
 mem:it∈fp
 obj:∀ i h,tn i h->∀ b∈fp,∃ o,h.get? b=some o/\∀ v,o.data≠.cell v
 keep:∀ i h h',tn i h->(∀ b∈fp,∀ o,h.get? b=some o->h'.get? b=some o)->tn i h'
 item:∀ (X:Cx),X.prog=P->X.w=w->X.K=K->X.calm=true->∀ (i:Nat) (pins:List (Addr×Obj)) (s:Shared) (σ:St) (H:Hp) (E:Value->Shared->Prop),Inv X pins σ H s->(∀ b∈fp,FpOk X pins H b)->tn i s.heap->J.go i H ->
  wpAny (model P w) X.A (pyNext (.ref it)) (fun r s1=>∃ u,r=some u /\
   wpAny (model P w) X.A (letOwnedTupleGo tg (.ref it) u) (fun _ s2=>TIt X pins σ J fp tn i H u s2) E s1) E s
 done:∀ (X:Cx),X.prog=P->X.w=w->X.K=K->X.calm=true->∀ (i:Nat) (pins:List (Addr×Obj)) (s:Shared) (σ:St) (H:Hp) (E:Value->Shared->Prop),Inv X pins σ H s->(∀ b∈fp,FpOk X pins H b)->tn i s.heap->J.stop i H ->
  wpAny (model P w) X.A (pyNext (.ref it)) (fun r s1=>r=none/\Inv X pins σ H s1) E s
 self:∀ (A:Around) (i:Nat) (s:Shared) (Q:Value->Shared->Prop) (E:Value->Shared->Prop),tn i s.heap->Q (.ref it) s->wpAny (model P w) A (pyIter (.ref it)) Q E s
noncomputable abbrev TI:=St->Hp->(It->Hp->Prop)->Prop
inductive PIE(X:Cx)(pins:List (Addr×Obj))(σ:St)(tg:Expr)(R:It->Hp->Prop)(itv:Value)(s2:Shared):Prop
 | mk (it:Addr) (fp:List Addr) (tn:Nat->Heap->Prop) (J:It) (H':Hp) (h1:itv=.ref it) (h2:Inv X pins σ H' s2) (h3:Turn X.prog X.w X.K tg J fp it tn) (h4:tn 0 s2.heap) (h5:∀ b∈fp,FpOk X pins H' b) (h6:R J H')
noncomputable def PI(X:Cx)(tg iter:Expr)(wi:TI):Prop :=
 ∀ (pins:List (Addr×Obj)) (s:Shared) (σ:St) (H:Hp) (R:It->Hp->Prop),Inv X pins σ H s->wi σ H R ->
  wpAny (model X.prog X.w) X.A (eval iter X.env) (fun v s1=>wpAny (model X.prog X.w) X.A (pyIter v) (PIE X pins σ tg R) X.xe s1) X.xe s
theorem jtg{M:Model}{A:Around}{E:Value->Shared->Prop}{s:Shared}{tg:Expr}{it:Addr}{u:Value}{o:Obj}{n:String}{vs:Array Value}{Q:Unit->Shared->Prop}(ho:s.heap.get? it=some o)(hc:o.cls=.type n)(hd:o.data=.fields vs)
    (hn:["enumerate","zip","dict_itemiterator","dict_reverseitemiterator","odict_iterator","itertools.zip_longest","itertools.pairwise"].contains n=false) (hQ:Q () s):wpAny M A (letOwnedTupleGo tg (.ref it) u) Q E s:=by
  unfold letOwnedTupleGo;cases tg<;>first
    | exact zab hQ
    | (cases u<;>first
        | exact zab hQ
        | (refine zay (wpAny_load ho ?_)
           rw[hc,hd];show wpAny M A (if (["enumerate","zip","dict_itemiterator","dict_reverseitemiterator","odict_iterator","itertools.zip_longest","itertools.pairwise"].contains n&&vs[0]? == some (rawInt _))=true then _ else _) Q E s;rw[if_neg (by intro h;rw[hn,Bool.false_and] at h;cases h)];exact zab hQ))
noncomputable def Itl(K:W.Frag)(a:Addr):It :=
 ⟨fun i H=>∃ xs x,SqL K H a xs/\xs[i]? = some x,fun i H x H'=>H'=H/\∀ xs,SqL K H a xs->xs[i]? = some x,fun i H=>∃ xs,SqL K H a xs/\xs.length<=i⟩
noncomputable def Itt(K:W.Frag)(a:Addr):It :=
 ⟨fun i H=>∃ xs x,SqT K H a xs/\xs[i]? = some x,fun i H x H'=>H'=H/\∀ xs,SqT K H a xs->xs[i]? = some x,fun i H=>∃ xs,SqT K H a xs/\xs.length<=i⟩
theorem jpz{P:Program}{w:World}{K:W.Frag}{tg:Expr}(a it:Addr):Turn P w K tg (Itl K a) [it] it (fun i h=>h.IsListIter it a i) where
 mem:=by simp
 obj:=fun i h st b hb=>by
  have e:b=it:=by simpa using hb
  subst e;obtain⟨o,e,c,d⟩:=st;exact⟨o,e,fun v z=>by rw[d] at z;cases z⟩
 keep:=fun i h h' st k=>st.at fun o e=>k it (by simp) o e
 item:=by
  intro X hP hw hK hc i pins s σ H E I hf st hg;subst hP hw hK;obtain⟨xs,x,hq,hx⟩:=hg;obtain⟨its,rv,p,hz⟩:=I.list hq;obtain⟨u,hu,ru⟩:=rv.get hx;obtain⟨f0,f1,f2,f3,f4,f5⟩:=hf it (by simp);refine wpAny_pyNext_list_item st p.isList (x:=u) (by simpa using hu) fun h' st' sb=>?_
  have I1:Inv X pins σ H { s with heap:=h' }:=I.turned (t':=s.toks) (fun b o hb e=>(sb.2 b hb).trans e) f0 f1 f3 f4 f5;obtain⟨o,e,c,d⟩:=id st';exact⟨u,rfl,jtg (s:={ s with heap:=h' }) e c d (by decide) ⟨x,H,I1,ru,⟨rfl,fun ys hy=>by rw[I.list_inj hy hq];exact hx⟩,st',fun b hb=>(hf b hb).1⟩⟩
 done:=by
  intro X hP hw hK hc i pins s σ H E I hf st hg;subst hP hw hK;obtain⟨xs,hq,hx⟩:=hg;obtain⟨its,rv,p,hz⟩:=I.list hq;obtain⟨f0,f1,f2,f3,f4,f5⟩:=hf it (by simp);have hl:=rv.length;exact wpAny_pyNext_list_end (I.ok.hd hc) st p.isList (by simp;omega) fun h' eb=>⟨rfl,I.turned (t':=s.toks) (fun b o hb e=>eb b o hb e) f0 f1 f3 f4 f5⟩
 self:=fun _ _ _ _ _ st h=>wpAny_pyIter_listiter st h
theorem jne{P:Program}{w:World}{K:W.Frag}{tg:Expr}(a it:Addr):Turn P w K tg (Itt K a) [it] it (fun i h=>h.IsTupleIter it a i) where
 mem:=by simp
 obj:=fun i h st b hb=>by
  have e:b=it:=by simpa using hb
  subst e;obtain⟨o,e,c,d⟩:=st;exact⟨o,e,fun v z=>by rw[d] at z;cases z⟩
 keep:=fun i h h' st k=>st.at fun o e=>k it (by simp) o e
 item:=by
  intro X hP hw hK hc i pins s σ H E I hf st hg;subst hP hw hK;obtain⟨xs,x,hq,hx⟩:=hg;obtain⟨its,rv,p,hz⟩:=I.tuple hq;obtain⟨u,hu,ru⟩:=rv.get hx;obtain⟨f0,f1,f2,f3,f4,f5⟩:=hf it (by simp);refine wpAny_pyNext_tuple_item st (show s.heap.IsTuple a its.toArray from p) (x:=u) (by simpa using hu) fun h' st' sb=>?_
  have I1:Inv X pins σ H { s with heap:=h' }:=I.turned (t':=s.toks) (fun b o hb e=>(sb.2 b hb).trans e) f0 f1 f3 f4 f5;obtain⟨o,e,c,d⟩:=id st';exact⟨u,rfl,jtg (s:={ s with heap:=h' }) e c d (by decide) ⟨x,H,I1,ru,⟨rfl,fun ys hy=>by rw[I.tuple_inj hy hq];exact hx⟩,st',fun b hb=>(hf b hb).1⟩⟩
 done:=by
  intro X hP hw hK hc i pins s σ H E I hf st hg;subst hP hw hK;obtain⟨xs,hq,hx⟩:=hg;obtain⟨its,rv,p,hz⟩:=I.tuple hq;obtain⟨f0,f1,f2,f3,f4,f5⟩:=hf it (by simp);have hl:=rv.length;exact wpAny_pyNext_tuple_end (I.ok.hd hc) st (show s.heap.IsTuple a its.toArray from p) (by simp;omega) fun h' eb=>⟨rfl,I.turned (t':=s.toks) (fun b o hb e=>eb b o hb e) f0 f1 f3 f4 f5⟩
 self:=fun _ _ _ _ _ st h=>wpAny_pyIter_tupleiter st h
section
variable {X:Cx}{tg:Expr}
noncomputable def tFor(wi:TI)(g:TG)(tb:TS):TS:=fun D σ H=>wi σ H fun J H1=>∃ W:Nat->Nat->St->Hp->Prop,(∃ m,W 0 m σ H1)/\∀ i m σ H,W i m σ H ->
 (J.stop i H/\D.nx σ H)\/(J.go i H/\∃ N:St->Hp->Prop,(∀ σ' H',N σ' H'->∃ m',m'<m/\W (i+1) m' σ' H')/\∀ x H',J.yld i H x H'->g x σ H' fun σ2 H2=>tb { D with nx:=N,ct:=N,bk:=D.nx } σ2 H2)
noncomputable def jiw(fp:List Addr)(h:Heap):List (Addr×Obj):=fp.filterMap fun b=>(h.get? b).map fun o=>(b,o)
theorem jc6{fp:List Addr}{h:Heap}{b:Addr}{o:Obj}(hb:b∈fp)(e:h.get? b=some o):(b,o)∈jiw fp h:=List.mem_filterMap.mpr ⟨b,hb,by rw[e];rfl⟩
theorem jo0{fp:List Addr}{h:Heap}{p:Addr×Obj}(hp:p∈jiw fp h):p.1∈fp/\h.get? p.1=some p.2:=by
 obtain⟨b,hb,e⟩:=List.mem_filterMap.mp hp
 cases q:h.get? b with
 | none=>rw[q] at e;cases e
 | some o =>
  rw[q] at e;have e':(b,o)=p:=zby e;subst e';exact⟨hb,q⟩
theorem Inv.pinned{pins:List (Addr×Obj)}{σ:St}{H:Hp}{s:Shared}{fp:List Addr}(I:Inv X pins σ H s)(hf:∀ b∈fp,FpOk X pins H b)(ho:∀ b∈fp,∃ o,s.heap.get? b=some o/\∀ v,o.data≠.cell v):Inv X (pins++jiw fp s.heap) σ H s :=
 I.pins_of fun p hp=>(List.mem_append.mp hp).elim (fun z=>I.pin p (zcy _ z)) fun z=>by
  obtain⟨hb,e⟩:=jo0 z;obtain⟨f0,f1,f2,_⟩:=hf p.1 hb;obtain⟨o,e',d⟩:=ho p.1 hb;rw[e] at e';cases e'
  exact⟨e,f0,f1,f2,d⟩
theorem Inv.unpinned{pins pl:List (Addr×Obj)}{σ:St}{H:Hp}{s:Shared}(I:Inv X (pins++pl) σ H s):Inv X pins σ H s:=I.pins_of fun p hp=>I.pin p (zcy _ (List.mem_append_left _ hp))
theorem jsc{iter:Expr}{body:List Stmt}{wi:TI}{g:TG}{tb:TS}{pos:Pos}(hp:PassesOwn (model X.prog X.w) X.A X.env X.xe)(hc:X.calm=true)(hi:PI X tg iter wi)(hg:PG X tg g)(hb:PSs X body tb)
  (hs:autoParam (∀ x,foldedSetIterable iter X.env x=pure x) zau3._auto_1):PS X (.For tg iter body [] pos) (tFor wi g tb):=by
 intro pins s σ H D I h;refine wpAny_For (thn (hi pins s σ H _ I h) fun v s1 h1=>thn h1 fun itv s2 h2=>?_) hs;obtain⟨it,fp,tn,J,H2,e,I2,T,st2,f2,W,⟨m0,w0⟩,turn⟩:=h2;subst e;have stat:∀ {H':Hp},(∀ b∈fp,H' b=none)->∀ b∈fp,FpOk X pins H' b:=fun hn b hb=>⟨hn b hb,(f2 b hb).2⟩
 refine codeAny_forLoop_any (fun n s'=>∃ i σ' H',Inv X pins σ' H' s'/\tn i s'.heap/\(∀ b∈fp,H' b=none)/\W i n σ' H') ?_ m0 ⟨0,σ,H2,I2,st2,fun b hb=>(f2 b hb).1,w0⟩;rintro n s3 ⟨i,σ3,H3,I3,st3,fr3,w3⟩;rcases turn i n σ3 H3 w3 with ⟨stop,qn⟩|⟨go,N,hN,step⟩
 ·refine wpAny_passesOwn hp (thn (T.done X rfl rfl rfl hc i pins s3 σ3 H3 X.xe I3 (stat fr3) st3 stop) fun r s4 hzz=>?_);obtain⟨hr,I4⟩:=hzz;subst hr;exact wpAny_execs_nil ⟨σ3,H3,I4,qn⟩
 ·refine wpAny_passesOwn hp (thn (T.item X rfl rfl rfl hc i pins s3 σ3 H3 X.xe I3 (stat fr3) st3 go) fun r s4 hzz=>?_);obtain⟨u,hr,h4⟩:=hzz;subst hr;refine wpAny_passesOwn hp (thn h4 fun _ s5 hzz=>?_);obtain⟨x,H5,I5,r5,y5,st5,fr5⟩:=hzz;have I5':=I5.pinned (stat fr5) (T.obj _ _ st5);refine wpAny_passesOwn hp (thn (hg _ s5 σ3 H5 x u _ I5' r5 (step x H5 y5)) fun _ s6 hzz=>?_);obtain⟨σ6,H6,I6,q6⟩:=hzz;refine wpAny_passesOwn hp (thn (hb _ s6 σ6 H6 _ I6 q6) fun f s7 q7=>?_);have again:∀ {σ7:St} {H7:Hp},Inv X (pins++jiw fp s5.heap) σ7 H7 s7->N σ7 H7->∃ m,m<n/\∃ i σ' H',Inv X pins σ' H' s7/\tn i s7.heap/\(∀ b∈fp,H' b=none)/\W i m σ' H':=fun {σ7 H7} I7 n7=>by
   obtain⟨m',hm,w7⟩:=hN σ7 H7 n7;refine⟨m',hm,i+1,σ7,H7,I7.unpinned,T.keep _ _ _ st5 fun b hb o e=>(I7.pin (b,o) (zcy _ (zcy _ (jc6 hb e)))).1,fun b hb=>?_,w7⟩;obtain⟨o,e,d⟩:=T.obj _ _ st5 b hb;exact (I7.pin (b,o) (zcy _ (zcy _ (jc6 hb e)))).2.1
  cases f with
  | next=>obtain⟨σ7,H7,I7,n7⟩:=q7;exact again I7 n7
  | cont=>obtain⟨σ7,H7,I7,n7⟩:=q7;exact again I7 n7
  | brk=>obtain⟨σ7,H7,I7,q7⟩:=q7;exact⟨σ7,H7,I7.unpinned,q7⟩
  | ret v=>obtain⟨x7,σ7,H7,I7,r7,q7⟩:=q7;exact⟨x7,σ7,H7,I7.unpinned,r7,q7⟩
end
noncomputable abbrev R2:=V->V->Hp->VK->Prop
noncomputable def OpR(X:Cx)(f:Value->Value->Sem Value)(r:R2):Prop :=
 ∀ (pins:List (Addr×Obj)) (s:Shared) (σ:St) (H:Hp) (x y:V) (v u:Value) (Q:VK),Inv X pins σ H s->RelV x v->RelV y u->r x y H Q ->
  wpAny (model X.prog X.w) X.A (f v u) (EP X pins σ Q) X.xe s
noncomputable def CallR(X:Cx)(f:Value)(r:List V->Hp->VK->Prop):Prop :=
 ∀ (pins:List (Addr×Obj)) (s:Shared) (σ:St) (H:Hp) (xs:List V) (us:List Value) (Q:VK),Inv X pins σ H s->Vals xs us->r xs H Q ->
  wpAny (model X.prog X.w) X.A (call f us) (EP X pins σ Q) X.xe s
noncomputable def TruR(X:Cx)(r:V->Hp->(Bool->Hp->Prop)->Prop):Prop :=
 ∀ (pins:List (Addr×Obj)) (s:Shared) (σ:St) (H:Hp) (x:V) (v:Value) (Q:Bool->Hp->Prop),Inv X pins σ H s->RelV x v->r x H Q ->
  wpAny (model X.prog X.w) X.A (truthy v) (TP X pins σ Q) X.xe s
noncomputable def tOp(r:R2)(ta tb:TE):TE:=fun σ H Q=>ta σ H fun x H1=>tb σ H1 fun y H2=>r x y H2 Q
noncomputable def rI(C:Int->Int->Prop)(g:Int->Int->V):R2:=fun x y H Q=>∃ i j,x=.int i/\y=.int j/\C i j/\Q (g i j) H
noncomputable def rI0(g:Int->Int->V):R2:=fun x y H Q=>∃ i j,x=.int i/\y=.int j/\Q (g i j) H
section
variable {X:Cx}{a b:Expr}{ta tb:TE}{pos:Pos}
theorem binT(ha:PE X a ta)(hb:PE X b tb){pins:List (Addr×Obj)}{s:Shared}{σ:St}{H:Hp}{R:V->V->Hp->Prop}(I:Inv X pins σ H s)
  (h:ta σ H fun x H1=>tb σ H1 fun y H2=>R x y H2) {Q:Value->Shared->Prop} {f:Value->Value->Sem Value}
  (hf:∀ v u s2 x y H2,Inv X pins σ H2 s2->RelV x v->RelV y u->R x y H2->wpAny (model X.prog X.w) X.A (f v u) Q X.xe s2) :
  wpAny (model X.prog X.w) X.A (eval a X.env) (fun v s₁=>wpAny (model X.prog X.w) X.A (eval b X.env) (fun u s₂=>wpAny (model X.prog X.w) X.A (f v u) Q X.xe s₂) X.xe s₁) X.xe s:=by
 refine thn (ha pins s σ H _ I h) fun v s1 hzz=>?_
 obtain⟨x,H1,I1,r1,q1⟩:=hzz;refine thn (hb pins s1 σ H1 _ I1 q1) fun u s2 hzz=>?_
 obtain⟨y,H2,I2,r2,q2⟩:=hzz;exact hf v u s2 x y H2 I2 r1 r2 q2
theorem jyy{op:Operator}{r:R2}(ho:OpR X (binaryOp op) r)(ha:PE X a ta)(hb:PE X b tb):PE X (.BinOp a op b pos) (tOp r ta tb):=by
 intro pins s σ H Q I h;exact wpAny_BinOp (binT ha hb I h fun v u s2 x y H2 I2 rx ry q=>ho pins s2 σ H2 x y v u Q I2 rx ry q)
theorem opI{f:Value->Value->Sem Value}{C:Int->Int->Prop}{g:Int->Int->Int}
  (rule:∀ (i j:Int) (t u:Tok) (s:Shared) (Q:Value->Shared->Prop) (E:Value->Shared->Prop),C i j->Q (.int (g i j) s.toks) { s with toks:=s.toks+1 }->wpAny (model X.prog X.w) X.A (f (.int i t) (.int j u)) Q E s) :
  OpR X f (rI C fun i j=>.int (g i j)):=by
 intro pins s σ H x y v u Q I rx ry h;obtain⟨i,j,rfl,rfl,hc,q⟩:=h;obtain⟨t,rfl⟩:=rx;obtain⟨t',rfl⟩:=ry;exact rule i j t t' s _ _ hc ⟨.int (g i j),H,I.tok _,⟨_,rfl⟩,q⟩
theorem opI0{f:Value->Value->Sem Value}{g:Int->Int->Int}
  (rule:∀ (i j:Int) (t u:Tok) (s:Shared) (Q:Value->Shared->Prop) (E:Value->Shared->Prop),Q (.int (g i j) s.toks) { s with toks:=s.toks+1 }->wpAny (model X.prog X.w) X.A (f (.int i t) (.int j u)) Q E s) :
  OpR X f (rI0 fun i j=>.int (g i j)):=by
 intro pins s σ H x y v u Q I rx ry h;obtain⟨i,j,rfl,rfl,q⟩:=h;obtain⟨t,rfl⟩:=rx;obtain⟨t',rfl⟩:=ry;exact rule i j t t' s _ _ ⟨.int (g i j),H,I.tok _,⟨_,rfl⟩,q⟩
theorem opB0{f:Value->Value->Sem Value}{g:Int->Int->Bool}
  (rule:∀ (i j:Int) (t u:Tok) (s:Shared) (Q:Value->Shared->Prop) (E:Value->Shared->Prop),Q (.bool (g i j)) s->wpAny (model X.prog X.w) X.A (f (.int i t) (.int j u)) Q E s) :
  OpR X f (rI0 fun i j=>.bl (g i j)):=by
 intro pins s σ H x y v u Q I rx ry h;obtain⟨i,j,rfl,rfl,q⟩:=h;obtain⟨t,rfl⟩:=rx;obtain⟨t',rfl⟩:=ry;exact rule i j t t' s _ _ ⟨.bl (g i j),H,I,rfl,q⟩
noncomputable def CPow(i j:Int):Prop:=0<=j/\j<=1000000/\i.natAbs<2 ^ 64
theorem op_add:OpR X (binaryOp .Add) (rI0 fun i j=>.int (i+j)):=opI0 fun _ _ _ _ _ _ _ q=>add_int q
theorem jgv:OpR X (binaryOp .Sub) (rI0 fun i j=>.int (i-j)):=opI0 fun _ _ _ _ _ _ _ q=>sub_int q
theorem jbp:OpR X (binaryOp .Mod) (rI (fun _ j=>0<j) fun i j=>.int (i % j)):=opI fun i j _ _ _ _ _ hc q=>by
 have h1:(0:Int)<j:=hc;exact mod_int' (by omega) (by rw[Int.fmod_eq_emod_of_nonneg i (by omega)];exact q)
theorem jiv:OpR X (binaryOp .Pow) (rI CPow fun i j=>.int (i ^ j.toNat)):=opI fun _ _ _ _ _ _ _ hc q=>pow_int_small hc.1 hc.2.1 hc.2.2 q
end
section
variable {X:Cx}{a b c:Expr}{ta tb tc:TE}{pos:Pos}
theorem jru{pins:List (Addr×Obj)}{σ:St}{H:Hp}{s:Shared}{Q:VK}{k k':Bool}(I:Inv X pins σ H s)(q:Q (.bl k) H)(e:k=k'):EP X pins σ Q (.bool k') s:=by
 subst e;exact⟨.bl k,H,I,rfl,q⟩
theorem op_lt:OpR X (compareOp .Lt) (rI0 fun i j=>.bl (decide (i<j))):=opB0 fun _ _ _ _ _ _ _ q=>lt_int q
theorem op_le:OpR X (compareOp .LtE) (rI0 fun i j=>.bl (decide (i<=j))):=opB0 fun _ _ _ _ _ _ _ q=>le_int q
theorem jo3:OpR X (compareOp .Lt) (fun x y H Q=>∃ i j,x=.str i/\y=.str j/\Q (.bl (decide (i.cps.toList<j.cps.toList))) H):=by
 intro pins s σ H x y v u Q I rx ry h;obtain⟨i,j,rfl,rfl,q⟩:=h;obtain⟨t,rfl⟩:=rx;obtain⟨t',rfl⟩:=ry;exact lt_str (jru I q rfl)
theorem jo1:OpR X (compareOp .Is) (fun x y H Q=>y=.non/\Q (.bl (decide (x=.non))) H):=by
 intro pins s σ H x y v u Q I rx ry h;obtain⟨rfl,q⟩:=h;cases ry;refine is_none_gen (jru I q ?_);cases x<;>first
  | (cases rx;rfl)
  | (obtain⟨t,rfl⟩:=rx;rfl)
theorem OpR.or{f:Value->Value->Sem Value}{r r':R2}(h:OpR X f r)(h':OpR X f r'):OpR X f (fun x y H Q=>r x y H Q\/r' x y H Q):=by
 intro pins s σ H x y v u Q I rx ry q;rcases q with q|q
 ·exact h pins s σ H x y v u Q I rx ry q
 ·exact h' pins s σ H x y v u Q I rx ry q
theorem jce(b:Expr){op:CmpOp}(h:autoParam (op≠.In) zau1._auto_1)(h2:autoParam (op≠.NotIn) zau1._auto_1):behindInMarks op b=false:=by
 have e1:(op == CmpOp.In)=false:=by cases op<;>first|rfl|exact absurd rfl h
 have e2:(op == CmpOp.NotIn)=false:=by cases op<;>first|rfl|exact absurd rfl h2
 cases b<;>simp[behindInMarks,e1,e2]
theorem jua{op:CmpOp}{r:R2}(ho:OpR X (compareOp op) r)(ha:PE X a ta)(hb:PE X b tb)(hm:behindInMarks op b=false):PE X (.Compare a [op] [b] pos) (tOp r ta tb):=by
 intro pins s σ H Q I h;exact wpAny_Compare1 (binT ha hb I h fun v u s2 x y H2 I2 rx ry q=>ho pins s2 σ H2 x y v u Q I2 rx ry q) hm
noncomputable def jzf(t:TE):TT:=fun σ H Q=>t σ H fun x H'=>∃ k,x=.bl k/\Q k H'
theorem jpf{op:CmpOp}{r:R2}(ho:OpR X (compareOp op) r)(ha:PE X a ta)(hb:PE X b tb)(hm:behindInMarks op b=false):PT X (.Compare a [op] [b] pos) (jzf (tOp r ta tb)):=by
 intro pins s σ H Q I h;refine wpAny_isTrue_Compare1 (thn (ha pins s σ H _ I h) fun v s1 ⟨x,H1,I1,r1,q1⟩=>thn (hb pins s1 σ H1 _ I1 q1) fun u s2 ⟨y,H2,I2,r2,q2⟩ =>
  thn (ho pins s2 σ H2 x y v u _ I2 r1 r2 q2) fun c s3 ⟨z,H3,I3,r3,k,e,q3⟩=>?_) hm
 subst e;cases r3;exact wpAny_truthy_bool ⟨H3,I3,q3⟩
noncomputable def jxa(r r':R2)(ta tb tc:TE):TE:=fun σ H Q=>ta σ H fun x H1=>tb σ H1 fun y H2=>r x y H2 fun z H3=>∃ k,z=.bl k /\
 (if k=true then tc σ H3 fun w' H4=>r' y w' H4 Q else Q (.bl false) H3)
theorem jq4{op op':CmpOp}{r r':R2}(ho:OpR X (compareOp op) r)(ho':OpR X (compareOp op') r')(ha:PE X a ta)(hb:PE X b tb)(hc:PE X c tc)
  (hm:autoParam (lastMarks [op,op'] [b,c]=false) zau4._auto_1):PE X (.Compare a [op,op'] [b,c] pos) (jxa r r' ta tb tc):=by
 intro pins s σ H Q I h;refine Compare_chain (thn (ha pins s σ H _ I h) fun v s1 ⟨x,H1,I1,r1,q1⟩=>chain_link (thn (hb pins s1 σ H1 _ I1 q1) fun u s2 ⟨y,H2,I2,r2,q2⟩ =>
  thn (ho pins s2 σ H2 x y v u _ I2 r1 r2 q2) fun d s3 ⟨z,H3,I3,r3,k,e,q3⟩=>?_)) hm
 subst e;cases r3;refine wpAny_truthy_bool ?_
 cases k with
 | false=>exact ite_ff ⟨.bl false,H3,I3,rfl,q3⟩
 | true=>exact ite_tt (chain_last (thn (hc pins s3 σ H3 _ I3 q3) fun w' s4 ⟨z',H4,I4,r4,q4⟩=>ho' pins s4 σ H4 y z' u w' Q I4 r2 r4 q4))
noncomputable def TruV(K:W.Frag)(x:V)(H:Hp)(k:Bool):Prop :=
 match x with
 | .non=>k=false
 | .bl b=>k=b
 | .int i=>k=(i != 0)
 | .str y=>y.length<=sizeLine/\k=((y.length:Int) != 0)
 | .byt y=>y.size<=sizeLine/\k=((y.size:Int) != 0)
 | .ref p=>(∃ xs,SqL K H p xs/\k=!xs.isEmpty)\/(∃ xs,SqT K H p xs/\k=!xs.isEmpty)\/∃ kvs,H p=some (.dK kvs)/\k=!kvs.isEmpty
 | _=>False
theorem jmu{κ:Type}{kvs:List (κ×V)}{vs:List (κ×Value)}(r:KV kvs vs):(!vs.isEmpty)=!kvs.isEmpty:=by
 cases r<;>rfl
theorem jir{xs:List V}{its:List Value}(r:Vals xs its):(!its.toArray.isEmpty)=!xs.isEmpty:=by
 cases r<;>simp
theorem jit:(sizeLine:Nat)<2 ^ 63:=by rw[sizeLine_eq];decide
theorem jxe:TruR X (fun x H Q=>∃ k,TruV X.K x H k/\Q k H):=by
 intro pins s σ H x v Q I rx h;obtain⟨k,e,q⟩:=h;have hl:=jit;have hs:sizeLine=16777216:=sizeLine_eq
 cases x with
 | non =>
  cases rx;have e':k=false:=e;subst e';exact truthy_none ⟨H,I,q⟩
 | bl b =>
  cases rx;have e':k=b:=e;subst e';exact wpAny_truthy_bool ⟨H,I,q⟩
 | int i =>
  obtain⟨t,rfl⟩:=rx;have e':k=(i != 0):=e;subst e';exact PySem.P.truthy_int ⟨H,I,q⟩
 | str y =>
  obtain⟨t,rfl⟩:=rx;obtain⟨hy,e'⟩:y.length<=sizeLine/\k=((y.length:Int) != 0):=e;subst e';exact PySem.P.truthy_str (by omega) ⟨H,I.tok _,q⟩
 | byt y =>
  obtain⟨t,rfl⟩:=rx;obtain⟨hy,e'⟩:y.size<=sizeLine/\k=((y.size:Int) != 0):=e;subst e';exact W.truthy_bytes (by omega) ⟨H,I.tok _,q⟩
 | ref p =>
  cases rx;have e':(∃ xs,SqL X.K H p xs/\k=!xs.isEmpty)\/(∃ xs,SqT X.K H p xs/\k=!xs.isEmpty)\/∃ kvs,H p=some (.dK kvs)/\k=!kvs.isEmpty:=e;rcases e' with ⟨xs,hx,e'⟩|⟨xs,hx,e'⟩|⟨kvs,hx,e'⟩
  ·subst e';obtain⟨its,r,pl,hz⟩:=I.list hx;have hlen:=r.length;exact wpAny_truthy_list pl.isList (by simp only[zbx];omega) ⟨H,I.tok _,by rw[jir r];exact q⟩
  ·subst e';obtain⟨its,r,pl,hz⟩:=I.tuple hx;have hlen:=r.length;exact truthy_tuple pl (by simp only[zbx];omega) ⟨H,I.tok _,by rw[jir r];exact q⟩
  ·subst e';obtain⟨hz,hS,vs,r,m⟩:kvs.length<=sizeLine/\(p == sysModules)=false/\∃ vs,KV kvs vs/\s.heap.DictOf (jev X.prog X.w) p vs:=I.hok p _ hx;have hlen:kvs.length=vs.length:=Paired.length r;exact wpAny_truthy_dict hS m (by omega) ⟨H,I.tok _,by rw[jmu r];exact q⟩
 | _=>exact (show False from e).elim
theorem jmg(ha:PE X a ta)(he:∀ whole,isTrue a X.env whole=(do let v <- whole;standAt a.pos;holding [v] (truthy v))) :
  PT X a (fun σ H Q=>ta σ H fun x H'=>∃ k,TruV X.K x H' k/\Q k H'):=by
 intro pins s σ H Q I h;exact isTrue_plain (thn (ha pins s σ H _ I h) fun v s1 ⟨x,H1,I1,r1,q1⟩=>jxe pins s1 σ H1 x v Q I1 r1 q1) (he _)
theorem jm6:OpR X (binaryOp .Add) (fun x y H Q=>∃ i j,x=.str i/\y=.str j/\i.length+j.length<=sizeLine/\Q (.str (i++j)) H):=by
 intro pins s σ H x y v u Q I rx ry h;obtain⟨i,j,rfl,rfl,hz,q⟩:=h;obtain⟨t,rfl⟩:=rx;obtain⟨t',rfl⟩:=ry;exact add_str (fun t' tk=>⟨.str (i++j),H,I.tok _,⟨_,rfl⟩,q⟩) hz
theorem jkz{x:V}{us:List Value}(r:Vals [x] us):∃ u,us=[u]/\RelV x u:=by
 cases r with
 | cons r1 r2=>cases r2;exact⟨_,rfl,r1⟩
theorem call_int1:CallR X (.type "int") (fun xs H Q=>(∃ i,xs=[.int i]/\Q (.int i) H)\/∃ k,xs=[.bl k]/\Q (.int (if k then 1 else 0)) H):=by
 intro pins s σ H xs us Q I r h;rcases h with ⟨i,rfl,q⟩|⟨k,rfl,q⟩
 ·obtain⟨u,rfl,t,rfl⟩:=jkz r;exact call_int_int ⟨.int i,H,I,⟨_,rfl⟩,q⟩
 ·obtain⟨u,rfl,r1⟩:=jkz r;cases r1;exact call_int_bool ⟨.int (if k then 1 else 0),H,I.tok _,⟨_,rfl⟩,q⟩
end
structure ObjM(h:Heap)(x dx C:Addr)(mA:Str->Option Value):Prop where
 obj:h.get? x=some (W.instObj C dx)
 ns:h.Ns1 dx mA
 ne:dx≠x
theorem jol{h:Heap}{dx:Addr}{mA:Str->Option Value}(n:h.Ns1 dx mA):∃ od,h.get? dx=some od/\∀ name,W.lookIn name od=some (mA name):=by
 obtain⟨o,es,ep,ho,hd,hk,_,hm⟩:=n;refine⟨o,ho,fun name=>?_⟩;have e:=hm name;unfold nsFind findBy at e;rw[<- Array.find?_toList] at e;unfold W.lookIn;rw[hd];dsimp only
 split
 ·rename_i y q;rw[q] at e;exact congrArg some e
 ·rename_i q;rw[q] at e;have a:es.toList.any (·.refKey)=false:=by
   rw[List.any_eq_false];intro y hy;obtain⟨z,t,hkey⟩:=hk y (Array.mem_toList_iff.mp hy);simp[DictEntry.refKey,hkey]
  have a':¬ es.toList.any (·.refKey)=true:=by rw[a];exact Bool.false_ne_true
  rw[if_neg a'];exact congrArg some e
section
end
noncomputable def putF(f:Str)(v:V):List (Str×V)->List (Str×V)
 | []=>[(f,v)]
 | (g,x)::r=>if g=f then (g,v)::r else (g,x)::putF f v r
theorem jhs(f g:Str)(v:V):∀ fs:List (Str×V),(putF f v fs).lookup g=if g=f then some v else fs.lookup g
 | []=>by
  show List.lookup g [(f,v)]=_
  by_cases h:g=f
  ·have hb:(g == f)=true:=beq_iff_eq.mpr h;simp only[List.lookup,hb,if_pos h]
  ·have hb:(g == f)=false:=beq_eq_false_iff_ne.mpr h;simp only[List.lookup,hb,if_neg h]
 | (k,x)::r=>by
  have ih:=jhs f g v r;rw[show putF f v ((k,x)::r)=(if k=f then (k,v)::r else (k,x)::putF f v r) from rfl]
  by_cases hk:k=f
  ·rw[if_pos hk]
   by_cases h:g=k
   ·have hb:(g == k)=true:=beq_iff_eq.mpr h;simp only[List.lookup,hb,if_pos (h.trans hk)]
   ·have hb:(g == k)=false:=beq_eq_false_iff_ne.mpr h;simp only[List.lookup,hb,if_neg (fun e:g=f=>h (e.trans hk.symm))]
  ·rw[if_neg hk]
   by_cases h:g=k
   ·have hb:(g == k)=true:=beq_iff_eq.mpr h;simp only[List.lookup,hb,if_neg (fun e:g=f=>hk (h.symm.trans e))]
   ·have hb:(g == k)=false:=beq_eq_false_iff_ne.mpr h;simp only[List.lookup,hb];exact ih
theorem jhq(f:Str)(v:V):∀ fs:List (Str×V),f∈(putF f v fs).map (·.1)/\∀ g,g∈fs.map (·.1)->g∈(putF f v fs).map (·.1)
 | []=>⟨by simp[putF],fun g h=>by simp at h⟩
 | (k,x)::r=>by
  obtain⟨i1,i2⟩:=jhq f v r;rw[show putF f v ((k,x)::r)=(if k=f then (k,v)::r else (k,x)::putF f v r) from rfl]
  by_cases hk:k=f
  ·rw[if_pos hk];subst hk;exact⟨by simp,fun g h=>by simpa using h⟩
  ·rw[if_neg hk];refine⟨?_,fun g h=>?_⟩
   ·rw[List.map_cons];exact zaw _ i1
   ·rw[List.map_cons] at h |-
    rcases List.mem_cons.mp h with e|e
    ·exact List.mem_cons.mpr (.inl e)
    ·exact zaw _ (i2 g e)
theorem jhr(f:Str)(v:V):∀ fs:List (Str×V),(putF f v fs).length<=fs.length+1
 | []=>by simp[putF]
 | (k,x)::r=>by
  have ih:=jhr f v r;rw[show putF f v ((k,x)::r)=(if k=f then (k,v)::r else (k,x)::putF f v r) from rfl]
  by_cases hk:k=f
  ·rw[if_pos hk,List.length_cons,List.length_cons];omega
  ·rw[if_neg hk,List.length_cons,List.length_cons];omega
theorem RelO.some_of{v:V}{o:Option Value}(r:RelO (some v) o):∃ u,o=some u/\RelV v u:=by
 cases o with
 | none=>exact (show False from r).elim
 | some u=>exact⟨u,rfl,r⟩
theorem jn7{v:V}{u:Value}(r:RelV v u):W.handedIn u=true:=by
 cases v with
 | non=>cases (show u=Value.none from r);rfl
 | bl b=>cases (show u=Value.bool b from r);rfl
 | int i=>obtain⟨t,e⟩:=(show ∃ t,u=Value.int i t from r);cases e;rfl
 | str x=>obtain⟨t,e⟩:=(show ∃ t,u=Value.str x t from r);cases e;rfl
 | byt b=>obtain⟨t,e⟩:=(show ∃ t,u=Value.bytes b t from r);cases e;rfl
 | flt b=>obtain⟨t,e⟩:=(show ∃ t,u=Value.float b t from r);cases e;rfl
 | ref a=>cases (show u=Value.ref a from r);rfl
 | ty n=>cases (show u=Value.type n from r);rfl
section
end
structure Cls(K:W.Frag)(C:Addr):Prop where
 pg:W.plainGet K C Str.empty=true
 hd:W.hasDictIn K C=true
 po:W.plainOver K C=true
 sa:W.findIn K (.ref C) "__setattr__"=some (some (.builtin "object.__setattr__"))
noncomputable def jrn(K:W.Frag)(C:Addr)(f:Str):Prop:=W.findIn K (.ref C) f=some none
structure Con(K:W.Frag)(C:Addr)(f:Str)(v:V)(u:Value):Prop where
 at_:W.findIn K (.ref C) f=some (some u)
 rel:RelV v u
 get:W.specialIn K u "__get__"=some none
 cp:W.copiedNames.contains f=false
structure Meth(K:W.Frag)(C:Addr)(m:Str)(f:Addr):Prop where
 at_:W.findIn K (.ref C) m=some (some (.ref f))
 fn:W.isFn K (.ref f)=true
 kp:W.keepIn K (.ref f)=true
section
variable {s:Shared}{f:Str}{A:Around}{E:Value->Shared->Prop}
theorem jsr{prog:Program}{w:World}{env:Env}{e:Expr}{f:Str}{pos:Pos}{s:Shared}{Q:Value->Shared->Prop}(hb:attributeBase e f env (eval e env)=eval e env)
  (h:wpAny (model prog w) A (eval e env) (fun o s₁=>wpAny (model prog w) A (getAttr o f true) Q E s₁) E s):wpAny (model prog w) A (eval (.Attribute e f pos) env) Q E s :=
 Attribute_any_ h (by rw[arm_eval_Attribute,hb])
end
inductive FldP(K:W.Frag)(f:Str)(Q:VK)(x:V)(H1:Hp):Prop
 | mk (a C dx:Addr) (fs:List (Str×V)) (v:V) (h1:x=.ref a) (h2:H1 a=some (.ins C dx fs)) (h3:Cls K C) (h4:jrn K C f) (h5:fs.lookup f=some v) (h6:Q v H1)
section
end
section
variable {H:Hp}
inductive TyOf(K:W.Frag)(H:Hp):V->Value->Prop where
 | non:TyOf K H .non (.type "NoneType")
 | bl (x:Bool):TyOf K H (.bl x) (.type "bool")
 | int (i:Int):TyOf K H (.int i) (.type "int")
 | str (x:Str):TyOf K H (.str x) (.type "str")
 | flt (x:UInt64):TyOf K H (.flt x) (.type "float")
 | lst {a:Addr} {xs:List V} (e:H a=some (.lst xs)):TyOf K H (.ref a) (.type "list")
 | frz {a:Addr} {o:Obj} {xs:List V} (e:H a=some (.frz o (.lst xs))):TyOf K H (.ref a) (.type "list")
 | tup {a:Addr} {xs:List V} (e:H a=some (.tup xs)):TyOf K H (.ref a) (.type "tuple")
 | dK {a:Addr} {kvs:List (Key×V)} (e:H a=some (.dK kvs)):TyOf K H (.ref a) (.type "dict")
 | dT {a:Addr} {kvs:List (List Key×V)} (e:H a=some (.dT kvs)):TyOf K H (.ref a) (.type "dict")
 | ins {a C dx:Addr} {fs:List (Str×V)} (e:H a=some (.ins C dx fs)) (cl:Cls K C) (ha:W.findIn K (.ref C) "__class__"=some (some (.builtin "object.__class__")))
   (hn:W.specialIn K (.builtin "object.__class__") "__get__"=some (some (.builtin "getset_descriptor.__get__"))) (htk:W.takesIn K (.builtin "object.__class__")=some true)
   (hm:W.mroIn K C (.type "object")=some true):TyOf K H (.ref a) (.ref C)
end
structure Room(k:Nat)(A:Around):Prop where
 hd:A.handled=none
 dp:A.depth+3*k+5<recursionLimit
 un:A.units+16*k+200<cLine
theorem Room.mono{j k:Nat}{A:Around}(r:Room k A)(h:j<=k):Room j A:=⟨r.hd,by have:=r.dp;omega,by have:=r.un;omega⟩
theorem Room.deeper{k:Nat}{A:Around}(r:Room (k+1) A)(env:Env):Room k (A.deeper env) :=
 ⟨r.hd,by have:=r.dp;show A.depth+1+3*k+5<_;omega,by have:=r.un;show A.units+3+16*k+200<_;omega⟩
theorem jm1{A:Around}{C:Addr}{us:List Value}{kw:List (Str×Value)}:(A.under (.builtin "type.__call__" ⟨.ref C::us,kw⟩)).depth=A.depth+1:=by
 first|rfl|simp[Around.under,Code.weight,Code.isCreation,Code.isGuard,Code.isCaller,Code.frames,Code.isFrame,guardIds]
theorem jm2{A:Around}{C:Addr}{us:List Value}{kw:List (Str×Value)}:(A.under (.builtin "type.__call__" ⟨.ref C::us,kw⟩)).units=A.units+1:=by
 first|rfl|simp[Around.under,Code.cUnits,Code.frames,Code.isFrame]
theorem Room.make{k:Nat}{A:Around}(r:Room (k+1) A)(C:Addr)(us:List Value)(kw:List (Str×Value)):Room k (A.under (.builtin "type.__call__" ⟨.ref C::us,kw⟩)) :=
 ⟨r.hd,by have:=r.dp;rw[jm1];omega,by have:=r.un;rw[jm2];omega⟩
theorem Room.depth{k:Nat}{A:Around}(r:Room k A):A.depth<recursionLimit:=by have:=r.dp;omega
theorem Room.units{k:Nat}{A:Around}(r:Room k A):A.units+64<cLine:=by have:=r.un;omega
noncomputable def tNil:TA:=fun _ H Q=>Q [] H
noncomputable def jza(ta:TE)(tr:TA):TA:=fun σ H Q=>ta σ H fun x H1=>tr σ H1 fun xs H2=>Q (x::xs) H2
section
variable {X:Cx}{e:Expr}{es:List Expr}{te:TE}{t:TA}{pos:Pos}
theorem jhz:PA X [] tNil:=fun _ _ _ _ H Q I h=>Calls.spliced_nil ⟨[],H,I,.nil,h⟩
theorem jdo(ha:PE X e te)(hr:PA X es t)(hs:autoParam (starEach (e::es) X.env=(false,eval e X.env)::starEach es X.env) zau2._auto_1):PA X (e::es) (jza te t):=by
 intro pos pins s σ H Q I h;rw[hs];show wpAny _ _ (spliced ((false,eval e X.env)::backTo pos (starEach es X.env))) _ _ s;refine Calls.spliced_cons (thn (ha pins s σ H _ I h) fun u s1 hzz=>?_);obtain⟨x,H1,I1,r1,q1⟩:=hzz;exact thn (hr pos pins s1 σ H1 _ I1 q1) fun us s2 ⟨xs,H2,I2,r2,q2⟩=>⟨x::xs,H2,I2,.cons r1 r2,q2⟩
noncomputable def tTup(t:TA):TE:=fun σ H Q=>t σ H fun xs H1=>xs.length<=sizeLine/\∀ p,H1 p=none->Q (.ref p) (upd H1 p (.tup xs))
noncomputable def tLst(t:TA):TE:=fun σ H Q=>t σ H fun xs H1=>xs.length<=sizeLine/\∀ p,H1 p=none->Q (.ref p) (upd H1 p (.lst xs))
theorem jsb{x1}(h:PA X es t):PE X (.Tuple es x1 pos) (tTup t):=by
 intro pins s σ H Q I hq;refine wpAny_Tuple_spliced (thn (h pos pins s σ H _ I hq) fun us s1 ⟨xs,H1,I1,r,z,q⟩=>⟨by rw[<- r.length];exact z,?_⟩);have hf:H1 s1.heap.objs.size=none:=I1.hok.fresh (zac _);refine⟨.ref s1.heap.objs.size,upd H1 s1.heap.objs.size (.tup xs),I1.laid (t':=s1.toks) (fun b u e=>zaz _ e) (zac _) ?_,rfl,q _ hf⟩;exact⟨z,us,r,⟨_,zbz _ rfl,rfl,_,rfl⟩⟩
theorem jr8(h:PA X es t):PE X (.List es pos) (tLst t):=by
 intro pins s σ H Q I hq;refine wpAny_List_spliced (thn (h pos pins s σ H _ I hq) fun us s1 ⟨xs,H1,I1,r,z,q⟩=>⟨by rw[<- r.length];exact z,?_⟩);have hf:H1 s1.heap.objs.size=none:=I1.hok.fresh (zac _);refine⟨.ref s1.heap.objs.size,upd H1 s1.heap.objs.size (.lst xs),I1.laid (t':=s1.toks) (fun b u e=>zaz _ e) (zac _) ?_,rfl,q _ hf⟩;exact⟨z,us,0,r,zbz _ rfl⟩
end
noncomputable abbrev Sp:=List V->Hp->VK->XK->Prop
noncomputable abbrev CXT:=List Env->Hp->Shared->XK->Value->Shared->Prop
structure Env0(P:Program)(w:World)(K:W.Frag)(mg:Str->Option Value)(base:Heap)(A:Around)(outer:List Env)(s:Shared)(H:Hp):Prop where
 frames:A.frames=some outer
 mod:Mod K mg base
 bs:∀ b o,base.get? b=some o->s.heap.get? b=some o/\H b=none
 bsz:base.objs.size<=s.heap.objs.size
 funs:s.heap.FunFrames base outer
 frf:∀ b∈frs outer,H b=none
 hok:HOk P w H s.heap
 bare:AllBare s.gens
noncomputable def CE(outer:List Env)(P:Program)(w:World)(H:Hp)(s:Shared)(Q:VK)(u:Value)(s':Shared):Prop :=
 ∃ v H',s'.os=s.os/\AllBare s'.gens/\Un (frs outer) [] H H' s.heap s'.heap/\HOk P w H' s'.heap/\RelV v u/\Q v H'
noncomputable def CR(CX:CXT)(outer:List Env)(P:Program)(w:World)(H:Hp)(s:Shared)(Q:VK)(E:XK)(r:Result)(s':Shared):Prop :=
 match r with
 | .ok (.ret u)=>CE outer P w H s Q u s'
 | .ok _=>False
 | .error e=>CX outer H s E e s'
structure FnOk(P:Program)(w:World)(K:W.Frag)(mg:Str->Option Value)(base:Heap)(CX:CXT)(k:Nat)(f:Addr)(fd:FuncData)(ps:List Str)(sp:Sp):Prop where
 len:∀ vs H Q E,sp vs H Q E->vs.length=ps.length
 run:∀ (A:Around) (outer:List Env) (s:Shared) (H:Hp) (args:Args) (us:List Value) (vs:List V) (Q:VK) (E:XK),Room k A->Env0 P w K mg base A outer s H->BindsTo s fd args (ps.zip us)->Vals vs us->sp vs H Q E ->
  codeAny (model P w) A (.call (.ref f) args) (CR CX outer P w H s Q E) s
theorem FnOk.imp{P:Program}{w:World}{K:W.Frag}{mg:Str->Option Value}{base:Heap}{CX:CXT}{k:Nat}{f:Addr}{fd:FuncData}{ps:List Str}{sp sp':Sp}(F:FnOk P w K mg base CX k f fd ps sp)
  (h:∀ vs H Q E,sp' vs H Q E->sp vs H Q E):FnOk P w K mg base CX k f fd ps sp' :=
 ⟨fun vs H Q E q=>F.len vs H Q E (h _ _ _ _ q),fun A outer s H args us vs Q E hr he hb hv hs=>F.run A outer s H args us vs Q E hr he hb hv (h _ _ _ _ hs)⟩
theorem Env0.make{P:Program}{w:World}{K:W.Frag}{mg:Str->Option Value}{base:Heap}{A:Around}{outer:List Env}{s:Shared}{H:Hp}(e:Env0 P w K mg base A outer s H)(C:Addr)(us:List Value)(kw:List (Str×Value)) :
  Env0 P w K mg base (A.under (.builtin "type.__call__" ⟨.ref C::us,kw⟩)) outer s H:=⟨by first|exact e.frames|(simpa[Around.under,Code.envs,Code.isFrame,pushEnvs] using e.frames),e.mod,e.bs,e.bsz,e.funs,e.frf,e.hok,e.bare⟩
section
variable {X:Cx}{pins:List (Addr×Obj)}{σ:St}{H:Hp}{s s':Shared}
theorem Inv.env0(I:Inv X pins σ H s):Env0 X.prog X.w X.K X.mg X.base X.A X.stack s H :=
 ⟨I.ok.frames,I.ok.mod,I.bs,Nat.le_trans I.ok.bsz I.sz,I.stack,I.stkFree,I.hok,I.bare⟩
theorem Inv.after{Q:VK}{u:Value}(I:Inv X pins σ H s)(h:CE X.stack X.prog X.w H s Q u s'):EP X pins σ Q u s':=by
 obtain⟨v,H',os,bare,un,hok,r,q⟩:=h;obtain⟨hh,g,d,t,os'⟩:=s';obtain rfl:os'=s.os:=os;exact⟨v,H',I.call (h':=hh) (g':=g) (d':=d) (t':=t) (ch:=[]) un hok bare (fun b z=>absurd z (by simp)),r,q⟩
end
noncomputable def jpw(sp:Sp)(dvs:List V)(E:XK)(t:TA):TE:=fun σ H Q=>t σ H fun vs H1=>sp (vs++dvs) H1 Q E
noncomputable def jzb(C:Addr)(m:Str)(sp:Sp)(dvs:List V)(E:XK)(ta:TE)(t:TA):TE:=fun σ H Q=>ta σ H fun x H1=>∃ a dx fs,x=.ref a/\H1 a=some (.ins C dx fs)/\fs.lookup m=none /\
 t σ H1 fun vs H2=>sp (x::(vs++dvs)) H2 Q E
noncomputable def Binds(K:W.Frag)(fd:FuncData)(ps:List Str)(ds:List Value):Prop :=
 ∀ (s:Shared) (us:List Value),K.In s.heap->(us++ds).length=ps.length->BindsTo s fd ⟨us,[]⟩ (ps.zip (us++ds))
theorem Binds.all{K:W.Frag}{fd:FuncData}{ps:List Str}(h:∀ us:List Value,us.length=ps.length->bindArgs fd ⟨us,[]⟩=pure (ps.zip us)):Binds K fd ps []:=fun s us _ hl=>by
 rw[List.append_nil] at hl |-
 exact .of_eq (h us hl)
noncomputable def jly(CX:CXT)(X:Cx)(E:XK):Prop:=∀ (pins:List (Addr×Obj)) (σ:St) (H:Hp) (s:Shared) (e:Value) (s':Shared),Inv X pins σ H s->CX X.stack H s E e s'->X.xe e s'
section
variable {X:Cx}{CX:CXT}{k:Nat}{f C:Addr}{fd:FuncData}{ps:List Str}{sp:Sp}{dvs:List V}{ds:List Value}{E:XK}{x:Str}{p pos:Pos}{e:Expr}{es:List Expr}{t:TA}
theorem jw8{pins:List (Addr×Obj)}{σ:St}{H:Hp}{s:Shared}{Q:VK}{us:List Value}{vs:List V}(F:FnOk X.prog X.w X.K X.mg X.base CX k f fd ps sp)(hr:Room k X.A)(hb:Binds X.K fd ps ds)(hd:Vals dvs ds)(hx:jly CX X E)
  (I:Inv X pins σ H s) (r:Vals vs us) (h:sp (vs++dvs) H Q E):wpAny (model X.prog X.w) X.A (call (.ref f) us) (EP X pins σ Q) X.xe s:=by
 have r2:Vals (vs++dvs) (us++ds):=r.append hd;have hl:(us++ds).length=ps.length:=by rw[<- r2.length];exact F.len _ _ _ _ h
 refine wpAny_call (codeAny_mono (F.run X.A X.stack s H ⟨us,[]⟩ (us++ds) (vs++dvs) Q E hr I.env0 (hb s us I.kIn hl) r2 h) fun r s' hq=>?_)
 cases r with
 | error e=>exact hx pins σ H s e s' I hq
 | ok fl =>
  cases fl with
  | ret u=>exact I.after hq
  | next=>exact False.elim hq
  | brk=>exact False.elim hq
  | cont=>exact False.elim hq
theorem jln(F:FnOk X.prog X.w X.K X.mg X.base CX k f fd ps sp)(hr:Room k X.A)(hg:Gl X x)(hm:X.mg x=some (.ref f))(hk:W.keepIn X.K (.ref f)=true)(hb:Binds X.K fd ps ds)(hd:Vals dvs ds)(hx:jly CX X E)
  (ha:PA X (e::es) t) (hdb:autoParam ((x == ("__debug__":Str))=false) zau1._auto_1) (he:autoParam (starEach (e::es) X.env=(false,eval e X.env)::starEach es X.env) zau2._auto_1) (hpl:autoParam ((backTo pos (starEach es X.env)).any (·.1)=false) zau2._auto_1) :
  PE X (.Call (.Name x p) (e::es) [] pos) (jpw sp dvs E t):=by
 intro pins s σ H Q I h;refine wpAny_Call_Name_kw (jgg I hg hm ?_ hdb);refine W.callWith_K (h₀:=X.base) I.ok.mod.kin hk (thn (ha pos pins s σ H _ I h) fun us s1 ⟨vs,H1,I1,r,q⟩=>⟨I1.kIn,?_⟩) he hpl;exact jw8 F hr hb hd hx I1 r q
structure Mk(K:W.Frag)(C f:Addr):Prop where
 makes:W.makesIn K C=true
 init:W.findIn K (.ref C) "__init__"=some (some (.ref f))
 fn:W.isFn K (.ref f)=true
 kp:W.keepIn K (.ref C)=true
end
section
variable {fd:FuncData}{ps ks:List Str}
structure KBinds(K:W.Frag)(fd:FuncData)(ps ks:List Str)(g:List Value->List Value->List Value)(gV:List V->List V->List V):Prop where
 to:∀ (s:Shared) (us ws:List Value),K.In s.heap->(g us ws).length=ps.length->BindsTo s fd ⟨us,ks.zip ws⟩ (ps.zip (g us ws))
 rel:∀ {vs:List V} {us:List Value} {zs:List V} {ws:List Value},Vals vs us->Vals zs ws->Vals (gV vs zs) (g us ws)
end
structure FnScope(N P:List Str)(sc:Scope):Prop where
 kind:sc.kind=.function
 co:sc.isCoroutine=false
 gen:sc.isGenerator=false
 nd:N.Nodup
 pre:N.take P.length=P
 par:∀ x∈P,sc.names.lookup x=some .local\/sc.names.lookup x=some .cell
 nofree:∀ y∈sc.names,y.2≠.free
theorem jjq{kindOf:Str->Option NameKind}{x:Str}:∀ {binds:List (Str×Value)} {m:Str->Option Value},(∀ v,(x,v)∉binds)->bindL kindOf binds m x=m x
 | [],_,_=>rfl
 | (n,v)::r,m,h=>by
  unfold bindL;rw[jjq fun w hw=>h w (zaw _ hw)]
  split
  ·have:x≠n:=by rintro rfl;exact h v zaa
   simp[this]
  ·rfl
theorem jjo{kindOf:Str->Option NameKind}{x:Str}:∀ {binds:List (Str×Value)} {m:Str->Option Value},(∀ v,(x,v)∉binds)->bindC kindOf binds m x=m x
 | [],_,_=>rfl
 | (n,v)::r,m,h=>by
  unfold bindC;rw[jjo fun w hw=>h w (zaw _ hw)]
  split
  ·rfl
  ·have:x≠n:=by rintro rfl;exact h v zaa
   simp[this]
theorem jjp{kindOf:Str->Option NameKind}{x:Str}{v:Value}:∀ {P:List Str} {vs:List Value} {i:Nat} {m:Str->Option Value},P.Nodup->P[i]? = some x->vs[i]? = some v->kindOf x=some .local ->
  bindL kindOf (P.zip vs) m x=some v
 | [],_,_,_,_,h,_,_=>by simp at h
 | _::_,[],_,_,_,_,h,_=>by simp at h
 | p::P,w::vs,0,m,nd,h1,h2,hk=>by
  simp at h1 h2;subst h1;subst h2
  show bindL kindOf ((p,w)::P.zip vs) m p=_;unfold bindL;rw[jjq fun v hv=>(List.nodup_cons.mp nd).1 (List.of_mem_zip hv).1,if_pos hk];simp
 | p::P,w::vs,i+1,m,nd,h1,h2,hk=>by
  show bindL kindOf ((p,w)::P.zip vs) m x=_;unfold bindL;exact jjp (i:=i) (List.nodup_cons.mp nd).2 (by simpa using h1) (by simpa using h2) hk
theorem jjn{kindOf:Str->Option NameKind}{x:Str}{v:Value}:∀ {P:List Str} {vs:List Value} {i:Nat} {m:Str->Option Value},P.Nodup->P[i]? = some x->vs[i]? = some v->kindOf x≠some .local ->
  bindC kindOf (P.zip vs) m x=some v
 | [],_,_,_,_,h,_,_=>by simp at h
 | _::_,[],_,_,_,_,h,_=>by simp at h
 | p::P,w::vs,0,m,nd,h1,h2,hk=>by
  simp at h1 h2;subst h1;subst h2
  show bindC kindOf ((p,w)::P.zip vs) m p=_;unfold bindC;rw[jjo fun v hv=>(List.nodup_cons.mp nd).1 (List.of_mem_zip hv).1,if_neg hk];simp
 | p::P,w::vs,i+1,m,nd,h1,h2,hk=>by
  show bindC kindOf ((p,w)::P.zip vs) m x=_;unfold bindC;exact jjn (i:=i) (List.nodup_cons.mp nd).2 (by simpa using h1) (by simpa using h2) hk
noncomputable def start(N:List Str)(vs:List V):St:=vs.map some++List.replicate (N.length-vs.length) none
noncomputable def cxOf(CX:CXT)(P:Program)(w:World)(K:W.Frag)(mg:Str->Option Value)(base:Heap)(N:List Str)(qual:Str)(scope:Scope)(f:Addr)(cd:Value)(A:Around)(outer:List Env)(s:Shared)(H:Hp)(E:XK):Cx where
 prog:=P
 w:=w
 K:=K
 mg:=mg
 base:=base
 A:=A.deeper (envOfC qual scope s.heap.objs.size f cd)
 N:=N
 s₀:=s
 Hz:=H
 env:=envOfC qual scope s.heap.objs.size f cd
 outer:=outer
 stack:=envOfC qual scope s.heap.objs.size f cd::outer
 ex:=[]
 calm:=true
 fn:=fun _=>true
 pn:=[]
 xe:=fun e s'=>wpAny (model P w) (A.deeper (envOfC qual scope s.heap.objs.size f cd)) (leaving (envOfC qual scope s.heap.objs.size f cd) e) (fun _ s''=>CX outer H s E e s'') (fun e' s''=>CX outer H s E e' s'') s'
theorem jl6{sc:Scope}{n:Nat}{x:Str}(h:sc.names.lookup x=some .cell):∃ c,(cellsFrom n sc.names []).lookup x=some c:=by
 have q:=W.cellsFrom_some sc.names n [] (.inl h);exact Option.isSome_iff_exists.mp q
theorem joc{CX:CXT}{P:Program}{w:World}{K:W.Frag}{mg:Str->Option Value}{base:Heap}{N ps:List Str}{qual:Str}{scope:Scope}{f:Addr}{cd:Value}{A:Around}{outer:List Env}{s s1:Shared}{H:Hp}{E:XK}{us:List Value}{vs:List V}
  (S:FnScope N ps scope) (hd:A.handled=none) (e0:Env0 P w K mg base A outer s H) (hl:vs.length=ps.length) (r:Vals vs us)
  (x:InCallC s s.heap.objs.size (bindL (envOfC qual scope s.heap.objs.size f cd).kindOf (ps.zip us) fun _=>none) (cellsFrom (s.heap.objs.size+1) scope.names []) (bindC (envOfC qual scope s.heap.objs.size f cd).kindOf (ps.zip us) fun _=>none) s1) :
  Inv (cxOf CX P w K mg base N qual scope f cd A outer s H E) [] (start N vs) H s1:=by
 have hpl:ps.length<=N.length:=by have:=congrArg List.length S.pre;rw[List.length_take] at this;omega
 obtain⟨h1,tk,rfl,hk⟩:=x.done;have noA:∀ b:Addr,b∉(cxOf CX P w K mg base N qual scope f cd A outer s H E).ex:=fun b z=>absurd (show b∈([]:List Addr) from z) (by simp)
 refine⟨⟨e0.mod,S.kind,rfl,rfl,zac _,fun y z c h1 h2=>?_,fun y hy=>?_,fun y c _ h=>?_,fun _=>hd,Around.frames_deeper e0.frames,.inr ⟨rfl,rfl⟩,fun b z=>absurd z (noA b),e0.bs,e0.bsz,fun b _ _=>noA b,fun b z=>absurd z (noA b),e0.funs,e0.frf⟩,
  rfl,e0.bare,Un.kept hk,⟨_,x.toInCall.ns,fun i y v h1 h2 h3=>?_⟩,fun y c h=>⟨_,x.cell y c h⟩,e0.hok.fresh (zac _),fun y c h=>?_,fun p hp=>absurd (show p∈([]:List (Addr×Obj)) from hp) (by simp),e0.hok.kept hk,?_⟩
 ·exact name_of_addr x.apart (PySem.mem_of_lookup h1) (PySem.mem_of_lookup h2)
 ·have hy:scope.names.lookup y=some .cell\/scope.names.lookup y=some .free:=hy;rcases hy with hy|hy
  ·exact jl6 hy
  ·exact absurd rfl (S.nofree _ (PySem.mem_of_lookup hy))
 ·exact Nat.le_of_lt (x.above y c (PySem.mem_of_lookup h))
 ·have hi:i<vs.length:=by
   unfold start at h2
   by_cases hi:i<vs.length
   ·exact hi
   ·rw[List.getElem?_append_right (by simpa using hi)] at h2;rw[List.getElem?_replicate] at h2
    split at h2<;>cases h2
  have ha:vs[i]? = some v:=by
   unfold start at h2;rw[List.getElem?_append_left (by simpa using hi),zba] at h2
   cases e:vs[i]? with
   | none=>rw[e] at h2;cases h2
   | some a=>rw[e] at h2;cases h2;rfl
  obtain⟨u,hu,rv⟩:=r.get ha;have hp:ps[i]? = some y:=by
   rw[<- S.pre,List.getElem?_take_of_lt (by omega)];exact h1
  have ndP:ps.Nodup:=by rw[<- S.pre];exact S.nd.sublist (List.take_sublist _ _)
  refine⟨u,rv,?_⟩;rcases S.par y (List.mem_of_getElem? hp) with k|k
  ·exact .inl ⟨k,jjp ndP hp hu k⟩
  ·obtain⟨c,e⟩:=jl6 (n:=s.heap.objs.size+1) k;refine .inr ⟨.inl k,c,e,?_⟩;have q:=x.cell y c e;rw[jjn ndP hp hu (by show scope.names.lookup y≠_;rw[k];decide)] at q;exact q
 ·exact e0.hok.fresh (Nat.le_of_lt (x.above y c (PySem.mem_of_lookup h)))
 ·unfold start;show _=N.length;rw[zca,zav,List.length_replicate];omega
theorem jvv{CX:CXT}{P:Program}{w:World}{K:W.Frag}{mg:Str->Option Value}{base:Heap}{k:Nat}{f:Addr}{name qual:Str}{params:Arguments}{body:List Stmt}{scope:Scope}{dV kV doc pm cdv ct oc:Value}{an od:Option Addr}
  {osl:Array (Option Value)} {N ps:List Str} {sp:Sp} (lk:K.lookup f=some ⟨oc,od,.func (W.fnOf name qual params body scope dV kV doc pm an cdv ct),osl⟩) (hcd:W.codeIn K cdv qual=true) (S:FnScope N ps scope)
  (len:∀ vs H Q E,sp vs H Q E->vs.length=ps.length)
  (hbody:∀ (A:Around) (outer:List Env) (s:Shared) (H:Hp) (vs:List V) (Q:VK) (E:XK),Room k (A.deeper (envOfC qual scope s.heap.objs.size f cdv))->sp vs H Q E ->
   ∃ t,PSs (cxOf CX P w K mg base N qual scope f cdv A outer s H E) body t/\t { nx:=fun _ H'=>Q .non H',rt:=Q } (start N vs) H) :
  FnOk P w K mg base CX (k+1) f (W.fnOf name qual params body scope dV kV doc pm an cdv ct) ps sp:=by
 refine⟨len,fun A outer s H args us vs Q E hr e0 hb r hsp=>?_⟩;have hl:=len _ _ _ _ hsp;have KX:K.In s.heap:=e0.mod.kin.keeps fun b o e=>(e0.bs b o e).1
 have lim:s.heap.NoLimit:=e0.mod.nolimit.keeps fun b o e=>(e0.bs b o e).1
 have hkind:∀ y∈ps.zip us,scope.names.lookup y.1=some .local\/(scope.names.lookup y.1=some .cell/\((cellsFrom (s.heap.objs.size+1) scope.names []).lookup y.1).isSome=true):=fun ⟨n,v⟩ hy=>by
  rcases S.par n (List.of_mem_zip hy).1 with q|q
  ·exact .inl q
  ·exact .inr ⟨q,W.cellsFrom_some _ _ _ (.inl q)⟩
 refine codeAny_call_function hr.depth (KX _ _ lk) rfl S.co S.gen rfl (W.codeRec_of KX hcd) (hb _ _ _ _ ?_);refine wpAny_newFunctionEnv_cells S.kind hkind fun env he s1 x=>?_
 subst he;refine⟨lim.keeps x.toInCall.keep,codeAny_func ?_⟩;obtain⟨t,ht,hq⟩:=hbody A outer s H vs Q E (hr.deeper _) hsp;have I:Inv (cxOf CX P w K mg base N qual scope f cdv A outer s H E) [] (start N vs) H s1:=joc S hr.hd e0 hl r x;refine wpAny_mono (ht [] s1 (start N vs) H _ I hq) (fun fl s' hs=>?_) fun e s' hs=>hs
 have fin:∀ {σ':St} {H':Hp} {v:V} {u:Value},Inv (cxOf CX P w K mg base N qual scope f cdv A outer s H E) [] σ' H' s'->RelV v u->Q v H'->CE outer P w H s Q u s' :=
  fun {σ' H' v u} J rv q=>⟨v,H',J.os,J.bare,J.base,J.hok,rv,q⟩
 cases fl with
 | ret u =>
  obtain⟨v,σ',H',J,rv,q⟩:=hs;exact fin J rv q
 | next =>
  obtain⟨σ',H',J,q⟩:=hs;exact fin (v:=V.non) (u:=Value.none) J rfl q
 | brk =>
  obtain⟨_,_,_,q⟩:=hs;exact False.elim q
 | cont =>
  obtain⟨_,_,_,q⟩:=hs;exact False.elim q
section
variable {X:Cx}{x:Str}{p pos:Pos}{e:Expr}{es:List Expr}{t:TA}{id T:String}{r:List V->Hp->VK->Prop}
noncomputable def tCB(r:List V->Hp->VK->Prop)(t:TA):TE:=fun σ H Q=>t σ H fun vs H1=>r vs H1 Q
theorem jg9(hc:CallR X (.builtin id) r)(hg:Gl X x)(hm:X.mg x=none)(hv:bootBuiltins x=some (.builtin id))(ha:PA X (e::es) t)(hn:autoParam (x≠"__name__") zau1._auto_1)(hdb:autoParam ((x == ("__debug__":Str))=false) zau1._auto_1)
  (he:autoParam (starEach (e::es) X.env=(false,eval e X.env)::starEach es X.env) zau2._auto_1) (hpl:autoParam ((backTo pos (starEach es X.env)).any (·.1)=false) zau2._auto_1):PE X (.Call (.Name x p) (e::es) [] pos) (tCB r t):=by
 intro pins s σ H Q I h;refine wpAny_Call_Name_kw (jis I hg hm hv ?_ hn hdb);exact PyProof.Rows.callWith_builtin1 (thn (ha pos pins s σ H _ I h) fun us s1 ⟨vs,H1,I1,r1,q1⟩=>hc pins s1 σ H1 vs us Q I1 r1 q1) he hpl
theorem jkl(hc:CallR X (.type T) r)(hg:Gl X x)(hm:X.mg x=none)(hv:bootBuiltins x=some (.type T))(ha:PA X (e::es) t)(hn:autoParam (x≠"__name__") zau1._auto_1)(hdb:autoParam ((x == ("__debug__":Str))=false) zau1._auto_1)
  (he:autoParam (starEach (e::es) X.env=(false,eval e X.env)::starEach es X.env) zau2._auto_1) (hpl:autoParam ((backTo pos (starEach es X.env)).any (·.1)=false) zau2._auto_1):PE X (.Call (.Name x p) (e::es) [] pos) (tCB r t):=by
 intro pins s σ H Q I h;refine wpAny_Call_Name_kw (jis I hg hm hv ?_ hn hdb);exact PyProof.Rows.callWith_type1 (thn (ha pos pins s σ H _ I h) fun us s1 ⟨vs,H1,I1,r1,q1⟩=>hc pins s1 σ H1 vs us Q I1 r1 q1) he hpl
end
end L2
namespace HT
open PySem PyProof.Rows
section
open PySem.SeqAt
open PySem.AutoSeq1 (wpAny_loadPart')
open PySem.MeetsSeq PySem.MeetsSeq2 PySem.MeetsSeq3
end
section
variable {prog:Program}{w:World}{A:Around}{E:Value->Shared->Prop}{s:Shared}
theorem cat_tup{t b:Addr}{vs ws:List Value}{Q:Value->Shared->Prop}(ht:IsTup s.heap t vs.toArray)(hb:IsTup s.heap b ws.toArray)(hv:vs≠[])
  (h1:ws=[]->Q (.ref t) s) (h2:ws≠[]->Q (.ref s.heap.objs.size) { s with heap:=s.heap.push { cls:=.type "tuple",data:=.seq (vs++ws).toArray } })
  (hsz:vs.length+ws.length<=sizeLine):wpAny (model prog w) A (binaryOp .Add (.ref t) (.ref b)) Q E s:=by
 obtain⟨⟨cls,dd,data,sl⟩,ho,hc,n,hd⟩:=id ht;obtain⟨⟨cls2,dd2,data2,sl2⟩,ho2,hc2,n2,hd2⟩:=id hb;simp only at hc hd hc2 hd2;subst hc hd hc2 hd2;have e:vs.toArray++ws.toArray=(vs++ws).toArray:=by simp
 by_cases hw:ws=[]
 ·exact concat_meets ⟨_,ho,rfl⟩ ⟨_,ho2,rfl⟩ noFill_tuple_add seq_tuple_add PySem.F.slot_tuple_add PySem.F.entry_tuple_add (PySem.F.args_tuple_add_2 _ _)
   (tuple_addW1 t b vs.toArray ws.toArray n n2 dd dd2 sl sl2 (by simpa using hv) (by simp[hw])) ⟨ho,ho2,h1 hw⟩
 ·refine concat_meets ⟨_,ho,rfl⟩ ⟨_,ho2,rfl⟩ noFill_tuple_add seq_tuple_add PySem.F.slot_tuple_add PySem.F.entry_tuple_add (PySem.F.args_tuple_add_2 _ _)
   (tuple_addW2 t b vs.toArray ws.toArray n n2 dd dd2 sl sl2 (by simpa using hv) (by simpa using hw) (by rw[zbx,zbx];exact hsz)) ⟨ho,ho2,?_⟩
  rw[e];exact h2 hw
end
end HT
namespace L2
open PySem PySem.Spec PyProof.Rows
noncomputable abbrev TO:=St->Hp->(Option Int->Hp->Prop)->Prop
section
variable {X:Cx}{p2:Pos}
noncomputable def juo(K:W.Frag):R2:=fun x y H Q=>∃ a b xs ys,x=.ref a/\y=.ref b/\SqT K H a xs/\SqT K H b ys/\xs≠[]/\xs.length+ys.length<=sizeLine /\
 (ys=[]->Q (.ref a) H)/\(ys≠[]->∀ p,H p=none->Q (.ref p) (upd H p (.tup (xs++ys))))
theorem Vals.nil_iff{xs:List V}{us:List Value}(r:Vals xs us):us=[]↔xs=[]:=by
 cases r with
 | nil=>simp
 | cons _ _=>simp
theorem jt5:OpR X (binaryOp .Add) (juo X.K):=by
 intro pins s σ H x y v u Q I rx ry h;obtain⟨a,b,xs,ys,rfl,rfl,ha,hb,hx,hz,q1,q2⟩:=h;cases rx;cases ry;obtain⟨its,r1,p1,_⟩:=I.tuple ha;obtain⟨its2,r2,p2,_⟩:=I.tuple hb;refine HT.cat_tup p1 p2 (fun z=>hx (r1.nil_iff.mp z)) (fun z=>⟨.ref a,H,I,rfl,q1 (r2.nil_iff.mp z)⟩) (fun z=>?_) (by rw[<- r1.length,<- r2.length];exact hz);refine⟨.ref s.heap.objs.size,_,I.laid (t':=s.toks) (o:=.tup (xs++ys)) (fun b ob q=>zaz _ q) (zac _) ?_,rfl,q2 (fun w=>z (r2.nil_iff.mpr w)) _ (I.hok.fresh (zac _))⟩;exact⟨by rw[zca];exact hz,_,r1.append r2,IsTup.new _ _⟩
end
noncomputable def ixN(n:Nat)(i:Int):Option Nat:=if 0<=i then (if i<n then some i.toNat else none) else if -(n:Int)<=i then some (i+n).toNat else none
noncomputable def atI{α:Type}(xs:List α)(i:Int):Option α:=(ixN xs.length i).bind fun j=>xs[j]?
theorem jtl{n:Nat}{i:Int}{j:Nat}(h:ixN n i=some j):seqIndex? i n=some j/\j<n/\-(n:Int)<=i/\i<n:=by
 unfold ixN at h
 by_cases h0:0<=i
 ·rw[if_pos h0] at h
  by_cases h1:i<n
  ·rw[if_pos h1] at h;have e:i.toNat=j:=zby h;exact⟨by rw[seqIndex_of h0 h1,e],by omega,by omega,h1⟩
  ·rw[if_neg h1] at h;cases h
 ·rw[if_neg h0] at h
  by_cases h1:-(n:Int)<=i
  ·rw[if_pos h1] at h;have e:(i+n).toNat=j:=zby h;exact⟨by rw[seqIndex_neg (by omega) h1,e],by omega,h1,by omega⟩
  ·rw[if_neg h1] at h;cases h
theorem atI_get{α:Type}{xs:List α}{i:Int}{v:α}(h:atI xs i=some v):∃ j,seqIndex? i xs.length=some j/\xs[j]? = some v/\j<xs.length/\-(xs.length:Int)<=i/\i<xs.length:=by
 unfold atI at h
 cases e:ixN xs.length i with
 | none=>rw[e] at h;cases h
 | some j =>
  rw[e] at h;obtain⟨h1,h2,h3,h4⟩:=jtl e;exact⟨j,h1,h,h2,h3,h4⟩
noncomputable def jnh(b:Expr):Prop:=∀ o i,subscripted b false o i=operate [o,i] (getItem o i)
noncomputable def IxR(X:Cx)(r:R2):Prop :=
 ∀ (value slice:Expr) (pins:List (Addr×Obj)) (s:Shared) (σ:St) (H:Hp) (x y:V) (v u:Value) (Q:VK),Inv X pins σ H s->RelV x v->RelV y u->r x y H Q ->
  subscripted slice false v u=operate [v,u] (getItem v u)->wpAny (model X.prog X.w) X.A (subscriptTail value slice v u) (EP X pins σ Q) X.xe s
noncomputable def MtR(X:Cx)(id:String)(r:V->List V->Hp->VK->Prop):Prop :=
 ∀ (pins:List (Addr×Obj)) (s:Shared) (σ:St) (H:Hp) (x:V) (xs:List V) (v:Value) (us:List Value) (Q:VK),Inv X pins σ H s->RelV x v->Vals xs us->r x xs H Q ->
  wpAny (model X.prog X.w) X.A (call (.builtin id) (v::us)) (EP X pins σ Q) X.xe s
section
variable {X:Cx}{a b:Expr}{ta tb:TE}{pos:Pos}
theorem IxR.or{r r':R2}(h:IxR X r)(h':IxR X r'):IxR X (fun x y H Q=>r x y H Q\/r' x y H Q):=by
 intro value slice pins s σ H x y v u Q I rx ry q hs;rcases q with q|q
 ·exact h value slice pins s σ H x y v u Q I rx ry q hs
 ·exact h' value slice pins s σ H x y v u Q I rx ry q hs
theorem jyx{r:R2}(hr:IxR X r)(ha:PE X a ta)(hb:PE X b tb)(hs:jnh b):PE X (.Subscript a b pos) (tOp r ta tb):=by
 intro pins s σ H Q I h;exact Subscript_ (binT ha hb I h fun v u s2 x y H2 I2 rx ry q=>hr a b pins s2 σ H2 x y v u Q I2 rx ry q (hs _ _))
noncomputable def rIxL(K:W.Frag):R2:=fun x y H Q=>∃ p xs i v,x=.ref p/\y=.int i/\SqL K H p xs/\atI xs i=some v/\Q v H
noncomputable def rIxT(K:W.Frag):R2:=fun x y H Q=>∃ p xs i v,x=.ref p/\y=.int i/\SqT K H p xs/\atI xs i=some v/\Q v H
noncomputable def rIxS:R2:=fun x y H Q=>∃ z i c,x=.str z/\y=.int i/\z.length<=sizeLine/\atI z.cps.toList i=some c/\Q (.str ⟨#[c]⟩) H
theorem ix_list:IxR X (rIxL X.K):=by
 intro value slice pins s σ H x y v u Q I rx ry h hs;obtain⟨p,xs,i,z,rfl,rfl,hq,he,q⟩:=h;cases rx;obtain⟨t,rfl⟩:=ry;obtain⟨its,r,pl,hz⟩:=I.list hq;obtain⟨j,h1,h2,h3,h4,h5⟩:=atI_get he;obtain⟨w,ew,rw'⟩:=r.get h2;have hl:=r.length;have hn:=jit;have fin:EP X pins σ Q w s:=⟨z,H,I,rw',q⟩
 by_cases h0:0<=i
 ·have hj:i.toNat=j:=by
   rw[seqIndex_of h0 h5] at h1;exact zby h1
  exact item_listR pl.isList h0 (by omega) (by rw[hj];simpa using ew) fin hs
 ·have hj:(i+(its.toArray.size:Int)).toNat=j:=by
   rw[seqIndex_neg (by omega) h4] at h1;rw[zbx,<- hl];exact zby h1
  exact subscriptTail_builtinR (x:=w) pl.isList.typeIs slot_list_getitem.lookup
   (wpAny_getItem_list_neg (Q:=fun r s'=>r=w/\EP X pins σ Q r s') pl.isList (by omega) (by rw[zbx]<;>omega) (by omega) (by rw[hj];simpa using ew) ⟨rfl,fin⟩) hs
theorem ix_tup:IxR X (rIxT X.K):=by
 intro value slice pins s σ H x y v u Q I rx ry h hs;obtain⟨p,xs,i,z,rfl,rfl,hq,he,q⟩:=h;cases rx;obtain⟨t,rfl⟩:=ry;obtain⟨its,r,pl,hz⟩:=I.tuple hq;obtain⟨j,h1,h2,h3,h4,h5⟩:=atI_get he;obtain⟨w,ew,rw'⟩:=r.get h2;have hl:=r.length;have hn:=jit;have fin:EP X pins σ Q w s:=⟨z,H,I,rw',q⟩
 exact subscriptTail_builtinR (x:=w) pl.typeIs slot_tuple_getitem.lookup
  (getItem_tuple (j:=j) (Q:=fun r s'=>r=w/\EP X pins σ Q r s') pl (by omega) (by omega) (by rw[zbx,<- hl];exact h1) (by simpa using ew) ⟨rfl,fin⟩) hs
theorem jv5:IxR X rIxS:=by
 intro value slice pins s σ H x y v u Q I rx ry h hs;obtain⟨z,i,c,rfl,rfl,hz,he,q⟩:=h;obtain⟨t,rfl⟩:=rx;obtain⟨t',rfl⟩:=ry;obtain⟨j,h1,h2,h3,h4,h5⟩:=atI_get he;have hl:z.cps.toList.length=z.length:=by simp[Str.length]
 rw[hl] at h1 h4 h5;have hn:=jit;exact tail_any (typeIs_str s z t) slot_str_getitem.lookup (getItem_str (c:=c) (by
  have e1:decide (i < -(2 ^ 63:Int))=false:=decide_eq_false (by omega);have e2:decide (i >= 2 ^ 63)=false:=decide_eq_false (by omega);rw[e1,e2,Bool.or_false]) (by rw[h1];simpa using h2) ⟨.str ⟨#[c]⟩,H,I.tok _,⟨_,rfl⟩,q⟩) hs
noncomputable def rIx(K:W.Frag):R2:=fun x y H Q=>rIxL K x y H Q\/rIxT K x y H Q\/rIxS x y H Q
theorem jan:IxR X (rIx X.K):=ix_list.or (ix_tup.or jv5)
theorem call_len_seq:CallR X (.builtin "len") (fun xs H Q=>∃ p ys,xs=[.ref p]/\(SqL X.K H p ys\/SqT X.K H p ys)/\Q (.int ys.length) H):=by
 intro pins s σ H xs us Q I r h;obtain⟨p,ys,rfl,hq,q⟩:=h;obtain⟨u,rfl,rx⟩:=jkz r;cases rx;have hn:=jit;rcases hq with hq|hq
 ·obtain⟨its,r',pl,hz⟩:=I.list hq;have hlen:=r'.length;exact Calls.call_len_list pl.isList (by simp only[zbx]<;>omega) ⟨.int ys.length,H,I.tok _,⟨s.toks+1,by rw[zbx,hlen]⟩,q⟩
 ·obtain⟨its,r',pl,hz⟩:=I.tuple hq;have hlen:=r'.length;exact len_tuple pl (by simp only[zbx]<;>omega) ⟨.int ys.length,H,I.tok _,⟨s.toks+1,by rw[zbx,hlen]⟩,q⟩
theorem jjx:CallR X (.builtin "len") (fun xs H Q=>∃ z,xs=[.str z]/\z.length<=sizeLine/\Q (.int z.length) H):=by
 intro pins s σ H xs us Q I r h;obtain⟨z,rfl,hz,q⟩:=h;obtain⟨u,rfl,t,rfl⟩:=jkz r;have hn:=jit;exact len_str (by omega) ⟨.int z.length,H,I.tok _,⟨_,rfl⟩,q⟩
theorem CallR.or{f:Value}{r r':List V->Hp->VK->Prop}(h:CallR X f r)(h':CallR X f r'):CallR X f (fun xs H Q=>r xs H Q\/r' xs H Q):=by
 intro pins s σ H xs us Q I rs q;rcases q with q|q
 ·exact h pins s σ H xs us Q I rs q
 ·exact h' pins s σ H xs us Q I rs q
theorem jen:CallR X (.type "list") (fun xs H Q=>∃ p ys,xs=[.ref p]/\(SqL X.K H p ys\/SqT X.K H p ys)/\∀ l,H l=none->Q (.ref l) (upd H l (.lst ys))):=by
 intro pins s σ H xs us Q I r h;obtain⟨p,ys,rfl,hq,q⟩:=h;obtain⟨u,rfl,rx⟩:=jkz r;cases rx;have fin:∀ (its:List Value),Vals ys its->ys.length<=sizeLine->∀ (h':Heap) (c':Nat),(∀ b o',s.heap.get? b=some o'->h'.get? b=some o') ->
   h'.get? s.heap.objs.size=some { cls:=.type "list",dict:=none,data:=.seq its.toArray c',slots:=#[] }->EP X pins σ Q (.ref s.heap.objs.size) { s with heap:=h' }:=fun its r' hz h' c' kp e =>
  ⟨.ref s.heap.objs.size,_,I.laid (t':=s.toks) kp (zac _) (show ObjOk X.prog X.w _ h' _ (.lst ys) from ⟨hz,its,c',r',e⟩),rfl,q _ (I.hok.fresh (zac _))⟩
 rcases hq with hq|hq
 ·obtain⟨its,r',pl,hz⟩:=I.list hq;have hlen:=r'.length;obtain⟨o,ho,hc,n,hd⟩:=pl.isList;exact call_list_seq p (.inl rfl) ho hc hd (fun h' c' kp e=>fin its r' hz h' c' kp e) (by simp only[zbx]<;>omega)
 ·obtain⟨its,r',pl,hz⟩:=I.tuple hq;have hlen:=r'.length;obtain⟨o,ho,hc,n,hd⟩:=pl;exact call_list_seq p (.inr rfl) ho hc hd (fun h' c' kp e=>fin its r' hz h' c' kp e) (by simp only[zbx]<;>omega)
theorem jcb:CallR X (.type "tuple") (fun xs H Q=>∃ p ys,xs=[.ref p]/\((SqL X.K H p ys/\∀ l,H l=none->Q (.ref l) (upd H l (.tup ys)))\/(SqT X.K H p ys/\Q (.ref p) H))):=by
 intro pins s σ H xs us Q I r h;obtain⟨p,ys,rfl,h⟩:=h;obtain⟨u,rfl,rx⟩:=jkz r;cases rx;rcases h with ⟨hq,q⟩|⟨hq,q⟩
 ·obtain⟨its,r',pl,hz⟩:=I.list hq;have hlen:=r'.length;refine call_tuple_list pl.isList (fun h' kp=>?_) (by simp only[zbx]<;>omega);have I1:Inv X pins σ H { s with heap:=h' }:=I.kept (t':=s.toks) kp;have I2:Inv X pins σ (upd H h'.objs.size (.tup ys)) { s with heap:=h'.push { cls:=.type "tuple",data:=.seq its.toArray } } :=
   I1.laid (t':=s.toks) (fun b o e=>zaz _ e) (zac _) (show ObjOk X.prog X.w _ _ _ (.tup ys) from ⟨hz,its,r',IsTup.new _ _⟩)
  exact⟨.ref h'.objs.size,_,I2,rfl,q _ (I1.hok.fresh (zac _))⟩
 ·obtain⟨its,r',pl,hz⟩:=I.tuple hq;exact call_tuple_same pl ⟨.ref p,H,I,rfl,q⟩
noncomputable def tyV(K:W.Frag)(T:String)(x:V)(H:Hp):Prop:=match x with
 | .str _=>T="str"
 | .int _=>T="int"
 | .ref p=>(T="list"/\∃ xs,SqL K H p xs)\/(T="tuple"/\∃ o,K.lookup p=some o/\o.cls=.type "tuple"/\o.dict=none) \/
   (T="dict"/\((∃ kvs,H p=some (.dK kvs))\/∃ kvs,H p=some (.dT kvs)))\/(T="set"/\∃ S n,H p=some (.set S n))
 | _=>False
theorem jxg{pins:List (Addr×Obj)}{σ:St}{H:Hp}{s:Shared}{T:String}{x:V}{v:Value}(I:Inv X pins σ H s)(r:RelV x v)(ty:tyV X.K T x H) :
  s.TypeIs v T/\∀ a,v=.ref a->∃ ob,s.heap.get? a=some ob/\ob.dict=none:=by
 cases x with
 | str z =>
  obtain⟨t,rfl⟩:=r;cases (show T="str" from ty);exact⟨typeIs_str s z t,fun _ e=>nomatch e⟩
 | int i =>
  obtain⟨t,rfl⟩:=r;cases (show T="int" from ty);exact⟨typeIs_int s i t,fun _ e=>nomatch e⟩
 | ref p =>
  cases r;rcases ty with ⟨rfl,xs,hq⟩|⟨rfl,o,hk,hc,hd⟩|⟨rfl,hk⟩|⟨rfl,S,n,hk⟩
  ·obtain⟨its,_,pl,_⟩:=I.list hq;refine⟨pl.isList.typeIs,fun a e=>?_⟩;cases e;obtain⟨o,n,e,c,hd,_⟩:=pl;exact⟨o,e,hd⟩
  ·refine⟨⟨o,I.kIn p o hk,hc⟩,fun a e=>?_⟩;cases e;exact⟨o,I.kIn _ o hk,hd⟩
  ·have z:∃ o,s.heap.get? p=some o/\o.ExactDict:=by
    rcases hk with ⟨kvs,hk⟩|⟨kvs,hk⟩
    ·obtain⟨_,_,_,_,o,_,_,e,ex,_⟩:=I.hok p _ hk;exact⟨o,e,ex⟩
    ·obtain⟨_,_,_,_,o,_,_,e,ex,_⟩:=I.hok p _ hk;exact⟨o,e,ex⟩
   obtain⟨o,e,ex⟩:=z;refine⟨⟨o,e,ex.1⟩,fun a e2=>?_⟩;cases e2;exact⟨o,e,ex.2.1⟩
  ·obtain⟨o,_,_,_,e,ex,_⟩:=I.hok p _ hk;refine⟨⟨o,e,ex.1⟩,fun a e2=>?_⟩;cases e2;exact⟨o,e,ex.2.1⟩
 | _=>exact False.elim ty
noncomputable def tBM(K:W.Frag)(T:String)(r:V->List V->Hp->VK->Prop)(to:TE)(t:TA):TE:=fun σ H Q=>to σ H fun x H1=>tyV K T x H1/\t σ H1 fun xs H2=>r x xs H2 Q
variable {o e:Expr}{es:List Expr}{to:TE}{t:TA}{name:Str}{apos cpos:Pos}{T id:String}{r:V->List V->Hp->VK->Prop}
theorem jyw(pa:PlainAttrs T)(slot:Slot T name id)(hty:typeOf (.builtin id)=pure (.type "method_descriptor"))(hm:MtR X id r)(ho:PE X o to)(ha:PA X (e::es) t)
  (hbase:autoParam (attributeBase o name X.env (eval o X.env)=eval o X.env) zau2._auto_1)
  (hfew:((backTo cpos (starEach (e::es) X.env)).all (fun x=>!x.1)&&(backToKw cpos (keywordEach [] X.env)).all (fun x=>x.1.isSome)
   && decide ((e::es).length+([]:List Keyword).length+(if ([]:List Keyword).isEmpty then 0 else 1)<30))=true:=by rfl)
  (hline:autoParam ((apos.endLine == cpos.line)=true) zau2._auto_1) (hs:autoParam (starEach (e::es) X.env=(false,eval e X.env)::starEach es X.env) zau2._auto_1) (hplain:autoParam ((backTo cpos (starEach es X.env)).any (·.1)=false) zau2._auto_1) :
  PE X (.Call (.Attribute o name apos) (e::es) [] cpos) (tBM X.K T r to t):=by
 intro pins s σ H Q I h;refine wpAny_Call_method_late hbase hfew hline rfl (thn (ho pins s σ H _ I h) fun v s1 hzz=>?_);obtain⟨x,H1,I1,r1,ty,q1⟩:=hzz;obtain⟨h1,h2⟩:=jxg I1 r1 ty;refine⟨T,id,pa,slot,hty,h1,h2,?_⟩;have hA:=ha cpos pins s1 σ H1 _ I1 q1;rw[hs] at hA |-
 refine Calls.callWith_builtin (by show (false || (backTo cpos (starEach es X.env)).any (·.1))=false;rw[hplain]<;>rfl) (Calls.evalArgs_plain ?_);exact thn hA fun us s2 ⟨vs,H2,I2,r2,q2⟩=>hm pins s2 σ H2 x vs v us Q I2 r1 r2 q2
end
noncomputable def MtM(X:Cx)(id:String)(r:V->List V->Hp->VK->Prop):Prop :=
 ∀ (pins:List (Addr×Obj)) (s:Shared) (σ:St) (H:Hp) (x:V) (xs:List V) (v:Value) (us:List Value) (Q:VK),Inv X pins σ H s->RelV x v->Vals xs us->r x xs H Q ->
  wpAny (model X.prog X.w) X.A (call (.builtin id) (v::us)) (EP X pins σ Q) X.xe s
theorem Vals.one:∀ {x:V} {us:List Value},Vals [x] us->∃ u,us=[u]/\RelV x u
 | _,_,.cons r .nil=>⟨_,rfl,r⟩
theorem Vals.two:∀ {x y:V} {us:List Value},Vals [x,y] us->∃ u v,us=[u,v]/\RelV x u/\RelV y v
 | _,_,_,.cons r (.cons q .nil)=>⟨_,_,rfl,r,q⟩
theorem Vals.rep{xs:List V}{us:List Value}(h:Vals xs us):∀ k:Nat,Vals (List.replicate k xs).flatten (List.replicate k us).flatten
 | 0=>.nil
 | k+1=>by
  rw[List.replicate_succ,List.replicate_succ,List.flatten_cons,List.flatten_cons];exact Vals.append h (Vals.rep h k)
theorem jj2(its:List Value):∀ (k:Nat) (acc:List Value),
  List.foldl (fun x1 x2=>x1++x2) acc.toArray (List.replicate k its.toArray)=(acc++(List.replicate k its).flatten).toArray
 | 0,acc=>by simp
 | k+1,acc=>by
  have e:acc.toArray++its.toArray=(acc++its).toArray:=by simp
  have e2:(acc++its)++(List.replicate k its).flatten=acc++(List.replicate (k+1) its).flatten:=by
   rw[List.replicate_succ,List.flatten_cons,List.append_assoc]
  rw[<- e2,<- jj2 its k (acc++its),<- e,List.replicate_succ,List.foldl_cons]
section
variable {X:Cx}{pins:List (Addr×Obj)}{σ:St}{H:Hp}{s:Shared}{l:Addr}{xs ys:List V}
theorem Inv.lset{its its':List Value}{n:Nat}{f:Array Value->Array Value}{t':Nat}(I:Inv X pins σ H s)(hH:H l=some (.lst xs))
  (e:s.heap.get? l=some { cls:=.type "list",data:=.seq its.toArray n }) (hf:f its.toArray=its'.toArray) (hv:Vals ys its') (hz:ys.length<=sizeLine) :
  Inv X pins σ (upd H l (.lst ys)) { s with heap:=s.heap.update l (Obj.mapSeq f),toks:=t' }:=by
 have q:=PySem.IsL.update e f;rw[hf] at q;refine I.write (x:=l) (e:=l) (by rw[hH];exact trivial) (.inl rfl) (fun b' u hb hu=>(Heap.get?_update_other s.heap (Obj.mapSeq f) (Ne.symm hb)).trans hu) ⟨_,q⟩ ?_;exact⟨hz,its',_,hv,q⟩
theorem Inv.lnew{its:List Value}{t':Nat}(I:Inv X pins σ H s)(hv:Vals ys its)(hz:ys.length<=sizeLine) :
  Inv X pins σ (upd H s.heap.objs.size (.lst ys)) { s with heap:=s.heap.push { cls:=.type "list",data:=.seq its.toArray },toks:=t' } :=
 I.laid (fun _ _ q=>zaz _ q) (zac _) ⟨hz,its,0,hv,zbz _ rfl⟩
theorem Inv.fresh(I:Inv X pins σ H s):H s.heap.objs.size=none:=I.hok.fresh (zac _)
theorem Inv.lstM(I:Inv X pins σ H s)(hH:H l=some (.lst xs)):xs.length<=sizeLine/\∃ (its:List Value) (n:Nat),Vals xs its/\xs.length=its.length/\s.heap.get? l=some { cls:=.type "list",data:=.seq its.toArray n }:=by
 obtain⟨z,its,n,r,e⟩:=I.hok l _ hH;exact⟨z,its,n,r,r.length,e⟩
end
section
variable {X:Cx}
noncomputable def jum:V->List V->Hp->VK->Prop:=fun x vs H Q=>∃ l xs y,x=.ref l/\vs=[y]/\H l=some (.lst xs)/\xs.length<sizeLine/\Q .non (upd H l (.lst (xs++[y])))
theorem jhu:MtM X "list.append" jum:=by
 intro pins s σ H x vs v us Q I rx rv h;obtain⟨l,xs,y,rfl,rfl,hH,hz,q⟩:=h;cases rx;obtain⟨u,rfl,ru⟩:=rv.one;obtain⟨z,its,n,r,hl,e⟩:=I.lstM hH;refine call_meets F.slot_list_append ⟨_,e,rfl⟩ F.entry_list_append (F.args_list_append_2 _ _) (PySem.list_append l its.toArray n u (by rw[zbx];omega)) ⟨e,?_⟩;refine⟨.non,_,I.lset (its':=its++[u]) hH e (by simp) (r.append (.cons ru .nil)) ?_,rfl,q⟩;rw[zca,List.length_singleton];omega
theorem jtp{α:Type}(xs:List α)(k:Nat):(List.replicate k xs).flatten.length=k*xs.length:=by
 induction k with
 | zero=>simp
 | succ k ih=>rw[List.replicate_succ,List.flatten_cons,zca,ih,Nat.succ_mul,Nat.add_comm]
end
section
end
section
end
end L2
namespace Att
open PySem PySem.W PySem.Calls PyProof.Rows
theorem jhp{P:Params}{h:Heap}:∀ (ns:List Int) (vs:List Value),WellAll P h vs (ns.map WData.int)->IntsAre vs ns:=by
 intro ns
 induction ns with
 | nil =>
  intro vs w;rw[List.map_nil] at w;cases w;exact .nil
 | cons n ns ih =>
  intro vs w;rw[List.map_cons] at w
  cases w with
  | cons a b =>
   cases a;exact .cons _ _ (ih _ b)
theorem jpp{l:OpenLaw}{n:Nat}(hn:l.most=some n){P:Params}{h:Heap}{args:List WData}{vals:List Value}
  (hpre:l.row.toRowW.claim.pre args=true) (hwl:WellAll P h vals args) :
  ∃ a vs ns,vals=[Value.ref a]/\args=[WData.list (ns.map WData.int)]/\h.get? a=some { cls:=.type "list",data:=.seq vs.toArray }/\IntsAre vs ns/\ns.length<=n:=by
 have hsh:WShape.hasAll [] args [.list .int]=true:=(pre_splitW hpre).1;have hc:l.pre.holds [] { args:=args }=true:=(pre_splitW hpre).2;obtain⟨d,r,rfl,h1,h2⟩:=hasAllW_cons hsh;obtain rfl:=hasAllW_nil h2;obtain⟨xs,rfl,h3⟩:=hasW_list h1;obtain⟨ns,rfl⟩:=items_int h3;have hlen:ns.length<=n:=by
  unfold OpenLaw.pre at hc;have h4:(WTm.not (.lt (.lit (.int (n:Int))) (.len (.arg 0)))).holds [] { args:=[.list (ns.map .int)] }=true:=by
   have h4:=(holds_andW hc).1;rw[hn] at h4;exact h4
  have h5:=condW_of h4 (w_not (w_lt w_lit (w_len_list (w_arg rfl))));rw[zav] at h5;refine Nat.le_of_not_lt fun q=>?_
  have q':(n:Int)<((ns.length:Nat):Int):=by omega
  first
   | (rw[decide_eq_true q'] at h5;exact absurd h5 (by decide))
   | (simp at h5;omega)
 cases hwl with
 | cons w1 w2 =>
  cases w2
  cases w1 with
  | list ho hall=>exact⟨_,_,ns,rfl,rfl,ho,jhp ns _ hall,hlen⟩
theorem jo9(l:OpenLaw)(args:List WData):l.row.toRowW.claim.post args (.bool true) args=true :=
 postW_of (r:=l.row.toRowW) (X:=(true == true))
  (show WShape.has [] (.bool true) .bool=true by first|rfl|decide|simp[WShape.has,WShape.arms,WShape.armsAll])
  (show (WTm.eq .res (.lit (.bool true))).value [] { args:=args,res:=some (.bool true),after:=args }=some (.bool (true == true)) from w_eq_bool (w_res rfl) w_lit) rfl
theorem attach_call{l:OpenLaw}{n:Nat}{q:Program}{loose:List Str}{XP:(Str->Option Value)->Heap->Prop}{YP:World->Heap->Prop}{d:DefRec}
  (hn:l.most=some n) (hdf:d.params.defaults=[])
  (call:∀ (w:World) (s₀ s₁:Shared) (mg mb:Str->Option Value) (fa:Addr) (o:Obj) (pm cd doc:Value) (a:Addr) (vs:List Value) (ns:List Int),
   Ground q loose [] XP w s₀ mg mb s₁.heap->YP w s₁.heap ->
   s₁.heap.get? fa=some o->o.data=.func (docDef d.name d.params d.body d.scope pm cd doc)->s₁.heap.CodeRec cd d.name->mg d.name=some (.ref fa) ->
   s₁.heap.get? a=some { cls:=.type "list",data:=.seq vs.toArray }->IntsAre vs ns->ns.length<=n->s₁.gens=#[] ->
   codeAny (model l.prog w) callerA (.call (.ref fa) ⟨[.ref a],[]⟩) (fun r s'=>r=.ok (.ret (.bool true))/\OldK s₁.heap s'.heap/\s'.os=s₁.os/\AllBare s'.gens) s₁) :
  WalkO q loose XP YP l.row.toRowW d [] (fun f vs=>PySem.call f vs):=by
 intro w s₀ s₁ mg mb G Y fa o pm cd doc dV kV ho hd hcd hD hmg hg args vals as hpre hlay hrd hwl hlo;obtain rfl:dV=.none:=Dflts.none hD hdf;obtain rfl:kV=.none:=Dflts.noKw hD;obtain⟨a,vs,ns,rfl,rfl,hobj,hints,hlen⟩:=jpp hn hpre hwl;refine enter_call (codeAny_mono (call w s₀ s₁ mg mb fa o pm cd doc a vs ns G Y ho (fd_plain hd) hcd hmg hobj hints hlen hg) fun r s' hq=>?_);obtain⟨rfl,h2,h3,h4⟩:=hq;exact⟨.inl ⟨.bool true,.bool true,[],rfl,fun _=>rfl,.bool true,jo9 l _,fun _=>⟨List.Pairwise.nil,fun _ hm=>(nomatch hm)⟩⟩,h2,h3,h4⟩
section
end
end Att
namespace L2
open PySem PySem.Spec PyProof.Rows
theorem jk0:∀ {vs:List Value} {ns:List Int},IntsAre vs ns->Vals (ns.map V.int) vs
 | _,_,.nil=>.nil
 | _,_,.cons n t h=>.cons ⟨t,rfl⟩ (jk0 h)
noncomputable def Only(H:Hp):Prop:=∀ b,H b=none\/∃ o xs,H b=some (.frz o (.lst xs))
theorem jqt{P:Program}{w:World}{K:W.Frag}{mg mb:Str->Option Value}{CX:CXT}{k:Nat}{fa a:Addr}{fd:FuncData}{x:Str}{sp:Sp}{s₁:Shared}{vs:List Value}{ns:List Int}
  (KX:K.In s₁.heap) (hns:s₁.heap.Ns mainGlobals mg) (hb:s₁.heap.Ns builtinsNs mb) (hbb:∀ x:Str,x≠"__name__"->mb x=bootBuiltins x) (hlim:s₁.heap.NoLimit) (hg:s₁.gens=#[])
  (ha:s₁.heap.get? a=some { cls:=.type "list",data:=.seq vs.toArray }) (hi:IntsAre vs ns) (hl:ns.length<=sizeLine) (hr:Room k callerA)
  (F:∀ base:Heap,K.In base->base.Ns mainGlobals mg->FnOk P w K mg base CX k fa fd [x] sp) (hbind:∀ (s:Shared) (u:Value),BindsTo s fd ⟨[u],[]⟩ [(x,u)])
  (hsp:∀ H:Hp,Only H->SqL K H a (ns.map V.int)->sp [.ref a] H (fun v _=>v=.bl true) fun _ _ _=>False)
  (hCX:∀ H e s',CX [] H s₁ (fun _ _ _=>False) e s'->False) :
  codeAny (model P w) callerA (.call (.ref fa) ⟨[.ref a],[]⟩) (fun r s'=>r=.ok (.ret (.bool true))/\OldK s₁.heap s'.heap/\s'.os=s₁.os/\AllBare s'.gens) s₁:=by
 have rv:=jk0 hi;have lenV:=hi.length;have core:∀ H:Hp,Only H->SqL K H a (ns.map V.int)->HOk P w H s₁.heap->(∀ b,H b≠none->b=a)->(H a≠none->K.lookup a=none) ->
   codeAny (model P w) callerA (.call (.ref fa) ⟨[.ref a],[]⟩) (fun r s'=>r=.ok (.ret (.bool true))/\OldK s₁.heap s'.heap/\s'.os=s₁.os/\AllBare s'.gens) s₁:=by
  intro H hO hS hok hA hK;have base_of:∀ {b:Addr} {o:Obj},s₁.heap.get? b=some o->H b=none->(hidT s₁.heap H).get? b=some o:=fun e n=>jqm e n
  have noA:∀ {b:Addr} {o:Obj} {es:Array DictEntry} {ep:Nat},s₁.heap.get? b=some o->o.data=.dict es ep->H b=none:=fun {b o es ep} e d=>by
   cases q:H b with
   | none=>rfl
   | some u =>
    have e':b=a:=hA b (by rw[q];simp);subst e';rw[ha] at e;cases e
    have d':Data.seq vs.toArray _=Data.dict es ep:=d;cases d'
  have nsK:∀ {b:Addr} {m:Str->Option Value},s₁.heap.Ns b m->(hidT s₁.heap H).Ns b m:=fun {b m} ⟨o,es,ep,e,d,r⟩=>⟨o,es,ep,base_of e (noA e d),d,r⟩
  have hKb:K.In (hidT s₁.heap H):=fun b o e=>base_of (KX b o e) (by
   cases q:H b with
   | none=>rfl
   | some u =>
    have e':b=a:=hA b (by rw[q];simp);subst e';rw[hK (by rw[q];simp)] at e;cases e)
  have hM:Mod K mg (hidT s₁.heap H):=⟨hKb,nsK hns,⟨mb,nsK hb,hbb⟩,let ⟨mc,h1,h2⟩:=hlim;⟨mc,nsK h1,h2⟩⟩
  have e0:Env0 P w K mg (hidT s₁.heap H) callerA [] s₁ H:=⟨rfl,hM,fun b o e=>jt4 e,Nat.le_of_eq (jn8 _ _),trivial,fun b hb=>absurd (show b∈([]:List Addr) from hb) (by simp),hok,.of_eq hg⟩
  refine codeAny_mono ((F _ hKb (nsK hns)).run callerA [] s₁ H ⟨[.ref a],[]⟩ [.ref a] [.ref a] _ _ hr e0 (hbind s₁ (.ref a)) (.cons rfl .nil) (hsp H hO hS)) fun r s' h=>?_
  cases r with
  | error e=>exact (hCX H e s' h).elim
  | ok fl =>
   cases fl with
   | next=>exact False.elim h
   | brk=>exact False.elim h
   | cont=>exact False.elim h
   | ret u =>
    obtain⟨v,H',os,bare,un,hok',r',q⟩:=h;have q':v=.bl true:=q;subst q';obtain rfl:u=Value.bool true:=r';refine⟨rfl,OldK.of_keep fun b o e=>?_,os,bare⟩
    cases q:H b with
    | none=>exact un.keep b o e q (by intro z;exact absurd (show b∈([]:List Addr) from z) (by simp)) (by simp)
    | some u =>
     rcases hO b with z|⟨ob,xs,z⟩
     ·rw[q] at z;cases z
     ·have z2:=un.frzs b ob _ z;obtain⟨e1,_⟩:=hok b _ z;obtain⟨e2,_⟩:=hok' b _ z2;rw[e] at e1;cases e1
      exact e2
 cases hk:K.lookup a with
 | some o =>
  have e:=KX a o hk;rw[ha] at e;cases e;refine core (fun _=>none) (fun _=>.inl rfl) (.inr ⟨_,vs.toArray,_,hk,rfl,rfl,rfl,by rw[zbx,lenV];exact hl,by simpa using rv⟩) (fun b u z=>by have z':(none:Option HO)=some u:=z;cases z') (fun b z=>absurd rfl z) fun z=>absurd rfl z
 | none =>
  refine core (fun b=>if b=a then some (.frz { cls:=.type "list",data:=.seq vs.toArray } (.lst (ns.map V.int))) else none) (fun b=>?_) (.inl (.inr ⟨{ cls:=.type "list",data:=.seq vs.toArray },if_pos rfl⟩)) (fun b u z=>?_) (fun b z=>?_) fun _=>hk
  ·by_cases hb:b=a
   ·exact .inr ⟨_,_,if_pos hb⟩
   ·exact .inl (if_neg hb)
  ·by_cases hb:b=a
   ·have z':=(if_pos hb).symm.trans z;cases z';subst hb;exact⟨ha,by rw[zav];exact hl,vs,_,rv,ha⟩
   ·have z':=(if_neg hb).symm.trans z;cases z'
  ·by_cases hb:b=a
   ·exact hb
   ·exact absurd (if_neg hb) z
theorem walk_of{l:W.OpenLaw}{n k:Nat}{q:Program}{loose:List Str}{XP:(Str->Option Value)->Heap->Prop}{YP:World->Heap->Prop}{d:DefRec}{K:Params->W.Frag}{CX:World->CXT}{sp:World->Sp}{x:Str}
  (hn:l.most=some n) (hn2:n<=sizeLine) (hdf:d.params.defaults=[]) (hr:Room k callerA)
  (hY:∀ (w:World) (h:Heap),YP w h->(K w.params).In h)
  (F:∀ (w:World) (mg:Str->Option Value) (fa:Addr) (h:Heap),(K w.params).In h->h.Ns mainGlobals mg->mg d.name=some (.ref fa) ->
   ∃ fd:FuncData,(∀ (s:Shared) (u:Value),BindsTo s fd ⟨[u],[]⟩ [(x,u)]) /\
    ∀ base:Heap,(K w.params).In base->base.Ns mainGlobals mg->FnOk l.prog w (K w.params) mg base (CX w) k fa fd [x] (sp w))
  (hsp:∀ (w:World) (H:Hp) (a:Addr) (ns:List Int),ns.length<=n->Only H->SqL (K w.params) H a (ns.map V.int)->sp w [.ref a] H (fun v _=>v=.bl true) fun _ _ _=>False)
  (hCX:∀ (w:World) (H:Hp) (s:Shared) (e:Value) (s':Shared),CX w [] H s (fun _ _ _=>False) e s'->False) :
  W.WalkO q loose XP YP l.row.toRowW d [] (fun f vs=>PySem.call f vs):=by
 refine Att.attach_call hn hdf fun w s₀ s₁ mg mb fa o pm cd doc a vs ns G Y ho hd hcd hmg hobj hints hlen hg=>?_
 have KX:=hY w _ Y;obtain⟨fd,hb,hF⟩:=F w mg fa _ KX G.T.g hmg;exact jqt KX G.T.g G.T.b G.T.builtins G.T.nolimit hg hobj hints (Nat.le_trans hlen hn2) hr hF hb (fun H hO hS=>hsp w H a ns hlen hO hS) fun H e s'=>hCX w H s₁ e s'
noncomputable def jap(s:Stmt):Arguments:=match s with
 | .FunctionDef _ a _ _ _ _ _ _ _ _=>a
 | _=>{ posonlyargs:=[],args:=[],vararg:=none,kwonlyargs:=[],kw_defaults:=[],kwarg:=none,defaults:=[] }
noncomputable def jai(s:Stmt):List Stmt:=match s with
 | .FunctionDef _ _ b _ _ _ _ _ _ _=>b
 | _=>[]
noncomputable def jac(s:Stmt):Scope:=match s with
 | .FunctionDef _ _ _ _ _ _ sc _ _ _=>sc
 | _=>{ kind:=.function,names:=[],isGenerator:=false,isCoroutine:=false }
noncomputable abbrev CX0:CXT:=fun _ _ _ _ _ _=>False
noncomputable abbrev E0:XK:=fun _ _ _=>False
structure Fun(K:W.Frag)(x qual:Str)(st:Stmt)(f:Addr)(fd:FuncData):Prop where
 ex:∃ (oc:Value) (od:Option Addr) (kV doc pm:Value) (an:Option Addr) (cdv ct:Value) (osl:Array (Option Value)),
  fd=W.fnOf x qual (jap st) (jai st) (jac st) .none kV doc pm an cdv ct/\K.lookup f=some ⟨oc,od,.func fd,osl⟩/\W.codeIn K cdv qual=true
 kp:W.keepIn K (.ref f)=true
section
variable {P:Program}{w:World}{K:W.Frag}{mg:Str->Option Value}{base:Heap}
theorem Fun.ok{x qual:Str}{st:Stmt}{f:Addr}{fd:FuncData}{N ps:List Str}{k:Nat}{sp:Sp}(F:Fun K x qual st f fd)(S:FnScope N ps (jac st))(len:∀ vs H Q E,sp vs H Q E->vs.length=ps.length)
  (hbody:∀ (cdv:Value) (A:Around) (outer:List Env) (s:Shared) (H:Hp) (vs:List V) (Q:VK) (E:XK),Room k (A.deeper (envOfC qual (jac st) s.heap.objs.size f cdv))->sp vs H Q E ->
   ∃ t,PSs (cxOf CX0 P w K mg base N qual (jac st) f cdv A outer s H E).nox (jai st) t/\t { nx:=fun _ H'=>Q .non H',rt:=Q } (start N vs) H):FnOk P w K mg base CX0 (k+1) f fd ps sp:=by
 obtain⟨oc,od,kV,doc,pm,an,cdv,ct,osl,rfl,lk,hcd⟩:=F.ex;refine jvv lk hcd S len fun A outer s H vs Q E hr hsp=>?_
 obtain⟨t,h,q⟩:=hbody cdv A outer s H vs Q E hr hsp;exact⟨t,h.nox,q⟩
theorem Fun.binds{x qual:Str}{st:Stmt}{f:Addr}{fd:FuncData}{ps:List Str}(F:Fun K x qual st f fd)
  (h:∀ (kV doc pm:Value) (an:Option Addr) (cdv ct:Value) (us:List Value),us.length=ps.length->bindArgs (W.fnOf x qual (jap st) (jai st) (jac st) .none kV doc pm an cdv ct) ⟨us,[]⟩=pure (ps.zip us)):Binds K fd ps []:=by
 obtain⟨oc,od,kV,doc,pm,an,cdv,ct,osl,rfl,lk,hcd⟩:=F.ex;exact .all (h kV doc pm an cdv ct)
theorem jrv{x qual:Str}{st:Stmt}{f:Addr}{oc:Value}{od an:Option Addr}{osl:Array (Option Value)}{kV doc pm cdv ct:Value}(l:K.lookup f=some ⟨oc,od,.func (W.fnOf x qual (jap st) (jai st) (jac st) .none kV doc pm an cdv ct),osl⟩)
  (c:W.codeIn K cdv qual=true) (k:W.keepIn K (.ref f)=true):Fun K x qual st f (W.fnOf x qual (jap st) (jai st) (jac st) .none kV doc pm an cdv ct):=⟨⟨oc,od,kV,doc,pm,an,cdv,ct,osl,rfl,l,c⟩,k⟩
end
section
end
theorem iteF{A B:Prop}(h:B):if false=true then A else B:=by
 rw[if_neg Bool.false_ne_true];exact h
theorem iteT{A B:Prop}(h:A):if true=true then A else B:=by
 rw[if_pos rfl];exact h
noncomputable def Same(H H':Hp):Prop:=∀ b o,H b=some o->H' b=some o
theorem Same.refl(H:Hp):Same H H:=fun _ _ h=>h
theorem Same.trans{H H1 H2:Hp}(a:Same H H1)(b:Same H1 H2):Same H H2:=fun c o h=>b c o (a c o h)
end L2
set_option maxHeartbeats 4000000
namespace L2
open PySem PySem.Spec PyProof.Rows
theorem ffk:(NameKind.free == NameKind.free)=true:=by decide
noncomputable def clOf(cells:List (Str×Addr)):List (Str×NameKind)->List (Str×Addr)->List (Str×Addr)
 | [],acc=>acc
 | (n,k)::r,acc=>clOf cells r (if k == .free then (n,(cells.lookup n).getD 0)::acc else acc)
theorem jnx{env:Env}:∀ (ns:List (Str×NameKind)) (acc:List (Str×Addr)),(∀ p∈ns,p.2=.free->∃ c,env.cells.lookup p.1=some c) ->
  (forIn ns acc fun p cs=>(if p.2 == NameKind.free then (do let a <- cellOf env p.1;pure (ForInStep.yield ((p.1,a)::cs))) else pure (ForInStep.yield cs):Sem (ForInStep (List (Str×Addr)))))=pure (clOf env.cells ns acc)
 | [],acc,_=>by rw[List.forIn_nil];rfl
 | (n,k)::r,acc,h=>by
  rw[List.forIn_cons]
  by_cases hk:k=.free
  ·subst hk;obtain⟨c,hc⟩:=h (n,.free) zaa rfl;have e1:cellOf env n=pure c:=by unfold cellOf;rw[hc]
   show (do let a <- cellOf env n;pure (ForInStep.yield ((n,a)::acc)):Sem _) >>= _=_;rw[e1];show (forIn r ((n,c)::acc) _:Sem _)=_;rw[jnx r _ fun p hp=>h p (zaw _ hp)];show _=pure (clOf env.cells r (if NameKind.free == NameKind.free then _ else _));have hc':env.cells.lookup n=some c:=hc;rw[if_pos ffk,hc'];rfl
  ·have e2:(k == NameKind.free)=false:=by simpa using hk
   show (if (k == NameKind.free)=true then _ else _:Sem _) >>= _=_;rw[if_neg (by rw[e2];decide)];show (forIn r acc _:Sem _)=_;rw[jnx r _ fun p hp=>h p (zaw _ hp)];show _=pure (clOf env.cells r (if (k == NameKind.free)=true then _ else _));rw[if_neg (by rw[e2];decide)]
theorem jim{scope:Scope}{env:Env}(h:∀ p∈scope.names,p.2=.free->∃ c,env.cells.lookup p.1=some c):closureFor scope env=pure (clOf env.cells scope.names []):=by
 unfold closureFor;have e:=jnx (env:=env) scope.names [] h;show (forIn scope.names ([]:List (Str×Addr)) _ >>= fun r=>pure r:Sem _)=_;have e':(forIn scope.names ([]:List (Str×Addr)) fun (p:Str×NameKind) (cs:List (Str×Addr))=>(if p.2 == NameKind.free then (do let a <- cellOf env p.1;pure (ForInStep.yield ((p.1,a)::cs))) else pure (ForInStep.yield cs):Sem (ForInStep (List (Str×Addr))))) >>= (fun r=>(pure r:Sem _))=pure (clOf env.cells scope.names []):=by rw[e];rfl
 exact e'
theorem jl8{cells:List (Str×Addr)}{x:Str}{c:Addr}:∀ (ns:List (Str×NameKind)) (acc:List (Str×Addr)),(clOf cells ns acc).lookup x=some c->acc.lookup x=some c\/((x,NameKind.free)∈ns/\c=(cells.lookup x).getD 0)
 | [],acc,h=>.inl h
 | (n,k)::r,acc,h=>by
  rcases jl8 r _ h with e|⟨e1,e2⟩
  ·by_cases hk:k=.free
   ·subst hk;rw[if_pos ffk,List.lookup_cons] at e
    cases hx:x == n with
    | true =>
     rw[hx] at e;have:x=n:=by simpa using hx
     subst this;exact .inr ⟨zaa,(zby e).symm⟩
    | false=>rw[hx] at e;exact .inl e
   ·rw[if_neg (by simpa using hk)] at e;exact .inl e
  ·exact .inr ⟨zaw _ e1,e2⟩
theorem jl7{cells:List (Str×Addr)}{x:Str}:∀ (ns:List (Str×NameKind)) (acc:List (Str×Addr)),acc.lookup x=some ((cells.lookup x).getD 0)->(clOf cells ns acc).lookup x=some ((cells.lookup x).getD 0)
 | [],acc,h=>h
 | (n,k)::r,acc,h=>by
  refine jl7 r _ ?_
  by_cases hk:k=.free
  ·subst hk;rw[if_pos ffk,List.lookup_cons]
   cases hx:x == n with
   | true =>
    have:x=n:=by simpa using hx
    subst this;rfl
   | false=>exact h
  ·rw[if_neg (by simpa using hk)];exact h
theorem ji7{cells:List (Str×Addr)}{x:Str}:∀ (ns:List (Str×NameKind)) (acc:List (Str×Addr)),(x,NameKind.free)∈ns->(clOf cells ns acc).lookup x=some ((cells.lookup x).getD 0)
 | [],acc,h=>by cases h
 | (n,k)::r,acc,h=>by
  rcases List.mem_cons.mp h with e|e
  ·cases e;refine jl7 r _ ?_;rw[if_pos ffk,List.lookup_cons];simp
  ·exact ji7 r _ e
noncomputable def jba(X:Cx)(scope:Scope)(N:List Str)(C:Addr)(s0:Shared)(H0:Hp)(ex:List Addr):Cx where
 prog:=X.prog
 w:=X.w
 K:=X.K
 mg:=X.mg
 base:=X.base
 A:=X.A
 N:=N
 s₀:=s0
 Hz:=H0
 env:=compEnvC scope (clOf X.env.cells scope.names []) C X.env
 outer:=X.stack
 stack:=X.stack
 ex:=ex
 fn:=fun _=>false
 calm:=X.calm
 pn:=[]
 xe:=fun _ _=>False
noncomputable def jrq(N:List Str)(out:List (Str×NameKind))(inn:List (Str×NameKind))(caps:List (Str×Nat)):Bool :=
 inn.all (fun p=>p.2 != .cell)&&inn.all (fun p=>p.2 != .local || inn.lookup p.1 == some .local) &&
 inn.all (fun p=>p.2 != .free || (out.lookup p.1 == some .cell || out.lookup p.1 == some .free)) &&
 caps.all (fun p=>N[p.2]? == some p.1&&inn.lookup p.1 == some .free)
structure CapsOk(X:Cx)(scope:Scope)(caps:List (Str×Nat)):Prop where
 kind:scope.kind=.function
 nocell:∀ x∈scope.names,x.2≠.cell
 loc:∀ x∈scope.names,x.2=.local->scope.names.lookup x.1=some .local
 fre:∀ p∈scope.names,p.2=.free->X.env.kindOf p.1=some .cell\/X.env.kindOf p.1=some .free
 cap:∀ p∈caps,X.N[p.2]? = some p.1/\scope.names.lookup p.1=some .free
theorem jcf{X:Cx}{scope osc:Scope}{N:List Str}{caps:List (Str×Nat)}(hN:X.N=N)(ho:X.env.scope=osc)(hk:scope.kind=.function)(h:jrq N osc.names scope.names caps=true):CapsOk X scope caps:=by
 unfold jrq at h;simp only[Bool.and_eq_true,List.all_eq_true] at h;obtain⟨⟨⟨h1,h2⟩,h3⟩,h4⟩:=h;refine⟨hk,fun x hx=>by simpa using h1 x hx,fun x hx hl=>?_,fun p hp hf=>?_,fun p hp=>?_⟩
 ·have:=h2 x hx;rw[hl] at this;simpa using this
 ·have:=h3 p hp;rw[hf] at this;show X.env.scope.names.lookup p.1=_\/X.env.scope.names.lookup p.1=_;rw[ho];simpa using this
 ·have:=h4 p hp;rw[hN];simpa using this
noncomputable def jcz(own:Nat)(caps:List (Str×Nat))(σ:St):St:=List.replicate own none++caps.map fun p=>(σ[p.2]?).join
noncomputable def jrd(own:Nat)(caps:List (Str×Nat))(wi:TI)(g:TG)(tc:TT)(te:TE):TE:=fun σ H Q=>wi σ H fun J H1=>∀ D,H1 D=none ->
 ∃ W:Nat->Nat->St->Hp->Prop,(∃ m,W 0 m (jcz own caps σ) (upd H1 D (.lst [])))/\∀ i m σ' H',W i m σ' H' ->
  (J.stop i H'/\Q (.ref D) H')\/(J.go i H'/\∃ N:St->Hp->Prop,(∀ σ2 H2,N σ2 H2->∃ m',m'<m/\W (i+1) m' σ2 H2) /\
   ∀ x H2,J.yld i H' x H2->g x σ' H2 fun σ3 H3=>tc σ3 H3 fun b H4=>if b=true then te σ3 H4 fun v H5=>∃ ys,H5 D=some (.lst ys)/\ys.length<sizeLine/\N σ3 (upd H5 D (.lst (ys++[v]))) else N σ3 H4)
theorem je1{scope:Scope}{env:Env}{x:Str}{k:NameKind}:∀ {ns:List (Str×NameKind)},(ns.map fun (n,k)=>if (k == NameKind.free&&env.scope.kind == .function&&env.kindOf n == some .cell) then (n,NameKind.cell) else (n,k)).lookup x=some k ->
  ∃ k',ns.lookup x=some k'/\(k=k'\/(k'=.free/\k=.cell))
 | [],h=>by simp at h
 | (n,k0)::r,h=>by
  rw[List.map_cons] at h
  by_cases hc:(k0 == NameKind.free&&env.scope.kind == .function&&env.kindOf n == some .cell)=true
  ·simp only[if_pos hc,List.lookup_cons] at h
   cases hx:x == n with
   | true =>
    rw[hx] at h;refine⟨k0,by simp[List.lookup_cons,hx],.inr ⟨?_,(zby h).symm⟩⟩;simp only[Bool.and_eq_true] at hc;simpa using hc.1.1
   | false =>
    rw[hx] at h;obtain⟨k',e,q⟩:=je1 (scope:=scope) h;exact⟨k',by simp only[List.lookup_cons,hx];exact e,q⟩
  ·simp only[if_neg hc,List.lookup_cons] at h
   cases hx:x == n with
   | true =>
    rw[hx] at h;exact⟨k0,by simp[List.lookup_cons,hx],.inl (zby h).symm⟩
   | false =>
    rw[hx] at h;obtain⟨k',e,q⟩:=je1 (scope:=scope) h;exact⟨k',by simp only[List.lookup_cons,hx];exact e,q⟩
theorem je0{env:Env}{x:Str}:∀ {ns:List (Str×NameKind)},ns.lookup x=some .free ->
  (ns.map fun (n,k)=>if (k == NameKind.free&&env.scope.kind == .function&&env.kindOf n == some .cell) then (n,NameKind.cell) else (n,k)).lookup x=some .cell \/
  (ns.map fun (n,k)=>if (k == NameKind.free&&env.scope.kind == .function&&env.kindOf n == some .cell) then (n,NameKind.cell) else (n,k)).lookup x=some .free
 | [],h=>by simp at h
 | (n,k0)::r,h=>by
  rw[List.map_cons];simp only[List.lookup_cons] at h
  by_cases hc:(k0 == NameKind.free&&env.scope.kind == .function&&env.kindOf n == some .cell)=true
  ·simp only[if_pos hc,List.lookup_cons]
   cases hx:x == n with
   | true=>exact .inl rfl
   | false=>rw[hx] at h;exact je0 h
  ·simp only[if_neg hc,List.lookup_cons]
   cases hx:x == n with
   | true=>rw[hx] at h;exact .inr h
   | false=>rw[hx] at h;exact je0 h
theorem joa{own:Nat}{caps:List (Str×Nat)}{σ:St}{i:Nat}{v:V}(h:(jcz own caps σ)[i]? = some (some v)):∃ p,caps[i-own]? = some p/\own<=i/\σ[p.2]? = some (some v):=by
 unfold jcz at h
 by_cases hi:i<own
 ·rw[List.getElem?_append_left (by simpa using hi),List.getElem?_replicate,if_pos hi] at h;cases h
 ·rw[List.getElem?_append_right (by simpa using hi),List.length_replicate,zba] at h
  cases e:caps[i-own]? with
  | none=>rw[e] at h;cases h
  | some p =>
   rw[e] at h;refine⟨p,rfl,by omega,?_⟩;have h':(σ[p.2]?).join=some v:=zby h
   cases q:σ[p.2]? with
   | none=>rw[q] at h';cases h'
   | some o=>rw[q] at h';exact congrArg some h'
section
variable {X:Cx}{pins:List (Addr×Obj)}{σ:St}{H:Hp}{s:Shared}
theorem jmd{scope:Scope}{own:List Str}{caps:List (Str×Nat)}{h':Heap}{t':Nat}{fp:List Addr}(I:Inv X pins σ H s)(ck:CapsOk X scope caps)
  (hf:∀ b∈fp,FpOk X pins H b) (hb:∀ b∈fp,b<s.heap.objs.size) (ns:h'.Ns s.heap.objs.size fun x=>([]:List (Str×Value)).reverse.lookup x)
  (sb:Heap.SameBut s.heap.objs.size (s.heap.push { cls:=.type "dict",data:=.dict #[] }) h') :
  Inv (jba X scope (own++caps.map (·.1)) s.heap.objs.size s H fp) [] (jcz own.length caps σ) H { s with heap:=h',toks:=t' }:=by
 have up:∀ b o,s.heap.get? b=some o->h'.get? b=some o:=fun b o e=>sb.extBut b o (zcv (zbv e)) (zaz _ e)
 have stk:∀ b∈fp,b∉frs X.stack:=fun b hb' z=>by
  obtain⟨_,f1,f2,_⟩:=hf b hb';rcases List.mem_cons.mp (I.stkSub b z) with q|q
  ·exact f1 q
  ·exact f2 q
 have clc:∀ x c,(clOf X.env.cells scope.names []).lookup x=some c->X.env.cells.lookup x=some c:=fun x c h=>by
  rcases jl8 _ _ h with e|⟨e1,e2⟩
  ·cases e
  ·obtain⟨c',hc'⟩:=I.ok.has x (ck.fre _ e1 rfl);rw[hc'] at e2 |-
   exact congrArg some e2.symm
 have cell:∀ x c,(clOf X.env.cells scope.names []).lookup x=some c->∃ v,s.heap.IsCell c v:=fun x c h=>I.cell x c (clc x c h)
 have okk:(jba X scope (own++caps.map (·.1)) s.heap.objs.size s H fp).Ok:=by
  refine⟨I.ok.mod,ck.kind,I.ok.glob,I.ok.blt,zac _,fun x y c h1 h2=>I.ok.inj x y c (clc x c h1) (clc y c h2),fun x hx=>?_,fun x c hfn=>?_,I.ok.hd,I.ok.frames,.inl rfl,fun b z=>⟨?_,fun x c h=>?_⟩,I.bs,
   Nat.le_trans I.ok.bsz I.sz,fun b o e z=>?_,stk,I.stack,I.stkFree⟩
  ·have hx':∃ k,(scope.names.map fun (n,k)=>if (k == NameKind.free&&X.env.scope.kind == .function&&X.env.kindOf n == some .cell) then (n,NameKind.cell) else (n,k)).lookup x=some k/\(k=.cell\/k=.free):=by
    rcases hx with q|q
    ·exact⟨_,q,.inl rfl⟩
    ·exact⟨_,q,.inr rfl⟩
   obtain⟨k,q,hk⟩:=hx';obtain⟨k',e,r⟩:=je1 (scope:=scope) q;have m:=PySem.mem_of_lookup e;have hfree:k'=.free:=by
    rcases r with r|r
    ·rcases hk with hk|hk
     ·exact absurd (r.symm.trans hk) (ck.nocell _ m)
     ·exact r.symm.trans hk
    ·exact r.1
   subst hfree;exact⟨_,ji7 _ _ m⟩
  ·cases hfn
  ·exact zcv (hb b z)
  ·exact (hf b z).2.2.2.2.1 x c (clc x c h)
  ·rcases (hf b z).2.2.2.1 with q|q
   ·exact I.ok.noex b o e q
   ·exact absurd (zcx (zbv e) (Nat.le_trans I.ok.bsz q)) (Nat.lt_irrefl _)
 refine⟨okk,rfl,I.bare,Un.kept up,⟨_,ns,fun i x v h1 h2 h3=>?_⟩,fun x c h=>?_,I.hok.fresh (zac _),fun x c h=>I.freeC x c (clc x c h),fun p hp=>absurd (show p∈([]:List (Addr×Obj)) from hp) (by simp),I.hok.kept up,?_⟩
 ·obtain⟨p,hp,hi,hv⟩:=joa h2;have hx:p.1=x:=by
   have h1':(own++caps.map (·.1))[i]? = some x:=h1;rw[List.getElem?_append_right hi,zba,hp] at h1';exact zby h1'
  subst hx;obtain⟨cN,cf⟩:=ck.cap p (List.mem_of_getElem? hp);have mem:=PySem.mem_of_lookup cf;obtain⟨m,hn,hl⟩:=I.loc;have kf:=ck.fre _ mem rfl;obtain⟨u,r,l⟩:=hl p.2 p.1 v cN hv (by rcases kf with q|q;exact .inr (.inl q);exact .inr (.inr q));refine⟨u,r,.inr ?_⟩;rcases l with ⟨k,_⟩|⟨k,c,e,z⟩
  ·rcases kf with q|q<;>(rw[q] at k;cases k)
  ·refine⟨je0 cf,c,?_,z.keeps up⟩;show (clOf X.env.cells scope.names []).lookup p.1=some c;rw[ji7 _ _ mem,e];rfl
 ·obtain⟨v,z⟩:=cell x c h;exact⟨v,z.keeps up⟩
 ·show (jcz own.length caps σ).length=(own++caps.map (·.1)).length;simp[jcz]
end
noncomputable abbrev NoX:Value->Shared->Prop:=fun _ _=>False
theorem jq3{α:Type}{M:Model}{A:Around}{t:Sem α}{Q:α->Shared->Prop}{E:Value->Shared->Prop}{s:Shared}(h:wpAny M A t Q NoX s):wpAny M A t Q E s:=wpAny_mono h (fun _ _ q=>q) fun _ _ q=>q.elim
noncomputable abbrev jpx(ifs:List Expr)(env:Env):Sem Bool:=forIn ifs true fun c r=>if r=true then do let ok <- isTrue c env (eval c env);pure (ForInStep.yield ok) else pure (ForInStep.yield r)
section
variable {prog:Program}{w:World}{A:Around}{R:Result->Shared->Prop}{s:Shared}
theorem jgq{elt target iter:Expr}{ifs:List Expr}{scope:Scope}{pos:Pos}{it acc:Value}{env:Env}(J:Nat->Shared->Prop)
  (turn:∀ n s,J n s->wpAny (model prog w) A (pyNext it) (fun r s1=>match r with
   | none=>R (.ok .next) s1
   | some v=>wpAny (model prog w) A (letOwnedTupleGo target it v) (fun _ s2=>wpAny (model prog w) A (assign target env v) (fun _ s3=>wpAny (model prog w) A (jpx ifs env) (fun ok s4 =>
     if ok=true then wpAny (model prog w) A (eval elt env) (fun x s5=>wpAny (model prog w) A (call (.builtin "list.append") [acc,x]) (fun _ s6=>∃ m,m<n/\J m s6) NoX s5) NoX s4
     else ∃ m,m<n/\J m s4) NoX s3) NoX s2) NoX s1) NoX s)
  (n:Nat) (h:J n s):codeAny (model prog w) A (.compLoop (.ListComp elt [⟨target,iter,ifs,0⟩] scope pos) 0 it acc env) R s:=by
 refine codeAny_loop rfl J (fun n s hJ=>?_) n h;show wpAny _ A ((compTurn (.ListComp elt [⟨target,iter,ifs,0⟩] scope pos) 0 it acc env).onRaise (fun x=>do noteFrame x env;theTreesLotGoes x)) _ _ s;refine wpAny_noted (jq3 ?_);rw[compTurn_list];refine zay (wpAny_standAt (zay (thn (turn n s hJ) fun r s1 h1=>?_)))
 cases r with
 | none=>exact zab h1
 | some v =>
  refine zay (thn h1 fun _ s2 h2=>zay (thn h2 fun _ s3 h3=>zay (thn h3 fun ok s4 h4=>?_)))
  cases ok with
  | false =>
   rw[if_neg (by decide)] at h4
   first
    | exact zab ⟨rfl,h4⟩
    | exact zay (zab (zab ⟨rfl,h4⟩))
  | true =>
   rw[if_pos rfl] at h4
   first
    | exact zay (zay (thn h4 fun x s5 h5=>zay (thn h5 fun _ s6 h6=>zab (zab ⟨rfl,h6⟩))))
    | exact zay (thn h4 fun x s5 h5=>zay (thn h5 fun _ s6 h6=>zab ⟨rfl,h6⟩))
end
section
variable {X:Cx}
noncomputable def PC0(X:Cx)(ifs:List Expr)(t:TT):Prop :=
 ∀ (pins:List (Addr×Obj)) (s:Shared) (σ:St) (H:Hp) (Q:Bool->Hp->Prop),Inv X pins σ H s->t σ H Q->wpAny (model X.prog X.w) X.A (jpx ifs X.env) (TP X pins σ Q) X.xe s
noncomputable def jus:TT:=fun _ H Q=>Q true H
theorem jt9:PC0 X [] jus:=fun pins s σ H Q I h=>wpAny_tests_nil ⟨H,I,h⟩
theorem jti{P:Program}{w:World}{H:Hp}{h h':Heap}{C:Addr}(ok:HOk P w H h)(hC:H C=none)(sb:Heap.SameBut C h h'):HOk P w H h':=fun b ob e=>by
 refine (ok b ob e).stay (fun c u hc q=>(sb.2 c ?_).trans q) (fun _ q=>q) fun _ _ q=>q
 rintro rfl;rcases hc with rfl|hc
 ·rw[hC] at e;cases e
 ·rw[hC] at hc;cases hc
theorem jsi{fs ex:List Addr}{H H':Hp}{h h1 h2:Heap}{C:Addr}(u:Un fs ex H H' h h1)(hC:h.objs.size<=C)(sb:Heap.SameBut C h1 h2):Un fs ex H H' h h2:=by
 have ne:∀ b o,h.get? b=some o->b≠C:=fun b o e=>zcv (zcx (zbv e) hC)
 refine⟨fun b o e n a c=>(sb.2 b (ne b o e)).trans (u.keep b o e n a c),fun b o e n a c=>?_,u.free,fun b o e c=>?_,u.tups,u.frzs,u.tbls⟩
 ·obtain⟨sl,q⟩:=u.slot b o e n a c;exact⟨sl,(sb.2 b (ne b o e)).trans q⟩
 ·obtain⟨o',q⟩:=u.there b o e c;exact⟨o',(sb.2 b (ne b o e)).trans q⟩
inductive CpInv(X:Cx)(tn:Nat->Heap->Prop)(fp:List Addr)(W:Nat->Nat->St->Hp->Prop)(n:Nat)(s:Shared):Prop
 | mk (i:Nat) (σ:St) (H:Hp) (hI:Inv X [] σ H s) (ht:tn i s.heap) (hf:∀ b∈fp,H b=none) (hw:W i n σ H)
theorem jub{elt tg iter:Expr}{ifs:List Expr}{scope:Scope}{pos:Pos}{own:List Str}{caps:List (Str×Nat)}{wi:TI}{g:TG}{tc:TT}{te:TE}(hc:X.calm=true)(ck:CapsOk X scope caps)
  (hi:PI X tg iter wi) (hg:∀ C s0 H0 ex,PG (jba X scope (own++caps.map (·.1)) C s0 H0 ex) tg g) (ht:∀ C s0 H0 ex,PC0 (jba X scope (own++caps.map (·.1)) C s0 H0 ex) ifs tc)
  (he:∀ C s0 H0 ex,PE (jba X scope (own++caps.map (·.1)) C s0 H0 ex) elt te) (hs:autoParam (∀ x,foldedSetIterable iter X.env x=pure x) zau3._auto_1) :
  PE X (.ListComp elt [⟨tg,iter,ifs,0⟩] scope pos) (jrd own.length caps wi g tc te):=by
 intro pins s σ H Q I h;have hcl:closureFor scope X.env=pure (clOf X.env.cells scope.names []):=jim fun p hp hf=>I.ok.has p.1 (ck.fre p hp hf)
 rw[eval_ListComp];refine wpAny_comprehension_free (use:=none) rfl hs hcl ck.kind ck.loc (thn (hi pins s σ H _ I h) fun v s1 h1=>thn h1 fun itv s2 h2=>?_);obtain⟨it,fp,tn,J,H2,e,I2,T,st2,f2,hw⟩:=h2;subst e;obtain⟨W,⟨m0,w0⟩,turn⟩:=hw s2.heap.objs.size (I2.hok.fresh (zac _));refine wpAny_newObj_type ?_;have hD:=I2.hok.fresh (zac s2.heap.objs.size);have I3:Inv X pins σ (upd H2 s2.heap.objs.size (.lst [])) { s2 with heap:=s2.heap.push { cls:=.type "list",data:=.seq ([]:List Value).toArray } } :=
  I2.laid (t':=s2.toks) (fun b u e=>zaz _ e) (zac _) ⟨Nat.zero_le _,[],0,.nil,zbz _ rfl⟩
 have hlt:∀ b∈fp,b<s2.heap.objs.size:=fun b hb=>by obtain⟨o,e,_⟩:=T.obj _ _ st2 b hb;exact zbv e
 have f3:∀ b∈fp,FpOk X pins (upd H2 s2.heap.objs.size (.lst [])) b:=fun b hb=>⟨by rw[jag (zcv (hlt b hb))];exact (f2 b hb).1,(f2 b hb).2⟩
 have hlt3:∀ b∈fp,b<(s2.heap.push { cls:=.type "list",data:=.seq ([]:List Value).toArray }).objs.size:=fun b hb=>by rw[Heap.size_push];exact Nat.lt_succ_of_lt (hlt b hb)
 refine wpAny_newFunctionEnv ck.nocell (by intro y hy;simp at hy) (fun h' hns hsb=>?_) ck.kind;generalize hS3:({ s2 with heap:=s2.heap.push { cls:=.type "list",data:=.seq ([]:List Value).toArray } }:Shared)=S3 at I3 hns hsb |-
 have hlt3':∀ b∈fp,b<S3.heap.objs.size:=by rw[<- hS3];exact hlt3
 have I4:=jmd (own:=own) (t':=S3.toks+([]:List (Str×Value)).length) I3 ck f3 hlt3' hns hsb;have st4:tn 0 h':=T.keep _ _ _ st2 fun b hb o e=>hsb.extBut b o (zcv (hlt3' b hb)) (zaz _ (by rw[<- hS3];exact zaz _ e))
 have hsz:s2.heap.objs.size<S3.heap.objs.size:=by rw[<- hS3];show _<(Heap.push _ _).objs.size;rw[Heap.size_push];exact Nat.lt_succ_self _
 generalize hCC:S3.heap.objs.size=C at I4 hsb hns hsz;have loop:codeAny (model X.prog X.w) X.A (.compLoop (.ListComp elt [⟨tg,iter,ifs,0⟩] scope pos) 0 (.ref it) (.ref s2.heap.objs.size) (compEnvC scope (clOf X.env.cells scope.names []) C X.env))
   (compPost (model X.prog X.w) X.A X.xe none (EP X pins σ Q) (.ref s2.heap.objs.size) C) { S3 with heap:=h',toks:=S3.toks+([]:List (Str×Value)).length }:=by
  have xf:∀ {H':Hp},(∀ b∈fp,H' b=none)->∀ b∈fp,FpOk (jba X scope (own++caps.map (·.1)) C S3 (upd H2 s2.heap.objs.size (.lst [])) fp) [] H' b:=fun hn b hb=>by
   refine⟨hn b hb,?_,?_,.inl hb,fun x c e=>(I4.ok.exf b hb).2 x c e,fun p hp=>absurd (show p∈([]:List (Addr×Obj)) from hp) (by simp)⟩
   ·exact (I4.ok.exf b hb).1
   ·exact I4.ok.exfs b hb
  refine jgq (CpInv (jba X scope (own++caps.map (·.1)) C S3 (upd H2 s2.heap.objs.size (.lst [])) fp) tn fp W) ?_ m0
   ⟨0,_,_,I4,st4,fun b hb=>(f3 b hb).1,w0⟩
  rintro n s5 ⟨i,σ5,H5,I5,st5,fr5,w5⟩;rcases turn i n σ5 H5 w5 with ⟨stop,qn⟩|⟨go,N,hN,step⟩
  ·refine thn (T.done (jba X scope (own++caps.map (·.1)) C S3 (upd H2 s2.heap.objs.size (.lst [])) fp) rfl rfl rfl hc i [] s5 σ5 H5 NoX I5 (xf fr5) st5 stop) fun r s6 hzz=>?_
   obtain⟨hr,I6⟩:=hzz;subst hr;obtain⟨m6,n6,_⟩:=id I6.loc;refine⟨m6,n6,fun h7 sb7=>⟨.ref s2.heap.objs.size,H5,?_,rfl,qn⟩⟩;have C3:S3.heap.objs.size<=C:=Nat.le_of_eq hCC;refine I3.call' (s':={ s6 with heap:=h7 }) (ch:=fp) I6.os (jsi I6.base C3 sb7) (jti I6.hok I6.free sb7) I6.bare fun b hb=>?_
   obtain⟨_,q1,_,q3,q4,q5⟩:=f3 b hb;exact⟨q3,q1,q4,q5⟩
  ·refine thn (T.item (jba X scope (own++caps.map (·.1)) C S3 (upd H2 s2.heap.objs.size (.lst [])) fp) rfl rfl rfl hc i [] s5 σ5 H5 NoX I5 (xf fr5) st5 go) fun r s6 hzz=>?_
   obtain⟨u,hr,h6⟩:=hzz;subst hr;refine thn h6 fun _ s7 hzz=>?_
   obtain⟨x,H7,I7,r7,y7,st7,fr7⟩:=hzz;have I7':=I7.pinned (xf fr7) (T.obj _ _ st7);refine thn (hg _ _ _ _ _ s7 σ5 H7 x u _ I7' r7 (step x H7 y7)) fun _ s8 hzz=>?_
   obtain⟨σ8,H8,I8,q8⟩:=hzz;refine thn (ht _ _ _ _ _ s8 σ8 H8 _ I8 q8) fun ok s9 hzz=>?_
   obtain⟨H9,I9,q9⟩:=hzz;have again:∀ {s':Shared} {σ':St} {H':Hp},Inv (jba X scope (own++caps.map (·.1)) C S3 (upd H2 s2.heap.objs.size (.lst [])) fp) ([]++jiw fp s7.heap) σ' H' s'->N σ' H'->∃ m,m<n/\CpInv (jba X scope (own++caps.map (·.1)) C S3 (upd H2 s2.heap.objs.size (.lst [])) fp) tn fp W m s':=fun {s' σ' H'} Ia na=>by
    obtain⟨m',hm,wa⟩:=hN σ' H' na;refine⟨m',hm,i+1,σ',H',Ia.unpinned,T.keep _ _ _ st7 fun b hb o e=>(Ia.pin (b,o) (zcy _ (zcy _ (jc6 hb e)))).1,fun b hb=>?_,wa⟩;obtain⟨o,e,d⟩:=T.obj _ _ st7 b hb;exact (Ia.pin (b,o) (zcy _ (zcy _ (jc6 hb e)))).2.1
   cases ok with
   | false =>
    rw[if_neg (by decide)] at q9 |-
    exact again I9 q9
   | true =>
    rw[if_pos rfl] at q9 |-
    refine thn (he _ _ _ _ _ s9 σ8 H9 _ I9 q9) fun y s10 hzz=>?_
    obtain⟨vy,H10,I10,r10,ys,hys,hlen,q10⟩:=hzz;refine thn (jhu _ s10 σ8 H10 (.ref s2.heap.objs.size) [vy] (.ref s2.heap.objs.size) [y] (fun _ H'=>N σ8 H') I10 rfl (.cons r10 .nil) ⟨_,ys,vy,rfl,rfl,hys,hlen,q10⟩) fun _ s11 hzz=>?_
    obtain⟨_,H11,I11,_,q11⟩:=hzz;exact again I11 q11
 exact codeAny_compStart_list loop (T.self _ 0 _ _ _ st4 loop)
end
end L2
namespace DL
open PySem PySem.Spec L2
inductive D where
 | non|bl (b:Bool)|int (i:Int)|str (x:Str)|ty (n:String)|obj (i:Nat)|tup (xs:List D)|lst (xs:List D)
structure XD where
 cls:Str
 fs:List (Str×D)
noncomputable abbrev M(α:Type):=Option (Except XD α)
noncomputable def M.b{α β:Type}(m:M α)(f:α->M β):M β:=match m with
 | none=>none
 | some (.error x)=>some (.error x)
 | some (.ok a)=>f a
noncomputable def M.p{α:Type}(a:α):M α:=some (.ok a)
noncomputable def M.o{α:Type}:Option α->M α
 | none=>none
 | some a=>some (.ok a)
inductive M.BInv{α β:Type}(m:M α)(f:α->M β)(r:Except XD β):Prop
 | ok (a:α) (h1:m=some (.ok a)) (h2:f a=some r)
 | err (x:XD) (h1:m=some (.error x)) (h2:r=.error x)
theorem M.b_inv{α β:Type}{m:M α}{f:α->M β}{r:Except XD β}(h:m.b f=some r):M.BInv m f r:=by
 cases m with
 | none=>cases h
 | some e =>
  cases e with
  | error x=>exact .err x rfl (zby h).symm
  | ok a=>exact .ok a rfl h
theorem M.o_inv{α:Type}{m:Option α}{r:Except XD α}(h:M.o m=some r):∃ a,m=some a/\r=.ok a:=by
 cases m with
 | none=>cases h
 | some a=>exact⟨a,rfl,(zby h).symm⟩
@[simp] theorem M.b_ok{α β:Type}(a:α)(f:α->M β):M.b (some (.ok a)) f=f a:=rfl
@[simp] theorem M.b_p{α β:Type}(a:α)(f:α->M β):M.b (M.p a) f=f a:=rfl
@[simp] theorem M.b_err{α β:Type}(x:XD)(f:α->M β):M.b (some (.error x)) f=some (.error x):=rfl
@[simp] theorem M.o_some{α:Type}(a:α):M.o (some a)=M.p a:=rfl
noncomputable abbrev Rho:=Nat->Option Addr
mutual
noncomputable def Rep(ρ:Rho)(K:W.Frag)(H:Hp):D->V->Prop
 | .non,v=>v=.non
 | .bl b,v=>v=.bl b
 | .int i,v=>v=.int i
 | .str x,v=>v=.str x
 | .ty n,v=>v=.ty n
 | .obj i,v=>∃ a,ρ i=some a/\v=.ref a
 | .tup ds,v=>∃ a xs,v=.ref a/\SqT K H a xs/\Reps ρ K H ds xs
 | .lst ds,v=>∃ a xs,v=.ref a/\SqL K H a xs/\Reps ρ K H ds xs
noncomputable def Reps(ρ:Rho)(K:W.Frag)(H:Hp):List D->List V->Prop
 | [],xs=>xs=[]
 | d::ds,xs=>∃ v vs,xs=v::vs/\Rep ρ K H d v/\Reps ρ K H ds vs
end
variable {ρ:Rho}{K:W.Frag}{H H':Hp}
theorem jpn{a:Addr}{u:HO}(e:Same H H')(h:Rd H a u):Rd H' a u:=by
 rcases h with h|⟨o,h⟩
 ·exact .inl (e a _ h)
 ·exact .inr ⟨o,e a _ h⟩
theorem jc1{a:Addr}{xs:List V}(e:Same H H')(h:SqL K H a xs):SqL K H' a xs:=h.imp (jpn e) id
theorem jdj{a:Addr}{xs:List V}(e:Same H H')(h:SqT K H a xs):SqT K H' a xs:=h.imp (jpn e) id
mutual
theorem Rep.mono(e:Same H H'):∀ {d:D} {v:V},Rep ρ K H d v->Rep ρ K H' d v
 | .non,_,h=>by unfold Rep at h |-;exact h
 | .bl _,_,h=>by unfold Rep at h |-;exact h
 | .int _,_,h=>by unfold Rep at h |-;exact h
 | .str _,_,h=>by unfold Rep at h |-;exact h
 | .ty _,_,h=>by unfold Rep at h |-;exact h
 | .obj _,_,h=>by unfold Rep at h |-;exact h
 | .tup _,_,h=>by
  unfold Rep at h |-
  obtain⟨a,xs,q1,q2,q3⟩:=h;exact⟨a,xs,q1,jdj e q2,Reps.mono e q3⟩
 | .lst _,_,h=>by
  unfold Rep at h |-
  obtain⟨a,xs,q1,q2,q3⟩:=h;exact⟨a,xs,q1,jc1 e q2,Reps.mono e q3⟩
theorem Reps.mono(e:Same H H'):∀ {ds:List D} {vs:List V},Reps ρ K H ds vs->Reps ρ K H' ds vs
 | [],_,h=>by unfold Reps at h |-;exact h
 | _::_,_,h=>by
  unfold Reps at h |-
  obtain⟨v,vs,q1,q2,q3⟩:=h;exact⟨v,vs,q1,Rep.mono e q2,Reps.mono e q3⟩
end
theorem reps_nil{vs:List V}:Reps ρ K H [] vs↔vs=[]:=by unfold Reps;exact Iff.rfl
theorem reps_cons{d:D}{ds:List D}{vs:List V}:Reps ρ K H (d::ds) vs↔∃ v r,vs=v::r/\Rep ρ K H d v/\Reps ρ K H ds r:=by
 conv=>lhs;unfold Reps
theorem Reps.cons{d:D}{ds:List D}{v:V}{vs:List V}(h:Rep ρ K H d v)(t:Reps ρ K H ds vs):Reps ρ K H (d::ds) (v::vs):=reps_cons.mpr ⟨v,vs,rfl,h,t⟩
theorem Reps.nil:Reps ρ K H [] []:=reps_nil.mpr rfl
theorem Reps.length:∀ {ds:List D} {vs:List V},Reps ρ K H ds vs->vs.length=ds.length
 | [],_,h=>by rw[reps_nil.mp h];rfl
 | _::_,_,h=>by
  obtain⟨v,r,rfl,_,t⟩:=reps_cons.mp h;simp[Reps.length t]
theorem Reps.get:∀ {ds:List D} {vs:List V} {i:Nat} {d:D},Reps ρ K H ds vs->ds[i]? = some d->∃ v,vs[i]? = some v/\Rep ρ K H d v
 | [],_,_,_,_,e=>by simp at e
 | _::_,_,0,_,h,e=>by
  obtain⟨v,r,rfl,q,_⟩:=reps_cons.mp h;simp at e;subst e
  exact⟨v,rfl,q⟩
 | _::_,_,i+1,_,h,e=>by
  obtain⟨v,r,rfl,_,t⟩:=reps_cons.mp h;obtain⟨u,q1,q2⟩:=Reps.get (i:=i) t (by simpa using e);exact⟨u,by simpa using q1,q2⟩
theorem Reps.append:∀ {ds es:List D} {vs us:List V},Reps ρ K H ds vs->Reps ρ K H es us->Reps ρ K H (ds++es) (vs++us)
 | [],_,_,_,h,k=>by rw[reps_nil.mp h];exact k
 | _::_,_,_,_,h,k=>by
  obtain⟨v,r,rfl,q,t⟩:=reps_cons.mp h;exact Reps.cons q (Reps.append t k)
theorem rep_int{i:Int}{v:V}:Rep ρ K H (.int i) v↔v=.int i:=by unfold Rep;exact Iff.rfl
theorem rep_str{x:Str}{v:V}:Rep ρ K H (.str x) v↔v=.str x:=by unfold Rep;exact Iff.rfl
theorem rep_ty{n:String}{v:V}:Rep ρ K H (.ty n) v↔v=.ty n:=by unfold Rep;exact Iff.rfl
theorem rep_obj{i:Nat}{v:V}:Rep ρ K H (.obj i) v↔∃ a,ρ i=some a/\v=.ref a:=by unfold Rep;exact Iff.rfl
theorem rep_bl{b:Bool}{v:V}:Rep ρ K H (.bl b) v↔v=.bl b:=by unfold Rep;exact Iff.rfl
theorem rep_non{v:V}:Rep ρ K H .non v↔v=.non:=by unfold Rep;exact Iff.rfl
theorem rep_tup{ds:List D}{v:V}:Rep ρ K H (.tup ds) v↔∃ a xs,v=.ref a/\SqT K H a xs/\Reps ρ K H ds xs:=by conv=>lhs;unfold Rep
theorem rep_lst{ds:List D}{v:V}:Rep ρ K H (.lst ds) v↔∃ a xs,v=.ref a/\SqL K H a xs/\Reps ρ K H ds xs:=by conv=>lhs;unfold Rep
theorem reps_ints:∀ {ns:List Int} {vs:List V},Reps ρ K H (ns.map .int) vs↔vs=ns.map V.int
 | [],vs=>reps_nil
 | n::ns,vs=>by
  rw[List.map_cons,reps_cons];constructor
  ·rintro⟨v,r,rfl,h1,h2⟩;rw[rep_int.mp h1,reps_ints.mp h2];rfl
  ·rintro rfl;exact⟨_,_,rfl,rep_int.mpr rfl,reps_ints.mpr rfl⟩
noncomputable def hid(H:Hp)(G:Addr->Bool):Hp:=fun b=>if G b=true then none else H b
theorem hid_some{G:Addr->Bool}{b:Addr}{o:HO}:hid H G b=some o↔G b=false/\H b=some o:=by
 unfold hid;cases e:G b<;>simp
theorem jas{G:Addr->Bool}(e:Same H H'):Same (hid H G) (hid H' G):=fun b o h=>by
 obtain⟨q1,q2⟩:=hid_some.mp h;exact hid_some.mpr ⟨q1,e b o q2⟩
theorem jfe{G G':Addr->Bool}(h:∀ b,G' b=true->G b=true):Same (hid H G) (hid H G'):=fun b o q=>by
 obtain⟨q1,q2⟩:=hid_some.mp q;refine hid_some.mpr ⟨?_,q2⟩
 cases e:G' b with
 | false=>rfl
 | true=>rw[h b e] at q1;cases q1
theorem jam{G:Addr->Bool}:Same (hid H G) H:=fun b o q=>(hid_some.mp q).2
theorem jgf{G:Addr->Bool}{a:Addr}{o:HO}(h:G a=true):hid (upd H a o) G=hid H G:=by
 funext b
 unfold hid upd
 by_cases e:b=a
 ·subst e;rw[if_pos h,if_pos h]
 ·rw[if_neg e]
theorem ja3{p:Addr}{o:HO}(h:H p=none):Same H (upd H p o):=fun b u e=>by rw[jag (ja1 e h)];exact e
theorem jf5{Hz:Hp}{p:Addr}{o:HO}(e:Same Hz H)(h:Hz p=none):Same Hz (upd H p o):=fun b u q=>by rw[jag (ja1 q h)];exact e b u q
noncomputable abbrev DSt:=List (Option D)
noncomputable def jup:Option (Option V)->Option Addr
 | some (some (.ref a))=>some a
 | _=>none
theorem jm8{o:Option (Option V)}{a:Addr}:jup o=some a↔o=some (some (.ref a)):=by
 constructor
 ·intro h;unfold jup at h
  split at h
  ·cases h;rfl
  ·cases h
 ·rintro rfl;rfl
noncomputable def ownA(σ:St):List Nat->List Addr
 | []=>[]
 | i::O=>(jup σ[i]?).toList++ownA σ O
theorem jqy{σ:St}{O:List Nat}{a:Addr}:a∈ownA σ O↔∃ i∈O,σ[i]? = some (some (.ref a)):=by
 induction O with
 | nil=>simp[ownA]
 | cons j O ih =>
  unfold ownA;rw[List.mem_append,ih,Option.mem_toList,jm8];constructor
  ·rintro (h|⟨i,hi,h⟩)
   ·exact⟨j,zaa,h⟩
   ·exact⟨i,zaw _ hi,h⟩
  ·rintro⟨i,hi,h⟩;rcases List.mem_cons.mp hi with rfl|hi
   ·exact .inl h
   ·exact .inr ⟨i,hi,h⟩
noncomputable def fob(F:Addr->Bool)(σ:St)(O:List Nat):Addr->Bool:=fun b=>F b || (ownA σ O).contains b
theorem fob_t{F:Addr->Bool}{σ:St}{O:List Nat}{b:Addr}:fob F σ O b=true↔F b=true\/∃ i∈O,σ[i]? = some (some (.ref b)):=by
 unfold fob;rw[Bool.or_eq_true,zbc,jqy]
theorem jch{F:Addr->Bool}{σ:St}:fob F σ []=F:=by
 funext b;unfold fob ownA;simp
structure RS(ρ:Rho)(K:W.Frag)(Hz H:Hp)(F:Addr->Bool)(O:List Nat)(σ:St)(δ:DSt):Prop where
 len:σ.length=δ.length
 same:Same Hz H
 fin:∀ b,F b=true->H b≠none
 val:∀ (i:Nat) d,δ[i]? = some (some d)->i∉O->∃ v,σ[i]? = some (some v)/\Rep ρ K (hid H (fob F σ O)) d v
 own:∀ i∈O,∃ (a:Addr) (xs:List V) (ds:List D),δ[i]? = some (some (.lst ds))/\σ[i]? = some (some (.ref a))/\H a=some (.lst xs)/\(Hz a=none/\F a=false)/\Reps ρ K (hid H (fob F σ O)) ds xs
 nd:∀ i∈O,∀ j∈O,∀ a,σ[i]? = some (some (.ref a))->σ[j]? = some (some (.ref a))->i=j
section
variable {Hz:Hp}{F:Addr->Bool}{O:List Nat}{σ:St}{δ:DSt}
theorem juq{b:Addr}(e:Same H H')(h:H b≠none):H' b≠none:=fun z=>by
 cases q:H b with
 | none=>exact h q
 | some o=>rw[e b o q] at z;cases z
theorem jgy{b p:Addr}{o:HO}(h:H b≠none):upd H p o b≠none:=by
 by_cases e:b=p
 ·subst e;rw[jak];exact fun z=>nomatch z
 ·rw[jag e];exact h
theorem RS.mono(R:RS ρ K Hz H F O σ δ)(e:Same H H'):RS ρ K Hz H' F O σ δ :=
 ⟨R.len,R.same.trans e,fun b hb=>juq e (R.fin b hb),fun i d h ho=>let ⟨v,q1,q2⟩:=R.val i d h ho;⟨v,q1,q2.mono (jas e)⟩,
  fun i hi=>let ⟨a,xs,ds,q1,q2,q3,q4,q5⟩:=R.own i hi;⟨a,xs,ds,q1,q2,e a _ q3,q4,q5.mono (jas e)⟩,R.nd⟩
theorem RS.fresh(R:RS ρ K Hz H F O σ δ){p:Addr}(h:H p=none):fob F σ O p=false:=by
 cases e:fob F σ O p with
 | false=>rfl
 | true =>
  rcases fob_t.mp e with q|⟨i,hi,q⟩
  ·exact absurd h (R.fin p q)
  ·obtain⟨a,xs,ds,_,q2,q3,_⟩:=R.own i hi;rw[q] at q2;cases q2
   rw[q3] at h;cases h
theorem RS.fresh0(R:RS ρ K Hz H F O σ δ){p:Addr}(h:H p=none):Hz p=none:=by
 cases e0:Hz p with
 | none=>rfl
 | some o=>rw[R.same p o e0] at h;cases h
theorem RS.thaw{O':List Nat}(R:RS ρ K Hz H F O σ δ)(h:∀ i∈O',i∈O):RS ρ K Hz H F O' σ δ:=by
 have le:∀ b,fob F σ O' b=true->fob F σ O b=true:=fun b q=>by
  rcases fob_t.mp q with q|⟨i,hi,q⟩
  ·exact fob_t.mpr (.inl q)
  ·exact fob_t.mpr (.inr ⟨i,h i hi,q⟩)
 refine⟨R.len,R.same,R.fin,fun i d hd ho=>?_,fun i hi=>?_,fun i hi j hj=>R.nd i (h i hi) j (h j hj)⟩
 ·by_cases hO:i∈O
  ·obtain⟨a,xs,ds,q1,q2,q3,q4,q5⟩:=R.own i hO;rw[q1] at hd;cases hd
   refine⟨_,q2,rep_lst.mpr ⟨a,xs,rfl,SqL.of (hid_some.mpr ⟨?_,q3⟩),q5.mono (jfe le)⟩⟩
   cases e:fob F σ O' a with
   | false=>rfl
   | true =>
    rcases fob_t.mp e with z|⟨j,hj,z⟩
    ·rw[q4.2] at z;cases z
    ·exact absurd (R.nd i hO j (h j hj) a q2 z ▸ hj) ho
  ·obtain⟨v,q1,q2⟩:=R.val i d hd hO;exact⟨v,q1,q2.mono (jfe le)⟩
 ·obtain⟨a,xs,ds,q1,q2,q3,q4,q5⟩:=R.own i (h i hi);exact⟨a,xs,ds,q1,q2,q3,q4,q5.mono (jfe le)⟩
theorem jcv{i:Nat}{v:V}(h:i∉O):fob F (σ.set i (some v)) O=fob F σ O:=by
 have:ownA (σ.set i (some v)) O=ownA σ O:=by
  induction O with
  | nil=>rfl
  | cons j O ih =>
   unfold ownA;rw[zbw (by rintro rfl;exact h zaa),ih fun z=>h (zaw _ z)]
 unfold fob;rw[this]
theorem RS.set(R:RS ρ K Hz H F O σ δ){i:Nat}{d:D}{v:V}(ho:i∉O)(hr:Rep ρ K (hid H (fob F σ O)) d v):RS ρ K Hz H F O (σ.set i (some v)) (δ.set i (some d)):=by
 have ne:∀ j∈O,j≠i:=fun j hj e=>ho (e ▸ hj)
 refine⟨by simp[R.len],R.same,R.fin,fun j e hd hj=>?_,fun j hj=>?_,fun j hj k hk a e1 e2=>?_⟩
 ·rw[jcv ho]
  by_cases hji:j=i
  ·subst hji;have hl:j<δ.length:=by
    by_cases q:j<δ.length
    ·exact q
    ·rw[List.getElem?_eq_none (by simpa using q)] at hd;cases hd
   rw[zcz hl] at hd;cases hd;exact⟨v,zcz (by rw[R.len];exact hl),hr⟩
  ·rw[zbw (Ne.symm hji)] at hd |-
   exact R.val j e hd hj
 ·rw[jcv ho,zbw (Ne.symm (ne j hj)),zbw (Ne.symm (ne j hj))];exact R.own j hj
 ·rw[zbw (Ne.symm (ne j hj))] at e1;rw[zbw (Ne.symm (ne k hk))] at e2;exact R.nd j hj k hk a e1 e2
theorem RS.take(R:RS ρ K Hz H F O σ δ){i:Nat}{ds:List D}{p:Addr}{xs:List V}{H1:Hp}(ho:i∉O)(hi:i<δ.length)(e:Same H H1)(hp:H1 p=none)(hr:Reps ρ K (hid H1 (fob F σ O)) ds xs) :
  RS ρ K Hz (upd H1 p (.lst xs)) F (i::O) (σ.set i (some (.ref p))) (δ.set i (some (.lst ds))):=by
 have R1:=R.mono e;have p0:=R1.fresh0 hp;have pf:=R1.fresh hp;have ne:∀ j∈O,j≠i:=fun j hj e=>ho (e ▸ hj)
 have lσ:i<σ.length:=by rw[R.len];exact hi
 have gp:∀ b,fob F (σ.set i (some (.ref p))) (i::O) b=true↔b=p\/fob F σ O b=true:=fun b=>by
  rw[fob_t,fob_t];constructor
  ·rintro (q|⟨j,hj,q⟩)
   ·exact .inr (.inl q)
   ·rcases List.mem_cons.mp hj with rfl|hj
    ·rw[zcz lσ] at q;cases q;exact .inl rfl
    ·rw[zbw (Ne.symm (ne j hj))] at q;exact .inr (.inr ⟨j,hj,q⟩)
  ·rintro (rfl|q|⟨j,hj,q⟩)
   ·exact .inr ⟨i,zaa,zcz lσ⟩
   ·exact .inl q
   ·exact .inr ⟨j,zaw _ hj,by rw[zbw (Ne.symm (ne j hj))];exact q⟩
 have eqH:hid (upd H1 p (.lst xs)) (fob F (σ.set i (some (.ref p))) (i::O))=hid H1 (fob F σ O):=by
  funext b
  by_cases hb:b=p
  ·subst hb;unfold hid;rw[if_pos ((gp b).mpr (.inl rfl)),hp]
   split<;>rfl
  ·unfold hid;rw[jag hb]
   cases q:fob F σ O b with
   | true=>rw[if_pos ((gp b).mpr (.inr q)),if_pos rfl]
   | false =>
    rw[if_neg (by rw[gp];rintro (z|z);exact hb z;rw[q] at z;cases z),if_neg (by decide)]
 refine⟨by simp[R.len],jf5 R1.same p0,fun b hb=>jgy (R1.fin b hb),fun j d hd hj=>?_,fun j hj=>?_,fun j hj k hk a e1 e2=>?_⟩
 ·have hji:j≠i:=fun z=>hj (z ▸ zaa)
  rw[eqH];rw[zbw (Ne.symm hji)] at hd |-
  exact R1.val j d hd fun z=>hj (zaw _ z)
 ·rw[eqH];rcases List.mem_cons.mp hj with rfl|hj
  ·exact⟨p,xs,ds,zcz hi,zcz lσ,jak,⟨p0,by cases z:F p with|false=>rfl|true=>rw[fob_t.mpr (.inl z)] at pf;cases pf⟩,hr⟩
  ·obtain⟨a,ys,es,q1,q2,q3,q4,q5⟩:=R1.own j hj;refine⟨a,ys,es,by rw[zbw (Ne.symm (ne j hj))];exact q1,by rw[zbw (Ne.symm (ne j hj))];exact q2,?_,q4,q5⟩;rw[jag (ja1 q3 hp)];exact q3
 ·have np:∀ j∈O,∀ a,σ[j]? = some (some (.ref a))->a≠p:=fun j hj a q z=>by
   obtain⟨a',ys,es,q1,q2,q3,q4,q5⟩:=R1.own j hj;rw[q] at q2;cases q2
   rw[z,hp] at q3;cases q3
  rcases List.mem_cons.mp hj with rfl|hj
  ·rw[zcz lσ] at e1;cases e1;rcases List.mem_cons.mp hk with rfl|hk
   ·rfl
   ·rw[zbw (Ne.symm (ne k hk))] at e2;exact absurd rfl (np k hk p e2)
  ·rw[zbw (Ne.symm (ne j hj))] at e1;rcases List.mem_cons.mp hk with hke|hk
   ·subst hke;rw[zcz lσ] at e2;cases e2;exact absurd rfl (np j (by assumption) p e1)
   ·rw[zbw (Ne.symm (ne k hk))] at e2;exact R.nd j hj k hk a e1 e2
theorem RS.write(R:RS ρ K Hz H F O σ δ){i:Nat}{a:Addr}{ds:List D}{xs:List V}(hi:i∈O)(ha:σ[i]? = some (some (.ref a)))(hr:Reps ρ K (hid H (fob F σ O)) ds xs) :
  RS ρ K Hz (upd H a (.lst xs)) F O σ (δ.set i (some (.lst ds))):=by
 obtain⟨a',ys,es,q1,q2,q3,q4,q5⟩:=R.own i hi;rw[ha] at q2;cases q2
 have hl:i<δ.length:=(zbb.mp q1).1;have hh:hid (upd H a (.lst xs)) (fob F σ O)=hid H (fob F σ O):=jgf (fob_t.mpr (.inr ⟨i,hi,ha⟩));refine⟨by simp[R.len],jf5 R.same q4.1,fun b hb=>jgy (R.fin b hb),fun j d hd hj=>?_,fun j hj=>?_,R.nd⟩
 ·have hji:j≠i:=fun z=>hj (z ▸ hi)
  rw[hh];rw[zbw (Ne.symm hji)] at hd;exact R.val j d hd hj
 ·rw[hh]
  by_cases hji:j=i
  ·subst hji;exact⟨a,xs,ds,zcz hl,ha,jak,q4,hr⟩
  ·obtain⟨b,zs,fs,p1,p2,p3,p4,p5⟩:=R.own j hj;refine⟨b,zs,fs,by rw[zbw (Ne.symm hji)];exact p1,p2,?_,p4,p5⟩;rw[jag (show b≠a from fun z=>hji (R.nd j hj i hi b p2 (by rw[z];exact ha)))];exact p3
end
noncomputable def XRep(K:W.Frag)(H:Hp)(x:XD)(c:Value)(dx:Option Addr):Prop:=False
noncomputable def okX(K:W.Frag)(Hz:Hp)(E:XK)(x:XD):Prop:=∀ c dx H',Same Hz H'->XRep K H' x c dx->E c dx H'
inductive tD(K:W.Frag)(O:List Nat)(E:XK)(f:DSt->M D)(σ:St)(H:Hp)(Q:VK):Prop
 | mk (ρ:Rho) (Hz:Hp) (F:Addr->Bool) (δ:DSt) (r:Except XD D) (R:RS ρ K Hz H F O σ δ) (hf:f δ=some r) (k:match (generalizing:=false) r with
  | .ok d=>∀ v H',Same H H'->Rep ρ K (hid H' (fob F σ O)) d v->Q v H'
  | .error x=>okX K Hz E x)
noncomputable def DE(X:Cx)(O:List Nat)(E:XK)(e:Expr)(f:DSt->M D):Prop:=PE X e (tD X.K O E f)
inductive tB(K:W.Frag)(O:List Nat)(E:XK)(f:DSt->M Bool)(σ:St)(H:Hp)(Q:Bool->Hp->Prop):Prop
 | mk (ρ:Rho) (Hz:Hp) (F:Addr->Bool) (δ:DSt) (r:Except XD Bool) (R:RS ρ K Hz H F O σ δ) (hf:f δ=some r) (k:match (generalizing:=false) r with
  | .ok b=>∀ H',Same H H'->Q b H'
  | .error x=>okX K Hz E x)
noncomputable def DT(X:Cx)(O:List Nat)(E:XK)(e:Expr)(f:DSt->M Bool):Prop:=PT X e (tB X.K O E f)
inductive tL(K:W.Frag)(O:List Nat)(E:XK)(f:DSt->M (List D))(σ:St)(H:Hp)(Q:List V->Hp->Prop):Prop
 | mk (ρ:Rho) (Hz:Hp) (F:Addr->Bool) (δ:DSt) (r:Except XD (List D)) (R:RS ρ K Hz H F O σ δ) (hf:f δ=some r) (k:match (generalizing:=false) r with
  | .ok ds=>∀ vs H',Same H H'->Reps ρ K (hid H' (fob F σ O)) ds vs->Q vs H'
  | .error x=>okX K Hz E x)
noncomputable def DA(X:Cx)(O:List Nat)(E:XK)(es:List Expr)(f:DSt->M (List D)):Prop:=PA X es (tL X.K O E f)
noncomputable def fVar(i:Nat):DSt->M D:=fun δ=>M.o (δ[i]?).join
noncomputable def fC(d:D):DSt->M D:=fun _=>M.p d
noncomputable def f2(g:D->D->Option D)(fa fb:DSt->M D):DSt->M D:=fun δ=>(fa δ).b fun x=>(fb δ).b fun y=>M.o (g x y)
noncomputable def f1(g:D->Option D)(fa:DSt->M D):DSt->M D:=fun δ=>(fa δ).b fun x=>M.o (g x)
noncomputable def t2(g:D->D->Option D)(fa fb:DSt->M D):DSt->M Bool:=fun δ=>(fa δ).b fun x=>(fb δ).b fun y=>match g x y with
 | some (.bl b)=>M.p b
 | _=>none
noncomputable def fNil:DSt->M (List D):=fun _=>M.p []
noncomputable def jad(f:DSt->M D)(g:DSt->M (List D)):DSt->M (List D):=fun δ=>(f δ).b fun x=>(g δ).b fun xs=>M.p (x::xs)
noncomputable def fL(k:List D->Option D)(g:DSt->M (List D)):DSt->M D:=fun δ=>(g δ).b fun xs=>M.o (k xs)
section
variable {ρ:Rho}{X:Cx}{O:List Nat}{E:XK}{a b c e:Expr}{es:List Expr}{fa fb fc:DSt->M D}{fl:DSt->M (List D)}{pos:Pos}
theorem join_some{δ:DSt}{i:Nat}{d:D}(h:(δ[i]?).join=some d):δ[i]? = some (some d):=by
 cases e:δ[i]? with
 | none=>rw[e] at h;cases h
 | some o=>rw[e] at h;exact congrArg some h
theorem jab(i:Nat){x:Str}(ho:autoParam (O.contains i=false) zau2._auto_1)(hN:autoParam (X.N[i]? = some x) zau2._auto_1)(hv:autoParam (Vis X.env.scope x) zau5._auto_1)
  (hd:autoParam ((x == ("__debug__":Str))=false) zau1._auto_1) (hcd:autoParam ((x == ("__classdict__":Str))=false) zau1._auto_1):DE X O E (.Name x pos) (fVar i):=by
 rintro pins s σ H Q I ⟨ρ,Hz,F,δ,r,R,hf,h⟩;obtain⟨d,e,rfl⟩:=M.o_inv hf;have ho':i∉O:=fun z=>by rw[zbc.mpr z] at ho;cases ho
 obtain⟨v,q1,q2⟩:=R.val i d (join_some e) ho';exact jo8 hN hv hd hcd pins s σ H Q I ⟨v,q1,h v H (Same.refl H) q2⟩
theorem jin{t:TE}{d:D}{v:V}(h:PE X e (tC v))(hr:∀ ρ H,Rep ρ X.K H d v):DE X O E e (fC d):=by
 rintro pins s σ H Q I ⟨ρ,Hz,F,δ,r,R,hf,k⟩;cases hf;exact h pins s σ H Q I (k v H (Same.refl H) (hr _ _))
theorem jae{i:Int}{j}:DE X O E (.Constant (.int i) j pos) (fC (.int i)):=jin (t:=tC (.int i)) jwu fun _ _=>rep_int.mpr rfl
theorem js2{k:Bool}{j}:DE X O E (.Constant (.bool k) j pos) (fC (.bl k)):=jin (t:=tC (.bl k)) jyv fun _ _=>rep_bl.mpr rfl
theorem jj0{j}:DE X O E (.Constant .none j pos) (fC .non):=jin (t:=tC .non) jwv fun _ _=>rep_non.mpr rfl
theorem jhh{x:Str}{j}:DE X O E (.Constant (.str x) j pos) (fC (.str x)):=jin (t:=tC (.str x)) jww fun _ _=>rep_str.mpr rfl
noncomputable def OpD(K:W.Frag)(g:D->D->Option D)(r:R2):Prop:=∀ x y d,g x y=some d->∀ (ρ:Rho) (H:Hp) (G:Addr->Bool) u v (Q:VK),(∀ p,H p=none->G p=false)->Rep ρ K (hid H G) x u->Rep ρ K (hid H G) y v ->
 (∀ w H',Same H H'->Rep ρ K (hid H' G) d w->Q w H')->r u v H Q
noncomputable def CaD(K:W.Frag)(g:List D->Option D)(r:List V->Hp->VK->Prop):Prop:=∀ xs d,g xs=some d->∀ (ρ:Rho) (H:Hp) (G:Addr->Bool) us (Q:VK),(∀ p,H p=none->G p=false)->Reps ρ K (hid H G) xs us ->
 (∀ w H',Same H H'->Rep ρ K (hid H' G) d w->Q w H')->r us H Q
theorem jl1{g:D->D->Option D}{r:R2}{σ:St}{H:Hp}{Q:VK}(hg:OpD X.K g r)(h:tD X.K O E (f2 g fa fb) σ H Q):tOp r (tD X.K O E fa) (tD X.K O E fb) σ H Q:=by
 obtain⟨ρ,Hz,F,δ,rr,R,hf,h⟩:=h;rcases M.b_inv hf with ⟨x,e1,hf⟩|⟨x,e1,rfl⟩
 ·refine⟨ρ,Hz,F,δ,.ok x,R,e1,fun u H1 s1 r1=>?_⟩;rcases M.b_inv hf with ⟨y,e2,hf⟩|⟨y,e2,rfl⟩
  ·refine⟨ρ,Hz,F,δ,.ok y,R.mono s1,e2,fun v H2 s2 r2=>?_⟩;obtain⟨d,hd,rfl⟩:=M.o_inv hf;exact hg x y d hd ρ H2 _ u v Q (fun p hp=>(R.mono (s1.trans s2)).fresh hp) (r1.mono (jas s2)) r2 fun w H3 s3 r3=>h w H3 (s1.trans (s2.trans s3)) r3
  ·exact⟨ρ,Hz,F,δ,.error y,R.mono s1,e2,h⟩
 ·exact⟨ρ,Hz,F,δ,.error x,R,e1,h⟩
theorem jaj{op:Operator}{g:D->D->Option D}{r:R2}(ho:OpR X (binaryOp op) r)(hg:OpD X.K g r)(ha:DE X O E a fa)(hb:DE X O E b fb):DE X O E (.BinOp a op b pos) (f2 g fa fb) :=
 fun pins s σ H Q I h=>jyy ho ha hb pins s σ H Q I (jl1 hg h)
theorem ja0{g:D->D->Option D}{r:R2}(ho:IxR X r)(hg:OpD X.K g r)(ha:DE X O E a fa)(hb:DE X O E b fb)(hs:autoParam (jnh b) zau6._auto_1):DE X O E (.Subscript a b pos) (f2 g fa fb) :=
 fun pins s σ H Q I h=>jyx ho ha hb hs pins s σ H Q I (jl1 hg h)
theorem jgr{op:CmpOp}{g:D->D->Option D}{r:R2}(ho:OpR X (compareOp op) r)(hg:OpD X.K g r)(ha:DE X O E a fa)(hb:DE X O E b fb)(hm:behindInMarks op b=false):DE X O E (.Compare a [op] [b] pos) (f2 g fa fb) :=
 fun pins s σ H Q I h=>jua ho ha hb hm pins s σ H Q I (jl1 hg h)
theorem jfx{op:CmpOp}{g:D->D->Option D}{r:R2}(ho:OpR X (compareOp op) r)(hg:OpD X.K g r)(ha:DE X O E a fa)(hb:DE X O E b fb)(hm:behindInMarks op b=false):DT X O E (.Compare a [op] [b] pos) (t2 g fa fb):=by
 rintro pins s σ H Q I ⟨ρ,Hz,F,δ,rr,R,hf,h⟩;refine jpf ho ha hb hm pins s σ H Q I (jl1 (r:=r) hg ?_);have key:∃ r':Except XD D,f2 g fa fb δ=some r'/\(match r',rr with|.ok d,.ok b=>d=.bl b|.error x,.error y=>x=y|_,_=>False):=by
  rcases M.b_inv hf with ⟨x,e1,hf⟩|⟨x,e1,rfl⟩
  ·rcases M.b_inv hf with ⟨y,e2,hf⟩|⟨y,e2,rfl⟩
   ·unfold f2;rw[e1,M.b_ok,e2,M.b_ok]
    cases e3:g x y with
    | none=>rw[e3] at hf;cases hf
    | some d =>
     rw[e3] at hf
     cases d with
     | bl k=>cases hf;exact⟨_,rfl,rfl⟩
     | _=>cases hf
   ·exact⟨.error y,by unfold f2;rw[e1,M.b_ok,e2];rfl,rfl⟩
  ·exact⟨.error x,by unfold f2;rw[e1];rfl,rfl⟩
 obtain⟨r',e,q⟩:=key;refine⟨ρ,Hz,F,δ,r',R,e,?_⟩
 cases r' with
 | error x=>cases rr with
  | error y=>cases q;exact h
  | ok _=>exact q.elim
 | ok d=>cases rr with
  | error y=>exact q.elim
  | ok k =>
   cases q;exact fun v H' s' rv=>⟨k,rep_bl.mp rv,h H' s'⟩
theorem jaf:DA X O E [] fNil:=by
 rintro p pins s σ H Q I ⟨ρ,Hz,F,δ,r,R,hf,h⟩;cases hf;exact jhz p pins s σ H Q I (h [] H (Same.refl H) Reps.nil)
theorem jaa(ha:DE X O E e fa)(hr:DA X O E es fl)(hs:autoParam (starEach (e::es) X.env=(false,eval e X.env)::starEach es X.env) zau2._auto_1):DA X O E (e::es) (jad fa fl):=by
 rintro p pins s σ H Q I ⟨ρ,Hz,F,δ,r,R,hf,h⟩;refine jdo ha hr hs p pins s σ H Q I ?_;rcases M.b_inv hf with ⟨x,e1,hf⟩|⟨x,e1,rfl⟩
 ·refine⟨ρ,Hz,F,δ,.ok x,R,e1,fun u H1 s1 r1=>?_⟩;rcases M.b_inv hf with ⟨xs,e2,hf⟩|⟨y,e2,rfl⟩
  ·cases hf;exact⟨ρ,Hz,F,δ,.ok xs,R.mono s1,e2,fun vs H2 s2 r2=>h (u::vs) H2 (s1.trans s2) (Reps.cons (r1.mono (jas s2)) r2)⟩
  ·exact⟨ρ,Hz,F,δ,.error y,R.mono s1,e2,h⟩
 ·exact⟨ρ,Hz,F,δ,.error x,R,e1,h⟩
theorem jok{k:List D->Option D}{r:List V->Hp->VK->Prop}{σ:St}{H:Hp}{Q:VK}(hg:CaD X.K k r)(h:tD X.K O E (fL k fl) σ H Q):tCB r (tL X.K O E fl) σ H Q:=by
 obtain⟨ρ,Hz,F,δ,rr,R,hf,h⟩:=h;rcases M.b_inv hf with ⟨x,e1,hf⟩|⟨x,e1,rfl⟩
 ·refine⟨ρ,Hz,F,δ,.ok x,R,e1,fun u H1 s1 r1=>?_⟩;obtain⟨d,hd,rfl⟩:=M.o_inv hf;exact hg x d hd ρ H1 _ u Q (fun p hp=>(R.mono s1).fresh hp) r1 fun w H3 s3 r3=>h w H3 (s1.trans s3) r3
 ·exact⟨ρ,Hz,F,δ,.error x,R,e1,h⟩
theorem ja2{k:List D->Option D}{r:List V->Hp->VK->Prop}{x:Str}{id:String}{p:Pos}(hc:CallR X (.builtin id) r)(hg:CaD X.K k r)(hG:Gl X x)(hm:X.mg x=none)(hv:bootBuiltins x=some (.builtin id))(ha:DA X O E (e::es) fl)
  (hn:autoParam (x≠"__name__") zau1._auto_1) (hdb:autoParam ((x == ("__debug__":Str))=false) zau1._auto_1) (he:autoParam (starEach (e::es) X.env=(false,eval e X.env)::starEach es X.env) zau2._auto_1) (hpl:autoParam ((backTo pos (starEach es X.env)).any (·.1)=false) zau2._auto_1) :
  DE X O E (.Call (.Name x p) (e::es) [] pos) (fL k fl):=fun pins s σ H Q I h=>jg9 hc hG hm hv ha hn hdb he hpl pins s σ H Q I (jok hg h)
theorem jbr{k:List D->Option D}{r:List V->Hp->VK->Prop}{x:Str}{T:String}{p:Pos}(hc:CallR X (.type T) r)(hg:CaD X.K k r)(hG:Gl X x)(hm:X.mg x=none)(hv:bootBuiltins x=some (.type T))(ha:DA X O E (e::es) fl)
  (hn:autoParam (x≠"__name__") zau1._auto_1) (hdb:autoParam ((x == ("__debug__":Str))=false) zau1._auto_1) (he:autoParam (starEach (e::es) X.env=(false,eval e X.env)::starEach es X.env) zau2._auto_1) (hpl:autoParam ((backTo pos (starEach es X.env)).any (·.1)=false) zau2._auto_1) :
  DE X O E (.Call (.Name x p) (e::es) [] pos) (fL k fl):=fun pins s σ H Q I h=>jkl hc hG hm hv ha hn hdb he hpl pins s σ H Q I (jok hg h)
noncomputable def jf1(xs:List D):Option D:=if xs.length<=sizeLine then some (.tup xs) else none
noncomputable def jb9(xs:List D):Option D:=if xs.length<=sizeLine then some (.lst xs) else none
theorem jcm{ρ:Rho}{K:W.Frag}{H:Hp}{G:Addr->Bool}{p:Addr}{vs:List V}{ds:List D}(hp:H p=none)(hG:G p=false)(h:Reps ρ K (hid H G) ds vs):Rep ρ K (hid (upd H p (.tup vs)) G) (.tup ds) (.ref p) :=
 rep_tup.mpr ⟨p,vs,rfl,SqT.of (hid_some.mpr ⟨hG,jak⟩),h.mono (jas (ja3 hp))⟩
theorem jd8{ρ:Rho}{K:W.Frag}{H:Hp}{G:Addr->Bool}{p:Addr}{vs:List V}{ds:List D}(hp:H p=none)(hG:G p=false)(h:Reps ρ K (hid H G) ds vs):Rep ρ K (hid (upd H p (.lst vs)) G) (.lst ds) (.ref p) :=
 rep_lst.mpr ⟨p,vs,rfl,SqL.of (hid_some.mpr ⟨hG,jak⟩),h.mono (jas (ja3 hp))⟩
theorem jfw{x1}(h:DA X O E es fl):DE X O E (.Tuple es x1 pos) (fL jf1 fl):=by
 rintro pins s σ H Q I ⟨ρ,Hz,F,δ,rr,R,hf,k⟩;refine jsb h pins s σ H Q I ?_;rcases M.b_inv hf with ⟨x,e1,hf⟩|⟨x,e1,rfl⟩
 ·refine⟨ρ,Hz,F,δ,.ok x,R,e1,fun u H1 s1 r1=>?_⟩;obtain⟨d,hd,rfl⟩:=M.o_inv hf;unfold jf1 at hd
  split at hd
  ·rename_i hz;cases hd;exact⟨by rw[r1.length];exact hz,fun p hp=>k _ _ (s1.trans (ja3 hp)) (jcm hp ((R.mono s1).fresh hp) r1)⟩
  ·cases hd
 ·exact⟨ρ,Hz,F,δ,.error x,R,e1,k⟩
theorem jjz(h:DA X O E es fl):DE X O E (.List es pos) (fL jb9 fl):=by
 rintro pins s σ H Q I ⟨ρ,Hz,F,δ,rr,R,hf,k⟩;refine jr8 h pins s σ H Q I ?_;rcases M.b_inv hf with ⟨x,e1,hf⟩|⟨x,e1,rfl⟩
 ·refine⟨ρ,Hz,F,δ,.ok x,R,e1,fun u H1 s1 r1=>?_⟩;obtain⟨d,hd,rfl⟩:=M.o_inv hf;unfold jb9 at hd
  split at hd
  ·rename_i hz;cases hd;exact⟨by rw[r1.length];exact hz,fun p hp=>k _ _ (s1.trans (ja3 hp)) (jd8 hp ((R.mono s1).fresh hp) r1)⟩
  ·cases hd
 ·exact⟨ρ,Hz,F,δ,.error x,R,e1,k⟩
noncomputable def fAnd(fa fb:DSt->M D):DSt->M D:=fun δ=>(fa δ).b fun x=>match x with
 | .bl true=>fb δ
 | .bl false=>M.p (.bl false)
 | _=>none
noncomputable def fOr(fa fb:DSt->M D):DSt->M D:=fun δ=>(fa δ).b fun x=>match x with
 | .bl true=>M.p (.bl true)
 | .bl false=>fb δ
 | _=>none
noncomputable def gNot:D->Option D
 | .bl b=>some (.bl !b)
 | _=>none
noncomputable def tAnd(ta tb:DSt->M Bool):DSt->M Bool:=fun δ=>(ta δ).b fun x=>if x=true then tb δ else M.p false
noncomputable def tOr(ta tb:DSt->M Bool):DSt->M Bool:=fun δ=>(ta δ).b fun x=>if x=true then M.p true else tb δ
noncomputable def tNot(ta:DSt->M Bool):DSt->M Bool:=fun δ=>(ta δ).b fun x=>M.p !x
noncomputable def fIf(tc:DSt->M Bool)(fa fb:DSt->M D):DSt->M D:=fun δ=>(tc δ).b fun x=>if x=true then fa δ else fb δ
variable {rest:List Expr}{ta tb':DSt->M Bool}
theorem jhg{op}(h:DE X O E a fa):DE X O E (.BoolOp op [a] pos) fa:=fun pins s σ H Q I hw=>jsa h pins s σ H Q I hw
theorem jfv(ha:DE X O E a fa)(hb:DE X O E (.BoolOp .And (b::rest) pos) fb):DE X O E (.BoolOp .And (a::b::rest) pos) (fAnd fa fb):=by
 rintro pins s σ H Q I ⟨ρ,Hz,F,δ,rr,R,hf,k⟩;refine jr7 ha hb pins s σ H Q I ?_;rcases M.b_inv hf with ⟨x,e1,hf⟩|⟨x,e1,rfl⟩
 ·refine⟨ρ,Hz,F,δ,.ok x,R,e1,fun u H1 s1 r1=>?_⟩
  cases x with
  | bl z =>
   refine⟨z,rep_bl.mp r1,?_⟩
   cases z with
   | true =>
    refine iteT ⟨ρ,Hz,F,δ,rr,R.mono s1,hf,?_⟩
    cases rr with
    | ok d=>exact fun v H' s' r'=>k v H' (s1.trans s') r'
    | error y=>exact k
   | false =>
    refine iteF ?_;cases hf;exact k _ H1 s1 (rep_bl.mpr rfl)
  | _=>cases hf
 ·exact⟨ρ,Hz,F,δ,.error x,R,e1,k⟩
theorem jvb(ha:DE X O E a fa):DE X O E (.UnaryOp .Not a pos) (f1 gNot fa):=by
 rintro pins s σ H Q I ⟨ρ,Hz,F,δ,rr,R,hf,k⟩;refine jr9 ha pins s σ H Q I ?_;rcases M.b_inv hf with ⟨x,e1,hf⟩|⟨x,e1,rfl⟩
 ·refine⟨ρ,Hz,F,δ,.ok x,R,e1,fun u H1 s1 r1=>?_⟩
  cases x with
  | bl z=>cases hf;exact⟨z,rep_bl.mp r1,k _ H1 s1 (rep_bl.mpr rfl)⟩
  | _=>cases hf
 ·exact⟨ρ,Hz,F,δ,.error x,R,e1,k⟩
noncomputable def DW(X:Cx)(O:List Nat)(E:XK)(e:Expr)(f:DSt->M Bool):Prop:=PW X e (tB X.K O E f)
theorem DW.dt{f:DSt->M Bool}(h:DW X O E e f):DT X O E e f:=PW.pt h
theorem js6(ha:DT X O E a ta):DW X O E (.BoolOp .And [a] pos) ta:=juk ha
theorem jvh(ha:DT X O E a ta):DW X O E (.BoolOp .Or [a] pos) ta:=jsf ha
theorem jvg(ha:DT X O E a ta)(hb:DW X O E (.BoolOp .And (b::rest) pos) tb'):DW X O E (.BoolOp .And (a::b::rest) pos) (tAnd ta tb'):=by
 rintro wh pins s σ H Q I ⟨ρ,Hz,F,δ,rr,R,hf,k⟩;refine jw1 ha hb wh pins s σ H Q I ?_;rcases M.b_inv hf with ⟨x,e1,hf⟩|⟨x,e1,rfl⟩
 ·refine⟨ρ,Hz,F,δ,.ok x,R,e1,fun H1 s1=>?_⟩
  cases x with
  | true =>
   refine iteT ⟨ρ,Hz,F,δ,rr,R.mono s1,hf,?_⟩
   cases rr with
   | ok d=>exact fun H' s'=>k H' (s1.trans s')
   | error y=>exact k
  | false=>cases hf;exact iteF (k H1 s1)
 ·exact⟨ρ,Hz,F,δ,.error x,R,e1,k⟩
theorem jx3(ha:DT X O E a ta)(hb:DW X O E (.BoolOp .Or (b::rest) pos) tb'):DW X O E (.BoolOp .Or (a::b::rest) pos) (tOr ta tb'):=by
 rintro wh pins s σ H Q I ⟨ρ,Hz,F,δ,rr,R,hf,k⟩;refine jw2 ha hb wh pins s σ H Q I ?_;rcases M.b_inv hf with ⟨x,e1,hf⟩|⟨x,e1,rfl⟩
 ·refine⟨ρ,Hz,F,δ,.ok x,R,e1,fun H1 s1=>?_⟩
  cases x with
  | true=>cases hf;exact iteT (k H1 s1)
  | false =>
   refine iteF ⟨ρ,Hz,F,δ,rr,R.mono s1,hf,?_⟩
   cases rr with
   | ok d=>exact fun H' s'=>k H' (s1.trans s')
   | error y=>exact k
 ·exact⟨ρ,Hz,F,δ,.error x,R,e1,k⟩
theorem jrs(ha:DT X O E a ta):DT X O E (.UnaryOp .Not a pos) (tNot ta):=by
 rintro pins s σ H Q I ⟨ρ,Hz,F,δ,rr,R,hf,k⟩;refine jse ha pins s σ H Q I ?_;rcases M.b_inv hf with ⟨x,e1,hf⟩|⟨x,e1,rfl⟩
 ·cases hf;exact⟨ρ,Hz,F,δ,.ok x,R,e1,fun H1 s1=>k H1 s1⟩
 ·exact⟨ρ,Hz,F,δ,.error x,R,e1,k⟩
noncomputable def truD:D->Option Bool
 | .non=>some false
 | .bl b=>some b
 | .int i=>some (i != 0)
 | .str x=>if x.length<=sizeLine then some ((x.length:Int) != 0) else none
 | .tup xs=>some !xs.isEmpty
 | .lst xs=>some !xs.isEmpty
 | _=>none
noncomputable def tTru(fa:DSt->M D):DSt->M Bool:=fun δ=>(fa δ).b fun x=>M.o (truD x)
theorem isE{ρ:Rho}{K:W.Frag}{H:Hp}{ds:List D}{xs:List V}(h:Reps ρ K H ds xs):xs.isEmpty=ds.isEmpty:=by
 cases ds with
 | nil=>rw[reps_nil.mp h];rfl
 | cons d ds=>obtain⟨v,r,rfl,_⟩:=reps_cons.mp h;rfl
theorem jrt(ha:DE X O E a fa)(he:autoParam (∀ whole,isTrue a X.env whole=(do let v <- whole;standAt a.pos;holding [v] (truthy v))) zau7._auto_1):DT X O E a (tTru fa):=by
 rintro pins s σ H Q I ⟨ρ,Hz,F,δ,rr,R,hf,k⟩;refine jmg ha he pins s σ H Q I ?_;rcases M.b_inv hf with ⟨x,e1,hf⟩|⟨x,e1,rfl⟩
 ·refine⟨ρ,Hz,F,δ,.ok x,R,e1,fun u H1 s1 r1=>?_⟩;obtain⟨z,hz,rfl⟩:=M.o_inv hf;refine⟨z,?_,k H1 s1⟩
  cases x with
  | non=>cases hz;rw[rep_non.mp r1];rfl
  | bl y=>cases hz;rw[rep_bl.mp r1];rfl
  | int i=>cases hz;rw[rep_int.mp r1];rfl
  | str y =>
   by_cases hl:y.length<=sizeLine
   ·have e:truD (.str y)=some ((y.length:Int) != 0):=if_pos hl;rw[e] at hz;cases hz
    rw[rep_str.mp r1];exact⟨hl,rfl⟩
   ·have e:truD (.str y)=none:=if_neg hl;rw[e] at hz;cases hz
  | tup ds =>
   cases hz;obtain⟨q,xs,rfl,q2,q3⟩:=rep_tup.mp r1;exact .inr (.inl ⟨xs,jdj jam q2,by rw[isE q3]⟩)
  | lst ds =>
   cases hz;obtain⟨q,xs,rfl,q2,q3⟩:=rep_lst.mp r1;exact .inl ⟨xs,jc1 jam q2,by rw[isE q3]⟩
  | ty n=>cases hz
  | obj n=>cases hz
 ·exact⟨ρ,Hz,F,δ,.error x,R,e1,k⟩
noncomputable def jip(g g':D->D->Option D)(fa fb fc:DSt->M D):DSt->M D:=fun δ=>(fa δ).b fun x=>(fb δ).b fun y=>match g x y with
 | some (.bl true)=>(fc δ).b fun z=>M.o (g' y z)
 | some (.bl false)=>M.p (.bl false)
 | _=>none
theorem ji8{op op':CmpOp}{g g':D->D->Option D}{r r':R2}(ho:OpR X (compareOp op) r)(hg:OpD X.K g r)(ho':OpR X (compareOp op') r')(hg':OpD X.K g' r')(ha:DE X O E a fa)(hb:DE X O E b fb)(hc:DE X O E c fc)
  (hm:autoParam (lastMarks [op,op'] [b,c]=false) zau4._auto_1):DE X O E (.Compare a [op,op'] [b,c] pos) (jip g g' fa fb fc):=by
 rintro pins s σ H Q I ⟨ρ,Hz,F,δ,rr,R,hf,k⟩;refine jq4 ho ho' ha hb hc hm pins s σ H Q I ?_;rcases M.b_inv hf with ⟨x,e1,hf⟩|⟨x,e1,rfl⟩
 ·refine⟨ρ,Hz,F,δ,.ok x,R,e1,fun u H1 s1 r1=>?_⟩;rcases M.b_inv hf with ⟨y,e2,hf⟩|⟨y,e2,rfl⟩
  ·refine⟨ρ,Hz,F,δ,.ok y,R.mono s1,e2,fun v H2 s2 r2=>?_⟩
   cases e3:g x y with
   | none=>rw[e3] at hf;cases hf
   | some d =>
    rw[e3] at hf
    cases d with
    | bl z =>
     refine hg x y _ e3 ρ H2 _ u v _ (fun p hp=>(R.mono (s1.trans s2)).fresh hp) (r1.mono (jas s2)) r2 fun w H3 s3 r3=>⟨z,rep_bl.mp r3,?_⟩
     cases z with
     | true =>
      refine iteT ?_;rcases M.b_inv hf with ⟨z,e4,hf⟩|⟨z,e4,rfl⟩
      ·refine⟨ρ,Hz,F,δ,.ok z,R.mono (s1.trans (s2.trans s3)),e4,fun t H4 s4 r4=>?_⟩;obtain⟨d,hd,rfl⟩:=M.o_inv hf;exact hg' y z d hd ρ H4 _ v t Q (fun p hp=>(R.mono (s1.trans (s2.trans (s3.trans s4)))).fresh hp) (r2.mono (jas (s3.trans s4))) r4 fun w H5 s5 r5=>k w H5 (s1.trans (s2.trans (s3.trans (s4.trans s5)))) r5
      ·exact⟨ρ,Hz,F,δ,.error z,R.mono (s1.trans (s2.trans s3)),e4,k⟩
     | false =>
      refine iteF ?_;cases hf;exact k _ H3 (s1.trans (s2.trans s3)) (rep_bl.mpr rfl)
    | _=>cases hf
  ·exact⟨ρ,Hz,F,δ,.error y,R.mono s1,e2,k⟩
 ·exact⟨ρ,Hz,F,δ,.error x,R,e1,k⟩
end
inductive Out where
 | nx (δ:DSt)|rt (d:D)|bk (δ:DSt)|ct (δ:DSt)
noncomputable def Ok(ρ:Rho)(K:W.Frag)(O' B:List Nat)(E:XK)(Hz:Hp)(F:Addr->Bool)(Hv:Hp)(Dn:Ends):Except XD Out->Prop
 | .ok (.nx δ')=>∀ σ' H',Same Hv (hid H' (fob F σ' O'))->RS ρ K Hz H' F O' σ' δ'->Dn.nx σ' H'
 | .ok (.rt d)=>∀ v H',Same Hz H'->Rep ρ K (hid H' F) d v->Dn.rt v H'
 | .ok (.bk δ')=>∀ σ' H',Same Hv (hid H' (fob F σ' B))->RS ρ K Hz H' F B σ' δ'->Dn.bk σ' H'
 | .ok (.ct δ')=>∀ σ' H',Same Hv (hid H' (fob F σ' B))->RS ρ K Hz H' F B σ' δ'->Dn.ct σ' H'
 | .error x=>okX K Hz E x
inductive sD(K:W.Frag)(O O' B:List Nat)(E:XK)(g:DSt->M Out)(Dn:Ends)(σ:St)(H:Hp):Prop
 | mk (ρ:Rho) (Hz:Hp) (F:Addr->Bool) (δ:DSt) (r:Except XD Out) (R:RS ρ K Hz H F O σ δ) (hf:g δ=some r) (k:Ok ρ K O' B E Hz F (hid H (fob F σ O)) Dn r)
noncomputable def DS(X:Cx)(O O' B:List Nat)(E:XK)(st:Stmt)(g:DSt->M Out):Prop:=PS X st (sD X.K O O' B E g)
noncomputable def DSs(X:Cx)(O O' B:List Nat)(E:XK)(st:List Stmt)(g:DSt->M Out):Prop:=PSs X st (sD X.K O O' B E g)
theorem Ok.back{ρ:Rho}{K:W.Frag}{O' B:List Nat}{E:XK}{Hz:Hp}{F:Addr->Bool}{Hv Hv':Hp}{Dn:Ends}{r:Except XD Out}(e:Same Hv Hv')(h:Ok ρ K O' B E Hz F Hv Dn r):Ok ρ K O' B E Hz F Hv' Dn r:=by
 cases r with
 | error x=>exact h
 | ok o =>
  cases o with
  | nx δ'=>exact fun σ' H' f=>h σ' H' (e.trans f)
  | bk δ'=>exact fun σ' H' f=>h σ' H' (e.trans f)
  | ct δ'=>exact fun σ' H' f=>h σ' H' (e.trans f)
  | rt d=>exact h
noncomputable def gNx:DSt->M Out:=fun δ=>M.p (.nx δ)
noncomputable def gSeq(g1 g2:DSt->M Out):DSt->M Out:=fun δ=>(g1 δ).b fun o=>match o with
 | .nx δ'=>g2 δ'
 | o=>M.p o
noncomputable def gSet(i:Nat)(f:DSt->M D):DSt->M Out:=fun δ=>(f δ).b fun d=>M.p (.nx (δ.set i (some d)))
noncomputable def gRet(f:DSt->M D):DSt->M Out:=fun δ=>(f δ).b fun d=>M.p (.rt d)
noncomputable def jyc(f:DSt->M D):DSt->M Out:=fun δ=>(f δ).b fun _=>M.p (.nx δ)
noncomputable def gIf(t:DSt->M Bool)(g1 g2:DSt->M Out):DSt->M Out:=fun δ=>(t δ).b fun b=>if b=true then g1 δ else g2 δ
noncomputable def gBrk:DSt->M Out:=fun δ=>M.p (.bk δ)
noncomputable def gCnt:DSt->M Out:=fun δ=>M.p (.ct δ)
noncomputable def gApp(i:Nat)(f:DSt->M D):DSt->M Out:=fun δ=>(f δ).b fun d=>match (δ[i]?).join with
 | some (.lst ds)=>if ds.length<sizeLine then M.p (.nx (δ.set i (some (.lst (ds++[d]))))) else none
 | _=>none
noncomputable def forD(g:DSt->M Out)(tg:D->DSt->Option DSt):List D->DSt->M Out
 | [],δ=>M.p (.nx δ)
 | d::ds,δ=>match tg d δ with
  | none=>none
  | some δ1=>(g δ1).b fun o=>match o with
   | .nx δ'=>forD g tg ds δ'
   | .ct δ'=>forD g tg ds δ'
   | .bk δ'=>M.p (.nx δ')
   | .rt v=>M.p (.rt v)
noncomputable def gFor(fi:DSt->M (List D))(tg:D->DSt->Option DSt)(g:DSt->M Out):DSt->M Out:=fun δ=>(fi δ).b fun ds=>forD g tg ds δ
section
variable {ρ:Rho}{X:Cx}{O O' O'' B:List Nat}{E:XK}{b c e:Expr}{es:List Expr}{fa:DSt->M D}{fl:DSt->M (List D)}{pos:Pos}{st:Stmt}{rest:List Stmt}{g g1 g2:DSt->M Out}{tc:DSt->M Bool}
theorem jff:DSs X O O B E [] gNx:=by
 rintro pins s σ H Dn I ⟨ρ,Hz,F,δ,r,R,hf,h⟩;cases hf;exact jpe pins s σ H Dn I (h σ H (Same.refl _) R)
theorem jal(h1:DS X O O' B E st g1)(h2:DSs X O' O'' B E rest g2):DSs X O O'' B E (st::rest) (gSeq g1 g2):=by
 rintro pins s σ H Dn I ⟨ρ,Hz,F,δ,r,R,hf,h⟩;refine jji h1 h2 pins s σ H Dn I ?_;rcases M.b_inv hf with ⟨o,e1,hf⟩|⟨x,e1,rfl⟩
 ·refine⟨ρ,Hz,F,δ,.ok o,R,e1,?_⟩
  cases o with
  | nx δ'=>exact fun σ' H' f R'=>⟨ρ,Hz,F,δ',r,R',hf,h.back f⟩
  | rt d=>cases hf;exact h
  | bk δ'=>cases hf;exact h
  | ct δ'=>cases hf;exact h
 ·exact⟨ρ,Hz,F,δ,.error x,R,e1,h⟩
theorem jaq(h1:DS X O O' B E st g):DSs X O O' B E [st] g:=fun pins s σ H Dn I h=>jjj h1 pins s σ H Dn I h
theorem ji9{sts:List Stmt}(hO:∀ i∈O',i∈O)(h:DSs X O' O'' B E sts g):DSs X O O'' B E sts g:=by
 rintro pins s σ H Dn I ⟨ρ,Hz,F,δ,r,R,hf,k⟩;refine h pins s σ H Dn I ⟨ρ,Hz,F,δ,r,R.thaw hO,hf,k.back (jfe fun b q=>?_)⟩;rcases fob_t.mp q with q|⟨i,hi,q⟩
 ·exact fob_t.mpr (.inl q)
 ·exact fob_t.mpr (.inr ⟨i,hO i hi,q⟩)
theorem jmk{F:Addr->Bool}{σ:St}{H H':Hp}{i:Nat}{v:V}(ho:i∉O)(s1:Same H H'):Same (hid H (fob F σ O)) (hid H' (fob F (σ.set i (some v)) O)):=by
 rw[jcv ho];exact jas s1
theorem jbd{i:Nat}{x:Str}{pos':Pos}(hN:X.N.Nodup)(he:DE X O E e fa)(ho:autoParam (O.contains i=false) zau2._auto_1)(hi:autoParam (X.N[i]? = some x) zau2._auto_1)(hx:autoParam (Loc X.env.scope x) zau8._auto_1)(hs:autoParam (swapsWith e (some (.Name x pos')) pos.line X.env=pure false) zau2._auto_1)
  (hf:autoParam (X.fn x=true\/X.env.scope.names.lookup x=some .local) zau0._auto_1):DS X O O B E (.Assign [.Name x pos'] e pos) (gSet i fa):=by
 rintro pins s σ H Dn I ⟨ρ,Hz,F,δ,r,R,hg,k⟩;have ho':i∉O:=fun z=>by rw[zbc.mpr z] at ho;cases ho
 refine jpd hN hi hx he hs hf pins s σ H Dn I ?_;rcases M.b_inv hg with ⟨d,e1,hg⟩|⟨y,e1,rfl⟩
 ·cases hg;exact⟨ρ,Hz,F,δ,.ok d,R,e1,fun v H' s' r'=>k _ H' (jmk ho' s') ((R.mono s').set ho' r')⟩
 ·exact⟨ρ,Hz,F,δ,.error y,R,e1,k⟩
theorem jma{i:Nat}{x:Str}{pos' pos2:Pos}(hN:X.N.Nodup)(h:DA X O E es fl)(ho:autoParam (O.contains i=false) zau2._auto_1)(hi:autoParam (X.N[i]? = some x) zau2._auto_1)(hx:autoParam (Loc X.env.scope x) zau8._auto_1)(hs:autoParam (swapsWith (.List es pos2) (some (.Name x pos')) pos.line X.env=pure false) zau2._auto_1)
  (hf:autoParam (X.fn x=true\/X.env.scope.names.lookup x=some .local) zau0._auto_1):DS X O (i::O) B E (.Assign [.Name x pos'] (.List es pos2) pos) (gSet i (fL jb9 fl)):=by
 rintro pins s σ H Dn I ⟨ρ,Hz,F,δ,r,R,hg,k⟩;have ho':i∉O:=fun z=>by rw[zbc.mpr z] at ho;cases ho
 have hl:i<δ.length:=by rw[<- R.len,I.len];exact (zbb.mp hi).1
 refine jpd hN hi hx (jr8 h) hs hf pins s σ H Dn I ?_;rcases M.b_inv hg with ⟨d,e1,hg⟩|⟨y,e1,rfl⟩
 ·cases hg;rcases M.b_inv e1 with ⟨ds,e1,hd⟩|⟨y,e1,z⟩
  ·refine⟨ρ,Hz,F,δ,.ok ds,R,e1,fun vs H1 s1 r1=>?_⟩;obtain⟨d',hd',z⟩:=M.o_inv hd;cases z;unfold jb9 at hd'
   split at hd'
   ·rename_i hz;cases hd';refine⟨by rw[r1.length];exact hz,fun p hp=>?_⟩;refine k _ _ ?_ (R.take ho' hl s1 hp r1);have pf:=(R.mono s1).fresh hp;have lσ:i<σ.length:=by rw[R.len];exact hl
    intro b o q;obtain⟨q1,q2⟩:=hid_some.mp q;have q3:=s1 b o q2;have hb:b≠p:=ja1 q3 hp;refine hid_some.mpr ⟨?_,by rw[jag hb];exact q3⟩
    cases z:fob F (σ.set i (some (.ref p))) (i::O) b with
    | false=>rfl
    | true =>
     rcases fob_t.mp z with z|⟨j,hj,z⟩
     ·rw[fob_t.mpr (.inl z)] at q1;cases q1
     ·rcases List.mem_cons.mp hj with rfl|hj
      ·rw[zcz lσ] at z;cases z;exact absurd rfl hb
      ·rw[zbw (by rintro rfl;exact ho' hj)] at z;rw[fob_t.mpr (.inr ⟨j,hj,z⟩)] at q1;cases q1
   ·cases hd'
  ·cases z
 ·rcases M.b_inv e1 with ⟨ds,e1,hd⟩|⟨y',e1,z⟩
  ·obtain⟨_,_,z⟩:=M.o_inv hd;cases z
  ·cases z;exact⟨ρ,Hz,F,δ,.error _,R,e1,k⟩
theorem ja6(he:DE X O E e fa):DS X O O' B E (.Return (some e) pos) (gRet fa):=by
 rintro pins s σ H Dn I ⟨ρ,Hz,F,δ,r,R,hg,k⟩;refine jsd he pins s σ H Dn I ?_;rcases M.b_inv hg with ⟨d,e1,hg⟩|⟨y,e1,rfl⟩
 ·cases hg;exact⟨ρ,Hz,F,δ,.ok d,R,e1,fun v H' s' r'=>k v H' (R.same.trans s') (r'.mono (jfe fun b q=>fob_t.mpr (.inl q)))⟩
 ·exact⟨ρ,Hz,F,δ,.error y,R,e1,k⟩
theorem jk7{s1 s2:List Stmt}(hc:DT X O E c tc)(h1:DSs X O O' B E s1 g1)(h2:DSs X O O' B E s2 g2):DS X O O' B E (.If c s1 s2 pos) (gIf tc g1 g2):=by
 rintro pins s σ H Dn I ⟨ρ,Hz,F,δ,r,R,hg,k⟩;refine jug hc h1 h2 pins s σ H Dn I ?_;rcases M.b_inv hg with ⟨z,e1,hg⟩|⟨y,e1,rfl⟩
 ·refine⟨ρ,Hz,F,δ,.ok z,R,e1,fun H1 s1=>?_⟩
  cases z with
  | true=>exact iteT ⟨ρ,Hz,F,δ,r,R.mono s1,hg,k.back (jas s1)⟩
  | false=>exact iteF ⟨ρ,Hz,F,δ,r,R.mono s1,hg,k.back (jas s1)⟩
 ·exact⟨ρ,Hz,F,δ,.error y,R,e1,k⟩
theorem jl9{i:Nat}{x:Str}{p1 p2 p3:Pos}(ho:O.contains i=true)(he:DE X O E e fa)(hi:autoParam (X.N[i]? = some x) zau2._auto_1)(hv:autoParam (Vis X.env.scope x) zau5._auto_1)
  (hd:autoParam ((x == ("__debug__":Str))=false) zau1._auto_1) (hcd:autoParam ((x == ("__classdict__":Str))=false) zau1._auto_1) (hbase:autoParam (attributeBase (.Name x p1) "append" X.env (eval (.Name x p1) X.env)=eval (.Name x p1) X.env) zau2._auto_1)
  (hfew:((backTo p3 (starEach [e] X.env)).all (fun x=>!x.1)&&(backToKw p3 (keywordEach [] X.env)).all (fun x=>x.1.isSome)
   && decide ([e].length+([]:List Keyword).length+(if ([]:List Keyword).isEmpty then 0 else 1)<30))=true:=by rfl)
  (hline:autoParam ((p2.endLine == p3.line)=true) zau2._auto_1) (hs:autoParam (starEach [e] X.env=[(false,eval e X.env)]) zau2._auto_1) (hsw:autoParam (swapsWith (.Call (.Attribute (.Name x p1) "append" p2) [e] [] p3) none pos.line X.env=pure false) zau2._auto_1) :
  DS X O O B E (.Expr (.Call (.Attribute (.Name x p1) "append" p2) [e] [] p3) pos) (gApp i fa):=by
 rintro pins s σ H Dn I ⟨ρ,Hz,F,δ,r,R,hg,k⟩;have ho':i∈O:=zbc.mp ho;obtain⟨l,xs0,ds0,q1,q2,q3,q4,q5⟩:=R.own i ho';refine jpc (jyw PySem.F.plainAttrs_list PySem.F.slot_list_append PySem.F.type_list_append jhu (jo8 hi hv hd hcd) (jdo he jhz hs) hbase hfew hline hs rfl) hsw pins s σ H Dn I ?_;refine⟨.ref l,q2,.inl ⟨rfl,_,SqL.of q3⟩,?_⟩;rcases M.b_inv hg with ⟨d,e1,hg⟩|⟨y,e1,rfl⟩
 ·refine⟨ρ,Hz,F,δ,.ok d,R,e1,fun v H1 s1 r1=>?_⟩;have hj:(δ[i]?).join=some (.lst ds0):=by rw[q1];rfl
  rw[hj] at hg;dsimp only at hg
  split at hg
  ·rename_i hz;cases hg;have R1:=R.mono s1;obtain⟨l',xs,ds,p1,p2,p3,p4,p5⟩:=R1.own i ho';rw[q2] at p2;cases p2
   rw[q1] at p1;cases p1
   refine⟨l,xs,v,rfl,rfl,p3,by rw[p5.length];exact hz,?_⟩;refine k σ _ ?_ (R1.write ho' q2 (p5.append (Reps.cons r1 Reps.nil)));rw[jgf (fob_t.mpr (.inr ⟨i,ho',q2⟩))];exact jas s1
  ·cases hg
 ·exact⟨ρ,Hz,F,δ,.error y,R,e1,k⟩
inductive tG(K:W.Frag)(O:List Nat)(h:D->DSt->Option DSt)(v:V)(σ:St)(H:Hp)(Q:St->Hp->Prop):Prop
 | mk (ρ:Rho) (Hz:Hp) (F:Addr->Bool) (δ:DSt) (d:D) (δ':DSt) (R:RS ρ K Hz H F O σ δ) (hr:Rep ρ K (hid H (fob F σ O)) d v) (hf:h d δ=some δ') (k:∀ σ',fob F σ' O=fob F σ O->RS ρ K Hz H F O σ' δ'->Q σ' H)
noncomputable def DG(X:Cx)(O:List Nat)(tg:Expr)(h:D->DSt->Option DSt):Prop:=PG X tg (tG X.K O h)
noncomputable def gName(i:Nat):D->DSt->Option DSt:=fun d δ=>some (δ.set i (some d))
noncomputable def jdg(i j:Nat):D->DSt->Option DSt:=fun d δ=>match d with
 | .tup [x,y]=>some ((δ.set i (some x)).set j (some y))
 | _=>none
theorem jbw{i:Nat}{x:Str}(hN:X.N.Nodup)(ho:autoParam (O.contains i=false) zau2._auto_1)(hi:autoParam (X.N[i]? = some x) zau2._auto_1)(hx:autoParam (Loc X.env.scope x) zau8._auto_1)
  (hf:autoParam (X.fn x=true\/X.env.scope.names.lookup x=some .local) zau0._auto_1):DG X O (.Name x pos) (gName i):=by
 rintro pins s σ H v u Q I r ⟨ρ,Hz,F,δ,d,δ',R,rd,e,k⟩;have ho':i∉O:=fun z=>by rw[zbc.mpr z] at ho;cases ho
 cases e;exact jlp hN hi hx hf pins s σ H v u Q I r (k _ (jcv ho') (R.set ho' rd))
theorem jf9{i j:Nat}{x y:Str}{px py:Pos}{kk:Nat}(hc:X.calm=true)(hN:X.N.Nodup)(ho:autoParam (O.contains i=false) zau2._auto_1)(ho2:autoParam (O.contains j=false) zau2._auto_1)(hi:autoParam (X.N[i]? = some x) zau2._auto_1)(hj:autoParam (X.N[j]? = some y) zau2._auto_1)
  (hx:autoParam (Loc X.env.scope x) zau8._auto_1) (hy:autoParam (Loc X.env.scope y) zau8._auto_1)
  (hf:autoParam (X.fn x=true\/X.env.scope.names.lookup x=some .local) zau0._auto_1) (hf2:autoParam (X.fn y=true\/X.env.scope.names.lookup y=some .local) zau0._auto_1) :
  DG X O (.Tuple [.Name x px,.Name y py] kk pos) (jdg i j):=by
 rintro pins s σ H v u Q I r ⟨ρ,Hz,F,δ,d,δ',R,rd,e,k⟩;have ho':i∉O:=fun z=>by rw[zbc.mpr z] at ho;cases ho
 have ho2':j∉O:=fun z=>by rw[zbc.mpr z] at ho2;cases ho2
 unfold jdg at e
 split at e
 ·rename_i d1 d2;cases e;obtain⟨p,xs,rfl,q2,q3⟩:=rep_tup.mp rd;obtain⟨v1,xs1,rfl,r1,q3⟩:=reps_cons.mp q3;obtain⟨v2,xs2,rfl,r2,q3⟩:=reps_cons.mp q3;cases reps_nil.mp q3;refine jwx hc (jmf (jlp hN hi hx hf) (jmf (jlp hN hj hy hf2) jue)) rfl rfl pins s σ H _ u Q I r ?_;refine⟨p,_,rfl,jdj jam q2,rfl,v1,_,rfl,v2,_,rfl,rfl,?_⟩;have e2:fob F ((σ.set i (some v1)).set j (some v2)) O=fob F σ O:=(jcv ho2').trans (jcv ho');refine k _ e2 ?_;have R1:=R.set ho' r1;exact R1.set ho2' (by rw[jcv ho'];exact r2)
 ·cases e
noncomputable def ItD(ρ:Rho)(K:W.Frag)(J:It)(ds:List D)(Hv:Hp):Prop:=∀ (H':Hp) (G':Addr->Bool) (i:Nat),Same Hv (hid H' G')->(∀ p,H' p=none->G' p=false) ->
 (i<ds.length->J.go i H'/\∀ x H2,J.yld i H' x H2->Same H' H2/\∃ d,ds[i]? = some d/\Rep ρ K (hid H2 G') d x)/\(i=ds.length->J.stop i H')
inductive tI(K:W.Frag)(O:List Nat)(E:XK)(f:DSt->M (List D))(σ:St)(H:Hp)(Q:It->Hp->Prop):Prop
 | mk (ρ:Rho) (Hz:Hp) (F:Addr->Bool) (δ:DSt) (r:Except XD (List D)) (R:RS ρ K Hz H F O σ δ) (hf:f δ=some r) (k:match (generalizing:=false) r with
  | .ok ds=>∀ J H',Same H H'->ItD ρ K J ds (hid H' (fob F σ O))->Q J H'
  | .error x=>okX K Hz E x)
noncomputable def DI(X:Cx)(O:List Nat)(E:XK)(tg iter:Expr)(f:DSt->M (List D)):Prop:=PI X tg iter (tI X.K O E f)
theorem jhi{tg iter:Expr}{body:List Stmt}{fi:DSt->M (List D)}{h:D->DSt->Option DSt}(hp:PassesOwn (model X.prog X.w) X.A X.env X.xe)(hc:X.calm=true)(hi:DI X O E tg iter fi)(hg:DG X O tg h)(hb:DSs X O O O E body g)
  (hs:autoParam (∀ x,foldedSetIterable iter X.env x=pure x) zau3._auto_1):DS X O O B E (.For tg iter body [] pos) (gFor fi h g):=by
 rintro pins s σ H Dn I ⟨ρ,Hz,F,δ,r,R,hgf,k⟩;refine jsc hp hc hi hg hb hs pins s σ H Dn I ?_;rcases M.b_inv hgf with ⟨ds,e1,hgf⟩|⟨y,e1,rfl⟩
 ·refine⟨ρ,Hz,F,δ,.ok ds,R,e1,fun J H1 s1 it=>?_⟩;refine⟨fun i m σ' H'=>m=ds.length-i/\i<=ds.length/\∃ δ',RS ρ X.K Hz H' F O σ' δ'/\Same (hid H1 (fob F σ O)) (hid H' (fob F σ' O))/\forD g h (ds.drop i) δ'=some r,⟨ds.length,by simp,Nat.zero_le _,δ,R.mono s1,Same.refl _,hgf⟩,?_⟩;rintro i m σ' H' ⟨rfl,hil,δ',R',f',hr⟩;obtain⟨j1,j2⟩:=it H' (fob F σ' O) i f' (fun p hp=>R'.fresh hp)
  by_cases hlt:i<ds.length
  ·obtain⟨go,yld⟩:=j1 hlt;refine .inr ⟨go,fun σ2 H2=>∃ δ2,RS ρ X.K Hz H2 F O σ2 δ2/\Same (hid H1 (fob F σ O)) (hid H2 (fob F σ2 O))/\forD g h (ds.drop (i+1)) δ2=some r,fun σ2 H2 ⟨δ2,a1,a2,a3⟩=>⟨ds.length-(i+1),by omega,rfl,hlt,δ2,a1,a2,a3⟩,fun x H2 y=>?_⟩;obtain⟨s2,d,hd,rd⟩:=yld x H2 y;have hdr:ds.drop i=d::ds.drop (i+1):=by
    rw[List.drop_eq_getElem_cons hlt];have:ds[i]=d:=by rw[zax hlt] at hd;exact zby hd
    rw[this]
   rw[hdr] at hr;unfold forD at hr
   cases e2:h d δ' with
   | none=>rw[e2] at hr;cases hr
   | some δ1 =>
    rw[e2] at hr;dsimp only at hr;have f2:Same (hid H1 (fob F σ O)) (hid H2 (fob F σ' O)):=f'.trans (jas s2);refine⟨ρ,Hz,F,δ',d,δ1,R'.mono s2,rd,e2,fun σ3 ef R3=>?_⟩;rcases M.b_inv hr with ⟨o,e3,hr⟩|⟨y,e3,rfl⟩
    ·refine⟨ρ,Hz,F,δ1,.ok o,R3,e3,?_⟩;rw[ef]
     cases o with
     | nx δ4=>exact fun σ4 H4 f4 R4=>⟨δ4,R4,f2.trans f4,hr⟩
     | ct δ4=>exact fun σ4 H4 f4 R4=>⟨δ4,R4,f2.trans f4,hr⟩
     | bk δ4=>cases hr;exact fun σ4 H4 f4 R4=>k σ4 H4 ((jas s1).trans (f2.trans f4)) R4
     | rt v=>cases hr;exact k
    ·exact⟨ρ,Hz,F,δ1,.error y,R3,e3,k⟩
  ·have ei:i=ds.length:=by omega
   subst ei;rw[List.drop_length] at hr;cases hr;exact .inl ⟨j2 rfl,k σ' H' ((jas s1).trans f') R'⟩
 ·exact⟨ρ,Hz,F,δ,.error y,R,e1,k⟩
end
end DL
namespace L2
open PySem PySem.Spec PyProof.Rows
noncomputable def ItOn(k:Bool)(h:Heap)(it l:Addr)(i:Nat):Prop:=if k=true then h.IsTupleIter it l i else h.IsListIter it l i
noncomputable def SrcOn(k:Bool)(h:Heap)(l:Addr)(xs:Array Value):Prop:=if k=true then h.IsTuple l xs else h.IsList l xs
theorem ItOn.mv{k:Bool}{h h':Heap}{it l:Addr}{i:Nat}(x:ItOn k h it l i)(e:∀ o,h.get? it=some o->h'.get? it=some o):ItOn k h' it l i:=by
 cases k with
 | true=>exact Heap.IsTupleIter.at (h:=h) x e
 | false=>exact Heap.IsListIter.at (h:=h) x e
theorem SrcOn.mv{k:Bool}{h h':Heap}{l:Addr}{xs:Array Value}(x:SrcOn k h l xs)(e:∀ o,h.get? l=some o->h'.get? l=some o):SrcOn k h' l xs:=by
 cases k with
 | true=>exact Heap.IsTuple.at (h:=h) x e
 | false=>exact Heap.IsList.at (h:=h) x e
theorem ItOn.ob{k:Bool}{h:Heap}{it l:Addr}{i:Nat}(x:ItOn k h it l i):∃ o vs,h.get? it=some o/\o.data=.fields vs:=by
 cases k with
 | true=>obtain⟨o,e,_,d⟩:=(x:h.IsTupleIter it l i);exact⟨o,_,e,d⟩
 | false=>obtain⟨o,e,_,d⟩:=(x:h.IsListIter it l i);exact⟨o,_,e,d⟩
section
variable {prog:Program}{w:World}{A:Around}{E:Value->Shared->Prop}{s:Shared}
theorem jm3{it l:Addr}{i:Nat}{items:Array Value}{x:Value}{Q:Value->Shared->Prop}(hi:s.heap.IsTupleIter it l i)(hl:s.heap.IsTuple l items)(hx:items[i]? = some x)
  (hQ:∀ h',h'.IsTupleIter it l (i+1)->Heap.SameBut it s.heap h'->Q x { s with heap:=h' }):wpAny (model prog w) A (Builtin.SmallTypes.nextOf (.ref it)) Q E s:=by
 obtain⟨ob,eo,oc,od⟩:=id hi;obtain⟨tl,el,_,nl,dl⟩:=hl;unfold Builtin.SmallTypes.nextOf;refine zay (wpAny_callSpecial?_slot (name:=Str.ofString "__next__") hi.typeIs F.slot_tuple_iterator_next (wpAny_call_entry F.slot_tuple_iterator_next hi.typeIs F.entry_tuple_iterator_next ?_ (F.args_tuple_iterator_next_1 _)));show wpAny _ _ (field (.ref it) 0 >>= _) _ _ s;refine zay (wpAny_field eo od (x:=.ref l) rfl ?_);show wpAny _ _ (if (Value.ref l == Value.none)=true then _ else _) _ _ s;rw[if_neg (show ¬ ((Value.ref l == Value.none)=true) from fun q=>Bool.false_ne_true q)];show wpAny _ _ (field (.ref it) 1 >>= _) _ _ s;refine zay (wpAny_field eo od (x:=.int i 0) rfl (show wpAny _ _ (seqItems? (.ref l) >>= _) _ _ s from zay (wpAny_seqItems el dl ?_)));simp only[Int.toNat_natCast,hx];refine zay (wpAny_setField eo od (by simp) (zab ⟨x,rfl,zab (hQ _ ⟨_,Heap.get?_update_self _ eo (Obj.isFreed_of_fields (Obj.data_mapFields od _)),(Obj.cls_mapFields ..).trans oc,?_⟩ (Heap.SameBut.update ..))⟩));rw[Obj.data_mapFields od];simp[rawInt]
theorem jij{it l:Addr}{i:Nat}{items:Array Value}{Q:Value->Shared->Prop}(hh:A.handled=none)(hi:s.heap.IsTupleIter it l i)(hl:s.heap.IsTuple l items)(hx:items[i]? = none)
  (hE:∀ h' e,Heap.ExtBut it s.heap h'->(∃ o,h'.get? e=some o/\o.cls=.type "StopIteration")->E (.ref e) { s with heap:=h' }):wpAny (model prog w) A (Builtin.SmallTypes.nextOf (.ref it)) Q E s:=by
 obtain⟨ob,eo,oc,od⟩:=id hi;obtain⟨tl,el,_,nl,dl⟩:=hl;unfold Builtin.SmallTypes.nextOf;refine zay (wpAny_callSpecial?_slot (name:=Str.ofString "__next__") hi.typeIs F.slot_tuple_iterator_next (wpAny_call_entry F.slot_tuple_iterator_next hi.typeIs F.entry_tuple_iterator_next ?_ (F.args_tuple_iterator_next_1 _)));show wpAny _ _ (field (.ref it) 0 >>= _) _ _ s;refine zay (wpAny_field eo od (x:=.ref l) rfl ?_);show wpAny _ _ (if (Value.ref l == Value.none)=true then _ else _) _ _ s;rw[if_neg (show ¬ ((Value.ref l == Value.none)=true) from fun q=>Bool.false_ne_true q)];show wpAny _ _ (field (.ref it) 1 >>= _) _ _ s;refine zay (wpAny_field eo od (x:=.int i 0) rfl (show wpAny _ _ (seqItems? (.ref l) >>= _) _ _ s from zay (wpAny_seqItems el dl ?_)));simp only[Int.toNat_natCast,hx];refine zay (wpAny_rule (zay (wpAny_setField eo od (by simp) ?_)));show wpAny _ _ (newExc (.type "StopIteration") [] >>= _) _ _ _;refine zay ?_;simp only[newExc,newTuple];refine zay (wpAny_newObj_type (zay (m:=firstArgMember _ _) (wpAny_of_eq (a:=Value.none) (by first|rfl|(simp only[firstArgMember];rfl)) (wpAny_newObj_type ?_ (by size_fits)))) (by size_fits));simp only[raiseNew];refine zay (wpAny_handled ?_)
 first|rw[show A.in1.handled=none from hh]|rw[hh]
 exact zay (zab (wpAny_throw (hE _ _ (((Heap.SameBut.update ..).extBut.push _).push _) ⟨_,zbz _ rfl,rfl⟩)))
theorem jhv{k:Bool}{it l:Addr}{i:Nat}{items:Array Value}{x:Value}{Q:Value->Shared->Prop}(hi:ItOn k s.heap it l i)(hl:SrcOn k s.heap l items)(hx:items[i]? = some x)
  (hQ:∀ h',ItOn k h' it l (i+1)->Heap.SameBut it s.heap h'->Q x { s with heap:=h' }):wpAny (model prog w) A (Builtin.SmallTypes.nextOf (.ref it)) Q E s:=by
 cases k with
 | true=>exact jm3 hi hl hx hQ
 | false=>exact wpAny_nextOf_list_item hi hl hx hQ
theorem jf4{k:Bool}{it l:Addr}{i:Nat}{items:Array Value}{Q:Value->Shared->Prop}(hh:A.handled=none)(hi:ItOn k s.heap it l i)(hl:SrcOn k s.heap l items)(hx:items[i]? = none)
  (hE:∀ h' e,Heap.ExtBut it s.heap h'->(∃ o,h'.get? e=some o/\o.cls=.type "StopIteration")->E (.ref e) { s with heap:=h' }):wpAny (model prog w) A (Builtin.SmallTypes.nextOf (.ref it)) Q E s:=by
 cases k with
 | true=>exact jij hh hi hl hx hE
 | false=>exact wpAny_nextOf_list_end hh hi hl hx hE
theorem jof{k:Bool}{l:Addr}{xs:Array Value}{Q:Value->Shared->Prop}(hl:SrcOn k s.heap l xs)
  (h:∀ o,ItOn k (s.heap.push o) s.heap.objs.size l 0->Q (.ref s.heap.objs.size) { s with heap:=s.heap.push o }):wpAny (model prog w) A (pyIter (.ref l)) Q E s:=by
 cases k with
 | true=>exact wpAny_pyIter_tuple hl (h _ ⟨_,zbz _ rfl,rfl,rfl⟩)
 | false=>exact wpAny_pyIter_list hl (h _ ⟨_,zbz _ rfl,rfl,rfl⟩)
structure ZFar(z TI TO i1 i2:Addr):Prop where
 a1:TI≠z
 a2:TO≠z
 a3:i1≠z
 a4:i2≠z
 a5:TI≠TO
 a6:TI≠i1
 a7:TI≠i2
 a8:TO≠i1
 a9:TO≠i2
 a10:i1≠i2
noncomputable def LFar(z TO i1 i2 l:Addr):Prop:=l≠z/\l≠TO/\l≠i1/\l≠i2
theorem jrm{k1 k2:Bool}{z TI TO i1 i2 l1 l2:Addr}{n1 n2:Nat}{xs ys:Array Value}{x y a b:Value}{Q:Value->Shared->Prop}(D:ZFar z TI TO i1 i2)(d1:LFar z TO i1 i2 l1)(d2:LFar z TO i1 i2 l2)
  (hz:IsZip s.heap z TI TO .none) (ht:IsPair s.heap TI (.ref i1) (.ref i2)) (hu:IsPair s.heap TO a b) (j1:ItOn k1 s.heap i1 l1 n1) (j2:ItOn k2 s.heap i2 l2 n2) (c1:SrcOn k1 s.heap l1 xs) (c2:SrcOn k2 s.heap l2 ys)
  (hx:xs[n1]? = some x) (hy:ys[n2]? = some y)
  (hQ:∀ h',IsZip h' z TI TO (rawInt s.heap.objs.size)->IsPair h' TO x y->ItOn k1 h' i1 l1 (n1+1)->ItOn k2 h' i2 l2 (n2+1)->IsPair h' s.heap.objs.size x y ->
   (∀ c o,c≠z->c≠TO->c≠i1->c≠i2->s.heap.get? c=some o->h'.get? c=some o)->Q (.ref s.heap.objs.size) { s with heap:=h' }) :
  wpAny (model prog w) A (Builtin.«zip.__next__» ⟨[.ref z],[]⟩) (fun fin s'=>∃ v,fin=.done (.ret v)/\Q v s') E s:=by
 show wpAny _ _ (field (.ref z) 2 >>= _) _ _ _;refine zay (wpAny_field hz rfl (x:=.bool false) rfl (show wpAny _ _ (field (.ref z) 3 >>= _) _ _ _ from zay (wpAny_field hz rfl (x:=.ref TI) rfl (zay (wpAny_seqItems ht rfl ?_)))));show wpAny _ _ (Builtin.SmallTypes.ownedTupleIsFree (.ref z) >>= _) _ _ _;refine zay ?_;unfold Builtin.SmallTypes.ownedTupleIsFree;refine zay (wpAny_field hz rfl (x:=.none) rfl (zab ?_));simp only[if_true];refine zay (wpAny_rule (zay (wpAny_field hz rfl (x:=.ref TO) rfl (zay (wpAny_setField_rec hz (by simp) fun g1 z1 e1=>zay ?_)))))
 replace z1:IsZip g1 z TI TO .ellipsis:=z1
 simp only[List.zipIdx_cons,List.zipIdx_nil,List.forIn_cons,List.forIn_nil];refine zay (zay (wpAny_onRaise (show wpAny _ _ (Builtin.SmallTypes.nextOf (.ref i1) >>= _) _ _ _ from ?_)));refine zay (jhv (j1.mv fun o q=>e1.extBut _ _ D.a3 q) (c1.mv fun o q=>e1.extBut _ _ d1.1 q) hx fun g2 m1 e2=>zab ?_);have u2:IsPair g2 TO a b:=e2.extBut _ _ D.a8 (e1.extBut _ _ D.a2 hu);refine zay (wpAny_seqItems u2 rfl (zay (wpAny_updateSeq_pair u2 fun g3 u3 e3=>zay (wpAny_letGo (zab ?_)))))
 replace u3:IsPair g3 TO x b:=u3
 have up3:∀ c o,c≠z->c≠TO->c≠i1->s.heap.get? c=some o->g3.get? c=some o:=fun c o p1 p2 p3 q=>e3.extBut _ _ p2 (e2.extBut _ _ p3 (e1.extBut _ _ p1 q))
 refine zay (zay (wpAny_onRaise (show wpAny _ _ (Builtin.SmallTypes.nextOf (.ref i2) >>= _) _ _ _ from ?_)));refine zay (jhv (j2.mv fun o q=>up3 _ o D.a4 D.a9.symm D.a10.symm q) (c2.mv fun o q=>up3 _ o d2.1 d2.2.1 d2.2.2.1 q) hy fun g4 m2 e4=>zab ?_);have u4:IsPair g4 TO x b:=e4.extBut _ _ D.a9 u3;refine zay (wpAny_seqItems u4 rfl (zay (wpAny_updateSeq_pair u4 fun g5 u5 e5=>zay (wpAny_letGo (zab (zab ?_))))))
 replace u5:IsPair g5 TO x y:=u5
 refine zay (wpAny_seqItems u5 rfl (zay (wpAny_newTuple ?_)));have sz:g5.objs.size=s.heap.objs.size:=by rw[e5.1,e4.1,e3.1,e2.1,e1.1]
 have z5:IsZip g5 z TI TO .ellipsis:=e5.extBut _ _ D.a2.symm (e4.extBut _ _ D.a4.symm (e3.extBut _ _ D.a2.symm (e2.extBut _ _ D.a3.symm z1)));have up5:∀ c o,c≠z->c≠TO->c≠i1->c≠i2->s.heap.get? c=some o->g5.get? c=some o:=fun c o p1 p2 p3 p4 q=>e5.extBut _ _ p2 (e4.extBut _ _ p4 (up3 c o p1 p2 p3 q))
 have m15:ItOn k1 g5 i1 l1 (n1+1):=m1.mv fun o q=>e5.extBut _ _ D.a8.symm (e4.extBut _ _ D.a10 (e3.extBut _ _ D.a8.symm q))
 have m25:ItOn k2 g5 i2 l2 (n2+1):=m2.mv fun o q=>e5.extBut _ _ D.a9.symm q
 have zlt:z<g5.objs.size:=zbv z5;show wpAny _ _ (Builtin.SmallTypes.ownedTupleHandOut (.ref z) (.ref g5.objs.size) >>= _) _ _ _;refine zay ?_;unfold Builtin.SmallTypes.ownedTupleHandOut;have z6:IsZip (g5.push { cls:=.type "tuple",data:=.seq #[x,y] }) z TI TO .ellipsis:=zaz _ z5;refine zay (wpAny_setField_rec z6 (by simp) fun g7 z7 e7=>?_)
 replace z7:IsZip g7 z TI TO (rawInt g5.objs.size):=z7
 refine wpAny_setField_rec z7 (by simp) fun g8 z8 e8=>?_
 replace z8:IsZip g8 z TI TO (rawInt g5.objs.size):=z8
 have up8:∀ c o,c≠z->g5.get? c=some o->g8.get? c=some o:=fun c o p1 q=>e8.extBut _ _ p1 (e7.extBut _ _ p1 (zaz _ q))
 have t8:IsPair g8 g5.objs.size x y:=e8.extBut _ _ (Nat.ne_of_gt zlt) (e7.extBut _ _ (Nat.ne_of_gt zlt) (zbz _ rfl));rw[sz] at z8 t8;refine zab ⟨_,rfl,?_⟩;show Q (.ref g5.objs.size) _;rw[sz];exact hQ g8 z8 (up8 _ _ D.a2 u5) (m15.mv fun o q=>up8 _ o D.a3 q) (m25.mv fun o q=>up8 _ o D.a4 q) t8 fun c o p1 p2 p3 p4 q=>up8 c o p1 (up5 c o p1 p2 p3 p4 q)
theorem ju3{k1 k2:Bool}{z TI TO i1 i2 l1 l2:Addr}{n1 n2:Nat}{xs ys:Array Value}{a b:Value}{Q:PySem.Fin->Shared->Prop}(hh:A.handled=none)(D:ZFar z TI TO i1 i2)(d1:LFar z TO i1 i2 l1)(d2:LFar z TO i1 i2 l2)
  (hz:IsZip s.heap z TI TO .none) (ht:IsPair s.heap TI (.ref i1) (.ref i2)) (hu:IsPair s.heap TO a b) (j1:ItOn k1 s.heap i1 l1 n1) (j2:ItOn k2 s.heap i2 l2 n2) (c1:SrcOn k1 s.heap l1 xs) (c2:SrcOn k2 s.heap l2 ys)
  (hend:xs[n1]? = none\/ys[n2]? = none)
  (hE:∀ h' e,(∀ c o,c≠z->c≠TO->c≠i1->c≠i2->s.heap.get? c=some o->h'.get? c=some o)->(∃ o,h'.get? e=some o/\o.cls=.type "StopIteration")->E (.ref e) { s with heap:=h' }) :
  wpAny (model prog w) A (Builtin.«zip.__next__» ⟨[.ref z],[]⟩) Q E s:=by
 show wpAny _ _ (field (.ref z) 2 >>= _) _ _ _;refine zay (wpAny_field hz rfl (x:=.bool false) rfl (show wpAny _ _ (field (.ref z) 3 >>= _) _ _ _ from zay (wpAny_field hz rfl (x:=.ref TI) rfl (zay (wpAny_seqItems ht rfl ?_)))));show wpAny _ _ (Builtin.SmallTypes.ownedTupleIsFree (.ref z) >>= _) _ _ _;refine zay ?_;unfold Builtin.SmallTypes.ownedTupleIsFree;refine zay (wpAny_field hz rfl (x:=.none) rfl (zab ?_));simp only[if_true];refine zay (wpAny_rule (zay (wpAny_field hz rfl (x:=.ref TO) rfl (zay (wpAny_setField_rec hz (by simp) fun g1 z1 e1=>zay ?_)))))
 replace z1:IsZip g1 z TI TO .ellipsis:=z1
 simp only[List.zipIdx_cons,List.zipIdx_nil,List.forIn_cons,List.forIn_nil];refine zay (zay (wpAny_onRaise (show wpAny _ _ (Builtin.SmallTypes.nextOf (.ref i1) >>= _) _ _ _ from ?_)))
 cases hx:xs[n1]? with
 | none =>
  refine zay (jf4 hh (j1.mv fun o q=>e1.extBut _ _ D.a3 q) (c1.mv fun o q=>e1.extBut _ _ d1.1 q) hx fun g2 e f2 he=>?_);obtain⟨oe,q1,q2⟩:=he;have z2:IsZip g2 z TI TO .ellipsis:=f2 _ _ D.a3.symm z1;have nez:e≠z:=fun p=>by subst p;rw[z2] at q1;cases q1;simp at q2
  exact wpAny_setField_rec z2 (by simp) fun g3 _ e3=>hE g3 e (fun c o p1 _ p3 _ q=>e3.extBut _ _ p1 (f2 _ _ p3 (e1.extBut _ _ p1 q))) ⟨oe,e3.extBut _ _ nez q1,q2⟩
 | some x =>
  have hy:ys[n2]? = none:=by rcases hend with h|h;rw[hx] at h;cases h;exact h
  refine zay (jhv (j1.mv fun o q=>e1.extBut _ _ D.a3 q) (c1.mv fun o q=>e1.extBut _ _ d1.1 q) hx fun g2 m1 e2=>zab ?_);have u2:IsPair g2 TO a b:=e2.extBut _ _ D.a8 (e1.extBut _ _ D.a2 hu);refine zay (wpAny_seqItems u2 rfl (zay (wpAny_updateSeq_pair u2 fun g3 u3 e3=>zay (wpAny_letGo (zab ?_)))));have up3:∀ c o,c≠z->c≠TO->c≠i1->s.heap.get? c=some o->g3.get? c=some o:=fun c o p1 p2 p3 q=>e3.extBut _ _ p2 (e2.extBut _ _ p3 (e1.extBut _ _ p1 q))
  refine zay (zay (wpAny_onRaise (show wpAny _ _ (Builtin.SmallTypes.nextOf (.ref i2) >>= _) _ _ _ from ?_)));refine zay (jf4 hh (j2.mv fun o q=>up3 _ o D.a4 D.a9.symm D.a10.symm q) (c2.mv fun o q=>up3 _ o d2.1 d2.2.1 d2.2.2.1 q) hy fun g4 e f4 he=>?_);obtain⟨oe,q1,q2⟩:=he;have z4:IsZip g4 z TI TO .ellipsis:=f4 _ _ D.a4.symm (e3.extBut _ _ D.a2.symm (e2.extBut _ _ D.a3.symm z1));have nez:e≠z:=fun p=>by subst p;rw[z4] at q1;cases q1;simp at q2
  exact wpAny_setField_rec z4 (by simp) fun g5 _ e5=>hE g5 e (fun c o p1 p2 p3 p4 q=>e5.extBut _ _ p1 (f4 _ _ p4 (up3 c o p1 p2 p3 q))) ⟨oe,e5.extBut _ _ nez q1,q2⟩
theorem jq1{k1 k2:Bool}{z TI TO i1 i2 l1 l2:Addr}{n1 n2:Nat}{xs ys:Array Value}{x y a b:Value}{Q:Option Value->Shared->Prop}(D:ZFar z TI TO i1 i2)(d1:LFar z TO i1 i2 l1)(d2:LFar z TO i1 i2 l2)
  (hz:IsZip s.heap z TI TO .none) (ht:IsPair s.heap TI (.ref i1) (.ref i2)) (hu:IsPair s.heap TO a b) (j1:ItOn k1 s.heap i1 l1 n1) (j2:ItOn k2 s.heap i2 l2 n2) (c1:SrcOn k1 s.heap l1 xs) (c2:SrcOn k2 s.heap l2 ys)
  (hx:xs[n1]? = some x) (hy:ys[n2]? = some y)
  (hQ:∀ h',IsZip h' z TI TO (rawInt s.heap.objs.size)->IsPair h' TO x y->ItOn k1 h' i1 l1 (n1+1)->ItOn k2 h' i2 l2 (n2+1)->IsPair h' s.heap.objs.size x y ->
   (∀ c o,c≠z->c≠TO->c≠i1->c≠i2->s.heap.get? c=some o->h'.get? c=some o)->Q (some (.ref s.heap.objs.size)) { s with heap:=h' }):wpAny (model prog w) A (pyNext (.ref z)) Q E s:=by
 have ty:s.TypeIs (.ref z) "zip":=⟨_,hz,rfl⟩
 unfold pyNext;exact zay (wpAny_attempt (wpAny_callSpecial?_slot (name:=Str.ofString "__next__") ty F.slot_zip_next (wpAny_call_entry F.slot_zip_next ty F.entry_zip_next
  (jrm D d1 d2 hz ht hu j1 j2 c1 c2 hx hy fun h' b1 b2 b3 b4 b5 b6=>zab (hQ h' b1 b2 b3 b4 b5 b6)) (F.args_zip_next_1 _))))
theorem jkc{k1 k2:Bool}{z TI TO i1 i2 l1 l2:Addr}{n1 n2:Nat}{xs ys:Array Value}{a b:Value}{Q:Option Value->Shared->Prop}(hh:A.handled=none)(D:ZFar z TI TO i1 i2)(d1:LFar z TO i1 i2 l1)(d2:LFar z TO i1 i2 l2)
  (hz:IsZip s.heap z TI TO .none) (ht:IsPair s.heap TI (.ref i1) (.ref i2)) (hu:IsPair s.heap TO a b) (j1:ItOn k1 s.heap i1 l1 n1) (j2:ItOn k2 s.heap i2 l2 n2) (c1:SrcOn k1 s.heap l1 xs) (c2:SrcOn k2 s.heap l2 ys)
  (hend:xs[n1]? = none\/ys[n2]? = none)
  (hQ:∀ h',(∀ c o,c≠z->c≠TO->c≠i1->c≠i2->s.heap.get? c=some o->h'.get? c=some o)->Q none { s with heap:=h' }):wpAny (model prog w) A (pyNext (.ref z)) Q E s:=by
 have ty:s.TypeIs (.ref z) "zip":=⟨_,hz,rfl⟩
 unfold pyNext;refine zay (wpAny_attempt (wpAny_callSpecial?_slot (name:=Str.ofString "__next__") ty F.slot_zip_next (wpAny_call_entry F.slot_zip_next ty F.entry_zip_next (ju3 hh D d1 d2 hz ht hu j1 j2 c1 c2 hend fun h' e hk he=>?_) (F.args_zip_next_1 _))));obtain⟨o,ho,hc⟩:=he;exact zay (wpAny_isInstance (T:="StopIteration") (b:=true) ⟨o,ho,hc⟩ isSubtype_stop (zab (hQ _ hk)))
noncomputable abbrev zA(h:Heap)(o1 o2:Obj):Heap:=(h.push o1).push o2
noncomputable abbrev zB(h:Heap)(o1 o2:Obj):Heap:=(zA h o1 o2).push { cls:=.type "tuple",data:=.seq #[.ref h.objs.size,.ref (h.push o1).objs.size] }
noncomputable abbrev zC(h:Heap)(o1 o2:Obj):Heap:=(zB h o1 o2).push { cls:=.type "tuple",data:=.seq #[.none,.none] }
noncomputable abbrev zD(h:Heap)(o1 o2:Obj):Heap:=(zC h o1 o2).push { cls:=.type "zip",data:=.fields #[.none,.bool false,.bool false,.ref (zA h o1 o2).objs.size,.ref (zB h o1 o2).objs.size] }
theorem jor{k1 k2:Bool}(l1 l2:Addr)(xs ys:Array Value):Meets (Builtin.«zip.__new__» ⟨[.type "zip",.ref l1,.ref l2],[]⟩) (fun _ R s=>SrcOn k1 s.heap l1 xs/\SrcOn k2 s.heap l2 ys /\
  ∀ o1 o2,ItOn k1 (s.heap.push o1) s.heap.objs.size l1 0->ItOn k2 (zA s.heap o1 o2) (s.heap.push o1).objs.size l2 0->R (.ok (.ret (.ref (zC s.heap o1 o2).objs.size))) { s with heap:=zD s.heap o1 o2 }) :=
 .of_wp fun prog w A R s h=>by
  obtain⟨hp,g,d,tk,os⟩:=s;obtain⟨c1,c2,h⟩:=h;have hsub:=sub_zip;have q1:SrcOn k1 (Shared.heap ⟨hp,g,d,tk,os⟩) l1 xs:=c1
  wp_walk using jof q1
  intro o1 w1;have q2:SrcOn k2 (Shared.heap ⟨hp.push o1,g,d,tk,os⟩) l2 ys:=SrcOn.mv c2 fun o e=>zaz _ e
  wp_walk using jof q2
  intro o2 w2
  wp_walk
  exact⟨_,rfl,h o1 o2 w1 w2⟩
end
section
variable {X:Cx}{pins:List (Addr×Obj)}{σ:St}{H:Hp}{s:Shared}
theorem Inv.spun{fp:List Addr}{h':Heap}{t':Nat}{T:Addr}{vs:List V}{its:List Value}(I:Inv X pins σ H s)(hf:∀ b∈fp,FpOk X pins H b)(k:∀ b o,b∉fp->s.heap.get? b=some o->h'.get? b=some o)
  (ko:∀ b∈fp,∃ o,h'.get? b=some o) (hT:s.heap.get? T=none) (hn:H T=none) (hv:Vals vs its) (hz:vs.length<=sizeLine) (ht:IsTup h' T its.toArray):Inv X pins σ (upd H T (.tup vs)) { s with heap:=h',toks:=t' }:=by
 have nT:∀ b o,s.heap.get? b=some o->b≠T:=fun b o e z=>by rw[z,hT] at e;cases e
 have nf:∀ b u,H b=some u->b∉fp:=fun b u e z=>by rw[(hf b z).1] at e;cases e
 refine I.step (g':=s.gens) (d':=s.drawn) (ch:=fp) (fun b hb=>?_) (fun b o _ _ hc e _=>k b o hc e) (fun b o _ _ hc e _=>⟨o.slots,k b o hc e⟩) (fun b o _ e n=>by rw[jag (nT b o e)];exact n)
  (fun b o hc e=>⟨o,k b o hc e⟩) (fun b xs e=>by rw[jag (ja1 e hn)];exact e) (fun b o u e=>by rw[jag (ja1 e hn)];exact e) (fun b ps e=>⟨#[],by rw[jag (ja1 e hn),e];simp⟩) (fun m hm=>?_) (fun b u e=>?_) I.bare
 ·obtain⟨_,f1,_,f3,f4,f5⟩:=hf b hb;exact⟨f3,f1,f4,f5⟩
 ·obtain⟨o,es,ep,ho,r⟩:=hm;exact⟨o,es,ep,k _ o (fun z=>(hf _ z).2.1 rfl) ho,r⟩
 ·by_cases hb:b=T
  ·subst hb;rw[jak] at e;cases e
   exact⟨hz,its,hv,ht⟩
  ·rw[jag hb] at e;refine (I.hok b u e).stay (fun c v hc q=>k c v ?_ q) (fun c q=>by rw[jag (ja1 q hn)];exact q) fun c xs q=>by rw[jag (ja1 q hn)];exact q
   rcases hc with z|z
   ·rw[z];exact nf b u e
   ·exact nf c _ z
theorem Inv.spun0{fp:List Addr}{h':Heap}{t':Nat}(I:Inv X pins σ H s)(hf:∀ b∈fp,FpOk X pins H b)(k:∀ b o,b∉fp->s.heap.get? b=some o->h'.get? b=some o):Inv X pins σ H { s with heap:=h',toks:=t' }:=by
 have nf:∀ b u,H b=some u->b∉fp:=fun b u e z=>by rw[(hf b z).1] at e;cases e
 refine I.step (g':=s.gens) (d':=s.drawn) (ch:=fp) (fun b hb=>?_) (fun b o _ _ hc e _=>k b o hc e) (fun b o _ _ hc e _=>⟨o.slots,k b o hc e⟩) (fun b o _ e n=>n)
  (fun b o hc e=>⟨o,k b o hc e⟩) (fun b xs e=>e) (fun b o u e=>e) (fun b ps e=>⟨#[],by rw[e];simp⟩) (fun m hm=>?_) (fun b u e=>?_) I.bare
 ·obtain⟨_,f1,_,f3,f4,f5⟩:=hf b hb;exact⟨f3,f1,f4,f5⟩
 ·obtain⟨o,es,ep,ho,r⟩:=hm;exact⟨o,es,ep,k _ o (fun z=>(hf _ z).2.1 rfl) ho,r⟩
 ·refine (I.hok b u e).stay (fun c v hc q=>k c v ?_ q) (fun c q=>q) fun c xs q=>q
  rcases hc with z|z
  ·rw[z];exact nf b u e
  ·exact nf c _ z
noncomputable def SqV(k:Bool)(K:W.Frag)(H:Hp)(l:Addr)(xs:List V):Prop:=if k=true then SqT K H l xs else SqL K H l xs
theorem Inv.src{k:Bool}{l:Addr}{xs:List V}(I:Inv X pins σ H s)(h:SqV k X.K H l xs):∃ its:List Value,Vals xs its/\SrcOn k s.heap l its.toArray/\xs.length<=sizeLine:=by
 cases k with
 | true =>
  obtain⟨its,r,p,z⟩:=I.tuple (h:SqT X.K H l xs);exact⟨its,r,p,z⟩
 | false =>
  obtain⟨its,r,p,z⟩:=I.list (h:SqL X.K H l xs);exact⟨its,r,p.isList,z⟩
theorem Inv.src_inj{k:Bool}{l:Addr}{xs ys:List V}(I:Inv X pins σ H s)(h:SqV k X.K H l xs)(h':SqV k X.K H l ys):xs=ys:=by
 cases k with
 | true=>exact I.tuple_inj (h:SqT X.K H l xs) h'
 | false=>exact I.list_inj (h:SqL X.K H l xs) h'
theorem jgx{k:Bool}{l:Addr}{xs:List V}(I:Inv X pins σ H s)(h:SqV k X.K H l xs){b:Addr}(f:FpOk X pins H b):l≠b:=by
 intro e;subst e;obtain⟨f0,f1,f2,f3,_⟩:=f;have base:∀ o,X.K.lookup l=some o->False:=fun o q=>by
  have hb:=I.ok.mod.kin l o q;rcases f3 with z|z
  ·exact I.ok.noex l o hb z
  ·exact absurd (zcx (zbv hb) (Nat.le_trans I.ok.bsz z)) (Nat.lt_irrefl _)
 cases k with
 | true =>
  rcases (h:SqT X.K H l xs) with q|⟨o,its,n,q,_⟩
  ·rcases q with q|⟨o,q⟩<;>(rw[f0] at q;cases q)
  ·exact base o q
 | false =>
  rcases (h:SqL X.K H l xs) with q|⟨o,its,n,q,_⟩
  ·rcases q with q|⟨o,q⟩<;>(rw[f0] at q;cases q)
  ·exact base o q
end
noncomputable def Itz(k1 k2:Bool)(K:W.Frag)(l1 l2:Addr):It :=
  ⟨fun i H=>∃ xs ys x y,SqV k1 K H l1 xs/\SqV k2 K H l2 ys/\xs[i]? = some x/\ys[i]? = some y,
   fun i H v H'=>∃ T x y,H T=none/\v=.ref T/\H'=upd H T (.tup [x,y])/\(∀ xs,SqV k1 K H l1 xs->xs[i]? = some x)/\(∀ ys,SqV k2 K H l2 ys->ys[i]? = some y),
   fun i H=>∃ xs ys,SqV k1 K H l1 xs/\SqV k2 K H l2 ys/\(xs.length<=i\/ys.length<=i)⟩
theorem jre{P:Program}{w:World}{K:W.Frag}{es:List Expr}{kk:Nat}{tp:Pos}(k1 k2:Bool)(l1 l2 z TI TO i1 i2:Addr)(D:ZFar z TI TO i1 i2) :
  Turn P w K (.Tuple es kk tp) (Itz k1 k2 K l1 l2) [z,TI,TO,i1,i2] z (fun i h=>IsZip h z TI TO .none/\IsPair h TI (.ref i1) (.ref i2)/\(∃ a b,IsPair h TO a b)/\ItOn k1 h i1 l1 i/\ItOn k2 h i2 l2 i) where
 mem:=by simp
 obj:=fun i h st b hb=>by
  obtain⟨q1,q2,⟨a,b',q3⟩,q4,q5⟩:=st;simp only[List.mem_cons,List.not_mem_nil,or_false] at hb;rcases hb with rfl|rfl|rfl|rfl|rfl
  ·exact⟨_,q1,fun v e=>nomatch e⟩
  ·exact⟨_,q2,fun v e=>nomatch e⟩
  ·exact⟨_,q3,fun v e=>nomatch e⟩
  ·obtain⟨o,vs,e,d⟩:=q4.ob;exact⟨o,e,fun v z=>by rw[d] at z;cases z⟩
  ·obtain⟨o,vs,e,d⟩:=q5.ob;exact⟨o,e,fun v z=>by rw[d] at z;cases z⟩
 keep:=fun i h h' st k=>by
  obtain⟨q1,q2,⟨a,b',q3⟩,q4,q5⟩:=st;exact⟨k z (by simp) _ q1,k TI (by simp) _ q2,⟨a,b',k TO (by simp) _ q3⟩,q4.mv fun o e=>k i1 (by simp) o e,q5.mv fun o e=>k i2 (by simp) o e⟩
 item:=by
  intro X hP hw hK hc i pins s σ H E I hf st hg;subst hP hw hK;obtain⟨q1,q2,⟨a,b',q3⟩,q4,q5⟩:=st;obtain⟨xs,ys,x,y,sx,sy,hx,hy⟩:=hg;obtain⟨ix,rx,cx,_⟩:=I.src sx;obtain⟨iy,ry,cy,_⟩:=I.src sy;obtain⟨u,hu,ru⟩:=rx.get hx;obtain⟨v,hv,rv⟩:=ry.get hy;have far:∀ {k:Bool} {l:Addr} {xs:List V},SqV k X.K H l xs->LFar z TO i1 i2 l:=fun h=>⟨jgx I h (hf z (by simp)),jgx I h (hf TO (by simp)),jgx I h (hf i1 (by simp)),jgx I h (hf i2 (by simp))⟩
  refine jq1 D (far sx) (far sy) q1 q2 q3 q4 q5 cx cy (x:=u) (y:=v) (by simpa using hu) (by simpa using hv) fun h' b1 b2 b3 b4 b5 b6=>⟨_,rfl,?_⟩
  have keep:∀ b o,b∉[z,TI,TO,i1,i2]->s.heap.get? b=some o->h'.get? b=some o:=fun b o hb e=>by
   simp only[List.mem_cons,List.not_mem_nil,or_false,not_or] at hb;exact b6 b o hb.1 hb.2.2.1 hb.2.2.2.1 hb.2.2.2.2 e
  have e2:IsPair h' TI (.ref i1) (.ref i2):=b6 TI _ D.a1 D.a5 D.a6 D.a7 q2;have hfr:H s.heap.objs.size=none:=I.hok.fresh (zac _);have hno:s.heap.get? s.heap.objs.size=none:=Heap.get?_none_of_le (zac _);have Tz:s.heap.objs.size≠z:=Nat.ne_of_gt (zbv q1);refine wpAny_letOwnedTupleGo_zip b1 fun h2 z2 s2=>?_
  have up2:∀ b o,b≠z->h'.get? b=some o->h2.get? b=some o:=fun b o hb e=>s2.extBut _ _ hb e
  have keep2:∀ b o,b∉[z,TI,TO,i1,i2]->s.heap.get? b=some o->h2.get? b=some o:=fun b o hb e=>up2 b o (fun q=>hb (by simp[q])) (keep b o hb e)
  have tu:IsTup h2 s.heap.objs.size [u,v].toArray:=⟨_,up2 _ _ Tz b5,rfl,0,rfl⟩
  have I2:Inv X pins σ (upd H s.heap.objs.size (.tup [x,y])) { s with heap:=h2 }:=I.spun (t':=s.toks) hf keep2 (fun b hb=>by
   simp only[List.mem_cons,List.not_mem_nil,or_false] at hb;rcases hb with rfl|rfl|rfl|rfl|rfl
   ·exact⟨_,z2⟩
   ·exact⟨_,up2 _ _ D.a1 e2⟩
   ·exact⟨_,up2 _ _ D.a2 b2⟩
   ·obtain⟨o,vs,e,_⟩:=b3.ob;exact⟨o,up2 _ _ D.a3 e⟩
   ·obtain⟨o,vs,e,_⟩:=b4.ob;exact⟨o,up2 _ _ D.a4 e⟩) hno hfr (.cons ru (.cons rv .nil)) (by show 2<=sizeLine;decide) tu
  refine⟨.ref s.heap.objs.size,_,I2,rfl,⟨_,x,y,hfr,rfl,rfl,fun xs' h=>by rw[I.src_inj h sx];exact hx,fun ys' h=>by rw[I.src_inj h sy];exact hy⟩,?_,fun b hb=>?_⟩
  ·exact⟨z2,up2 _ _ D.a1 e2,⟨_,_,up2 _ _ D.a2 b2⟩,b3.mv fun o e=>up2 _ o D.a3 e,b4.mv fun o e=>up2 _ o D.a4 e⟩
  ·have:b≠s.heap.objs.size:=fun q=>by
    subst q;simp only[List.mem_cons,List.not_mem_nil,or_false] at hb;rcases hb with q|q|q|q|q
    ·exact Tz q
    ·exact absurd (zbv q2) (by rw[q];exact Nat.lt_irrefl _)
    ·exact absurd (zbv q3) (by rw[q];exact Nat.lt_irrefl _)
    ·obtain⟨o,vs,e,_⟩:=q4.ob;exact absurd (zbv e) (by rw[q];exact Nat.lt_irrefl _)
    ·obtain⟨o,vs,e,_⟩:=q5.ob;exact absurd (zbv e) (by rw[q];exact Nat.lt_irrefl _)
   rw[jag this];exact (hf b hb).1
 done:=by
  intro X hP hw hK hc i pins s σ H E I hf st hg;subst hP hw hK;obtain⟨q1,q2,⟨a,b',q3⟩,q4,q5⟩:=st;obtain⟨xs,ys,sx,sy,hend⟩:=hg;obtain⟨ix,rx,cx,_⟩:=I.src sx;obtain⟨iy,ry,cy,_⟩:=I.src sy;have far:∀ {k:Bool} {l:Addr} {xs:List V},SqV k X.K H l xs->LFar z TO i1 i2 l:=fun h=>⟨jgx I h (hf z (by simp)),jgx I h (hf TO (by simp)),jgx I h (hf i1 (by simp)),jgx I h (hf i2 (by simp))⟩
  have lx:=rx.length;have ly:=ry.length;refine jkc (I.ok.hd hc) D (far sx) (far sy) q1 q2 q3 q4 q5 cx cy ?_ fun h' k=>⟨rfl,I.spun0 (t':=s.toks) hf fun b o hb e=>?_⟩
  ·rcases hend with h|h
   ·exact .inl (by simp;omega)
   ·exact .inr (by simp;omega)
  ·simp only[List.mem_cons,List.not_mem_nil,or_false,not_or] at hb;exact k b o hb.1 hb.2.2.1 hb.2.2.2.1 hb.2.2.2.2 e
 self:=fun _ _ _ _ _ st h=>wpAny_pyIter_zip st.1 h
theorem zfar(n:Nat):ZFar (n+4) (n+2) (n+3) n (n+1):=⟨show (n+2:Nat)≠n+4 by omega,show (n+3:Nat)≠n+4 by omega,show (n:Nat)≠n+4 by omega,show (n+1:Nat)≠n+4 by omega,show (n+2:Nat)≠n+3 by omega,
 show (n+2:Nat)≠n by omega,show (n+2:Nat)≠n+1 by omega,show (n+3:Nat)≠n by omega,show (n+3:Nat)≠n+1 by omega,show (n:Nat)≠n+1 by omega⟩
section
variable {X:Cx}
noncomputable def iZip(K:W.Frag)(ta:TA):TI:=fun σ H R=>ta σ H fun vs H1=>∃ k1 k2 l1 l2 xs ys,vs=[.ref l1,.ref l2]/\SqV k1 K H1 l1 xs/\SqV k2 K H1 l2 ys/\R (Itz k1 k2 K l1 l2) H1
theorem jw0{a b:Expr}{ta:TA}{es:List Expr}{kk:Nat}{tp p pos:Pos}(hg:Gl X "zip")(hm:X.mg "zip"=none)(ha:PA X [a,b] ta)(hs:autoParam (starEach [a,b] X.env=[(false,eval a X.env),(false,eval b X.env)]) zau2._auto_1)(hs2:autoParam (starEach [b] X.env=[(false,eval b X.env)]) zau2._auto_1) :
  PI X (.Tuple es kk tp) (.Call (.Name "zip" p) [a,b] [] pos) (iZip X.K ta):=by
 intro pins s σ H R I h;refine Call_ (jis I hg hm boot_zip (PyProof.Rows.callWith_type1 (thn (ha pos pins s σ H _ I h) fun us s1 hzz=>?_) (by rw[hs,hs2]) (by rw[hs2];rfl)));obtain⟨vs,H1,I1,r1,q1⟩:=hzz;obtain⟨k1,k2,l1,l2,xs,ys,e,sx,sy,q⟩:=q1;subst e;obtain⟨u1,u2,rfl,e1,e2⟩:=r1.two;cases e1;cases e2;obtain⟨ix,rx,cx,_⟩:=I1.src sx;obtain⟨iy,ry,cy,_⟩:=I1.src sy;refine callType_new F.called_zip (by decide) (F.typeCall_zip_2 _ _) (F.newCall_zip_2 _ _) (fun obj=>F.args_object_init_3 obj _ _) F.entry_zip_new (jor l1 l2 ix.toArray iy.toArray) ⟨cx,cy,fun o1 o2 w1 w2=>?_⟩;have n1:(s1.heap.push o1).objs.size=s1.heap.objs.size+1:=Heap.size_push ..;have n2:(zA s1.heap o1 o2).objs.size=s1.heap.objs.size+2:=by show (Heap.push _ _).objs.size=_;rw[Heap.size_push,n1]
 have n3:(zB s1.heap o1 o2).objs.size=s1.heap.objs.size+3:=by show (Heap.push _ _).objs.size=_;rw[Heap.size_push,n2]
 have n4:(zC s1.heap o1 o2).objs.size=s1.heap.objs.size+4:=by show (Heap.push _ _).objs.size=_;rw[Heap.size_push,n3]
 have g5:(zD s1.heap o1 o2).get? (zC s1.heap o1 o2).objs.size=some _:=zbz _ rfl;have g4:(zD s1.heap o1 o2).get? (zB s1.heap o1 o2).objs.size=some _:=zaz _ (zbz _ rfl);have g3:(zD s1.heap o1 o2).get? (zA s1.heap o1 o2).objs.size=some _:=zaz _ (zaz _ (zbz _ rfl));have kk2:∀ c o,(zA s1.heap o1 o2).get? c=some o->(zD s1.heap o1 o2).get? c=some o:=fun c o e=>zaz _ (zaz _ (zaz _ e))
 have kk1:∀ c o,(s1.heap.push o1).get? c=some o->(zD s1.heap o1 o2).get? c=some o:=fun c o e=>kk2 c o (zaz _ e)
 have kk0:∀ c o,s1.heap.get? c=some o->(zD s1.heap o1 o2).get? c=some o:=fun c o e=>kk1 c o (zaz _ e)
 rw[n1] at w2 g3;rw[n2] at g3;rw[n3] at g4;rw[n4,n2,n3] at g5;show _/\_;rw[n4];refine⟨⟨_,g5,rfl⟩,wpAny_pyIter_zip g5 ?_⟩;have D:ZFar (s1.heap.objs.size+4) (s1.heap.objs.size+2) (s1.heap.objs.size+3) s1.heap.objs.size (s1.heap.objs.size+1):=zfar _;refine⟨s1.heap.objs.size+4,[s1.heap.objs.size+4,s1.heap.objs.size+2,s1.heap.objs.size+3,s1.heap.objs.size,s1.heap.objs.size+1],_,_,H1,rfl,I1.kept (t':=s1.toks) fun c o e=>kk0 c o e,
  jre k1 k2 l1 l2 _ _ _ _ _ D,⟨g5,g3,⟨_,_,g4⟩,w1.mv fun o e=>kk1 _ o e,w2.mv fun o e=>kk2 _ o e⟩,fun b hb=>?_,q⟩
 have hb':s1.heap.objs.size<=b:=by
  simp only[List.mem_cons,List.not_mem_nil,or_false] at hb;show (s1.heap.objs.size:Nat)<=(b:Nat);have hb2:(b:Nat)=b:=rfl;rcases hb with q|q|q|q|q<;>(rw[q];first|exact zac _|exact Nat.le_add_right _ _)
 exact I1.fpOk hb' (I1.hok.fresh hb')
end
noncomputable def Ite(K:W.Frag)(l:Addr):It :=
  ⟨fun i H=>∃ xs x,SqL K H l xs/\xs[i]? = some x,
   fun i H v H'=>∃ T x,H T=none/\v=.ref T/\H'=upd H T (.tup [.int i,x])/\(∀ xs,SqL K H l xs->xs[i]? = some x),
   fun i H=>∃ xs,SqL K H l xs/\xs.length<=i⟩
theorem jpy{P:Program}{w:World}{K:W.Frag}{es:List Expr}{kk:Nat}{tp:Pos}(l e it:Addr)(D:e≠it) :
  Turn P w K (.Tuple es kk tp) (Ite K l) [e,it] e (fun i h=>(∃ old,IsEnum h e it i old)/\h.IsListIter it l i) where
 mem:=by simp
 obj:=fun i h st b hb=>by
  obtain⟨⟨old,q1⟩,o,q2,_,q3⟩:=st;simp only[List.mem_cons,List.not_mem_nil,or_false] at hb;rcases hb with rfl|rfl
  ·exact⟨_,q1,fun v e=>nomatch e⟩
  ·exact⟨o,q2,fun v z=>by rw[q3] at z;cases z⟩
 keep:=fun i h h' st k=>by
  obtain⟨⟨old,q1⟩,q2⟩:=st;exact⟨⟨old,k e (by simp) _ q1⟩,q2.at fun o z=>k it (by simp) o z⟩
 item:=by
  intro X hP hw hK hc i pins s σ H E I hf st hg;subst hP hw hK;obtain⟨⟨old,q1⟩,q2⟩:=st;obtain⟨xs,x,sx,hx⟩:=hg;obtain⟨ix,rx,cx,_⟩:=I.list sx;obtain⟨u,hu,ru⟩:=rx.get hx;refine wpAny_pyNext_enum_item q1 q2 cx.isList (x:=u) (by simpa using hu) D fun h' b1 b2 b3 b4 b5=>⟨_,rfl,?_⟩
  have hfr:H s.heap.objs.size=none:=I.hok.fresh (zac _);have hno:s.heap.get? s.heap.objs.size=none:=Heap.get?_none_of_le (zac _);have Te:s.heap.objs.size≠e:=Nat.ne_of_gt (zbv q1);have Ti:s.heap.objs.size≠it:=by obtain⟨o,q,_⟩:=q2;exact Nat.ne_of_gt (zbv q)
  refine wpAny_letOwnedTupleGo_enum b1 fun h2 e2 s2=>?_
  have up2:∀ b o,b≠e->h'.get? b=some o->h2.get? b=some o:=fun b o hb z=>s2.extBut _ _ hb z
  have keep2:∀ b o,b∉[e,it]->s.heap.get? b=some o->h2.get? b=some o:=fun b o hb z=>by
   simp only[List.mem_cons,List.not_mem_nil,or_false,not_or] at hb;exact up2 b o hb.1 (b5 b o hb.1 hb.2 z)
  have tu:IsTup h2 s.heap.objs.size [.int i s.toks,u].toArray:=⟨_,up2 _ _ Te b3,rfl,0,rfl⟩
  have i2:h2.IsListIter it l (i+1):=b2.at fun o z=>up2 _ o D.symm z
  have I2:Inv X pins σ (upd H s.heap.objs.size (.tup [.int i,x])) { s with heap:=h2,toks:=s.toks+1 }:=I.spun hf keep2 (fun b hb=>by
   simp only[List.mem_cons,List.not_mem_nil,or_false] at hb;rcases hb with rfl|rfl
   ·exact⟨_,e2⟩
   ·obtain⟨o,q,_⟩:=i2;exact⟨o,q⟩) hno hfr (.cons ⟨_,rfl⟩ (.cons ru .nil)) (by show 2<=sizeLine;decide) tu
  refine⟨.ref s.heap.objs.size,_,I2,rfl,⟨_,x,hfr,rfl,rfl,fun xs' h=>by rw[I.list_inj h sx];exact hx⟩,⟨⟨u,by have:=e2;simpa using this⟩,i2⟩,fun b hb=>?_⟩;have:b≠s.heap.objs.size:=fun q=>by
   subst q;simp only[List.mem_cons,List.not_mem_nil,or_false] at hb;rcases hb with q|q
   ·exact Te q
   ·exact Ti q
  rw[jag this];exact (hf b hb).1
 done:=by
  intro X hP hw hK hc i pins s σ H E I hf st hg;subst hP hw hK;obtain⟨⟨old,q1⟩,q2⟩:=st;obtain⟨xs,sx,hend⟩:=hg;obtain⟨ix,rx,cx,_⟩:=I.list sx;have lx:=rx.length;refine wpAny_pyNext_enum_end (I.ok.hd hc) q1 q2 cx.isList (by simp;omega) fun h' k=>⟨rfl,I.spun0 (t':=s.toks) hf fun b o hb z=>?_⟩
  simp only[List.mem_cons,List.not_mem_nil,or_false,not_or] at hb;exact k b o hb.2 z
 self:=fun _ _ _ _ _ st h=>by obtain⟨⟨old,q1⟩,_⟩:=st;exact wpAny_pyIter_enum q1 h
section
variable {X:Cx}
noncomputable def jye(K:W.Frag)(ta:TA):TI:=fun σ H R=>ta σ H fun vs H1=>∃ l xs,vs=[.ref l]/\SqL K H1 l xs/\R (Ite K l) H1
theorem juf{a:Expr}{ta:TA}{es:List Expr}{kk:Nat}{tp p pos:Pos}(hg:Gl X "enumerate")(hm:X.mg "enumerate"=none)(ha:PA X [a] ta)(hs:autoParam (starEach [a] X.env=[(false,eval a X.env)]) zau2._auto_1) :
  PI X (.Tuple es kk tp) (.Call (.Name "enumerate" p) [a] [] pos) (jye X.K ta):=by
 intro pins s σ H R I h;refine Call_ (jis I hg hm boot_enumerate (PyProof.Rows.callWith_type1 (thn (ha pos pins s σ H _ I h) fun us s1 hzz=>?_) hs rfl));obtain⟨vs,H1,I1,r1,q1⟩:=hzz;obtain⟨l,xs,e,sx,q⟩:=q1;subst e;obtain⟨u,rfl,e1⟩:=r1.one;cases e1;obtain⟨ix,rx,cx,_⟩:=I1.list sx;refine call_enumerate_list cx.isList fun h' b1 b2 b3 b4=>wpAny_pyIter_enum b1 ?_
 refine⟨s1.heap.objs.size+1,[s1.heap.objs.size+1,s1.heap.objs.size],_,_,H1,rfl,I1.kept (t':=s1.toks) fun c o e=>b4 c o e,jpy l _ _ (show (s1.heap.objs.size+1:Nat)≠s1.heap.objs.size by omega),⟨⟨_,b1⟩,b2⟩,fun b hb=>?_,q⟩;have hb':s1.heap.objs.size<=b:=by
  simp only[List.mem_cons,List.not_mem_nil,or_false] at hb;rcases hb with q|q<;>(rw[q];first|exact zac _|exact Nat.le_add_right _ _)
 exact I1.fpOk hb' (I1.hok.fresh hb')
end
noncomputable def iSeq(K:W.Frag)(tl:TE):TI:=fun σ H R=>tl σ H fun x H1=>(∃ a,x=.ref a/\(∃ xs,SqL K H1 a xs)/\R (Itl K a) H1)\/(∃ a,x=.ref a/\(∃ xs,SqT K H1 a xs)/\R (Itt K a) H1)
theorem jwy{X:Cx}{tg l:Expr}{tl:TE}(hl:PE X l tl):PI X tg l (iSeq X.K tl):=by
 intro pins s σ H R I h;refine thn (hl pins s σ H _ I h) fun v s1 hzz=>?_
 obtain⟨x,H1,I1,r1,q1⟩:=hzz;have fp1:∀ b∈[s1.heap.objs.size],FpOk X pins H1 b:=fun b hb=>by
  have e:b=s1.heap.objs.size:=by simpa using hb
  subst e;exact I1.fpOk (zac _) (I1.hok.fresh (zac _))
 rcases q1 with ⟨a,e,⟨xs,hq⟩,q⟩|⟨a,e,⟨xs,hq⟩,q⟩
 ·subst e;cases r1;obtain⟨its,rv,p,hz⟩:=I1.list hq;exact wpAny_pyIter_list p.isList ⟨s1.heap.objs.size,[s1.heap.objs.size],_,_,H1,rfl,I1.kept (t':=s1.toks) fun b o e=>zaz _ e,jpz a _,⟨_,zbz _ rfl,rfl,rfl⟩,fp1,q⟩
 ·subst e;cases r1;obtain⟨its,rv,p,hz⟩:=I1.tuple hq;exact wpAny_pyIter_tuple (show s1.heap.IsTuple a its.toArray from p) ⟨s1.heap.objs.size,[s1.heap.objs.size],_,_,H1,rfl,I1.kept (t':=s1.toks) fun b o e=>zaz _ e,jne a _,⟨_,zbz _ rfl,rfl,rfl⟩,fp1,q⟩
noncomputable def Itv(val:Nat->V)(n:Nat):It:=⟨fun i _=>i<n,fun i H x H'=>H'=H/\x=val i,fun i _=>i=n⟩
noncomputable def jkm(nm:String):Bool:=!["enumerate","zip","dict_itemiterator","dict_reverseitemiterator","odict_iterator","itertools.zip_longest","itertools.pairwise"].contains nm
theorem jf6{P:Program}{w:World}{K:W.Frag}{tg:Expr}(it:Addr)(val:Nat->V)(n:Nat)(Stn:Nat->Heap->Prop)(W:∀ A:Around,A.handled=none->Walks P w A it [it] [it] n (fun i v=>RelV (val i) v) Stn)
  (ob:∀ i h,Stn i h->∃ o nm vs,h.get? it=some o/\o.cls=.type nm/\o.data=.fields vs/\jkm nm=true)
  (sf:∀ (A:Around) (i:Nat) (s:Shared) (Q:Value->Shared->Prop) (E:Value->Shared->Prop),Stn i s.heap->Q (.ref it) s->wpAny (model P w) A (pyIter (.ref it)) Q E s):Turn P w K tg (Itv val n) [it] it Stn where
 mem:=by simp
 obj:=fun i h st b hb=>by
  have e:b=it:=by simpa using hb
  subst e;obtain⟨o,nm,vs,q1,_,q3,_⟩:=ob i h st;exact⟨o,q1,fun v z=>by rw[q3] at z;cases z⟩
 keep:=fun i h h' st k=>(W { handled:=none,frames:=some [] } rfl).frame i h h' st k
 item:=by
  intro X hP hw hK hc i pins s σ H E I hf st hg;subst hP hw hK;refine (W X.A (I.ok.hd hc)).item i s _ _ hg st fun v h' tk hv st' kk=>⟨v,rfl,?_⟩
  obtain⟨o,nm,vs,q1,q2,q3,q4⟩:=ob _ _ st';have I1:Inv X pins σ H { s with heap:=h',toks:=tk }:=I.spun0 hf kk;exact jtg (s:={ s with heap:=h',toks:=tk }) q1 q2 q3 (by unfold jkm at q4;simpa using q4) ⟨val i,H,I1,hv,⟨rfl,rfl⟩,st',fun b hb=>(hf b hb).1⟩
 done:=by
  intro X hP hw hK hc i pins s σ H E I hf st hg;subst hP hw hK;have hg':i=n:=hg;subst hg';exact (W X.A (I.ok.hd hc)).done s _ _ st fun h' tk kk=>⟨rfl,I.spun0 hf kk⟩
 self:=fun A i s Q E st h=>sf A i s Q E st h
section
variable {X:Cx}{tg:Expr}
theorem jko{pins:List (Addr×Obj)}{σ:St}{H:Hp}{s:Shared}{R:It->Hp->Prop}{E:Value->Shared->Prop}{lo hi st:Int}{t u v:Tok}{tk:Nat}(I:Inv X pins σ H s)(hst:st=1)
  (q:R (Itv (fun i=>.int (lo+(i:Nat)*st)) (Builtin.Range.rangeSize lo hi st).toNat) H):wpAny (model X.prog X.w) X.A (pyIter (.ref s.heap.objs.size)) (PIE X pins σ tg R) E { s with heap:=s.heap.push { cls:=.type "range",data:=.fields #[.int lo t,.int hi u,.int st v] },toks:=tk }:=by
 have I1:Inv X pins σ H { s with heap:=s.heap.push { cls:=.type "range",data:=.fields #[.int lo t,.int hi u,.int st v] },toks:=tk }:=I.kept fun b o e=>zaz _ e
 subst hst;have hn:0<=Builtin.Range.rangeSize lo hi 1:=by rw[rangeSize_one];split<;>omega
 generalize hN:(Builtin.Range.rangeSize lo hi 1).toNat=N at q;have hN':Builtin.Range.rangeSize lo hi 1=(N:Int):=by omega
 have fpk:∀ b∈[(s.heap.push { cls:=.type "range",data:=.fields #[.int lo t,.int hi u,.int 1 v] }).objs.size],FpOk X pins H b:=fun b hb=>by
  have e:b=(s.heap.push { cls:=.type "range",data:=.fields #[.int lo t,.int hi u,.int 1 v] }).objs.size:=by simpa using hb
  subst e;exact I1.fpOk (zac _) (I1.hok.fresh (zac _))
 by_cases hsm:Builtin.Range.small lo hi 1=true
 ·refine wpAny_pyIter_range (IsRange.new ..) hsm ?_;refine⟨_,[_],_,_,H,rfl,I1.kept (t':=tk) fun b o e=>zaz _ e,jf6 _ _ N _ (fun A hA=>Walks.range hA _ lo 1 N) (fun i h e=>⟨_,_,_,e,rfl,rfl,rfl⟩) (fun A i s Q E e h=>wpAny_pyIter_rangeiter e h),?_,fpk,q⟩;show IsRangeIter _ _ (lo+((0:Nat):Int)*1) ((N:Int)-((0:Nat):Int)) 1;rw[<- hN'];have e1:lo+((0:Nat):Int)*1=lo:=by simp
  have e2:Builtin.Range.rangeSize lo hi 1-((0:Nat):Int)=Builtin.Range.rangeSize lo hi 1:=by simp
  rw[e1,e2];exact zbz _ rfl
 ·refine wpAny_pyIter_longrange (IsRange.new ..) (by simpa using hsm) ?_;refine⟨_,[_],_,_,H,rfl,I1.kept (t':=tk) fun b o e=>zaz _ e,jf6 _ _ N _ (fun A hA=>Walks.longrange hA _ lo 1 N) (fun i h e=>⟨_,_,_,e,rfl,rfl,rfl⟩) (fun A i s Q E e h=>wpAny_pyIter_longiter e h),?_,fpk,q⟩;show IsLongIter _ _ (lo+((0:Nat):Int)*1) ((N:Int)-((0:Nat):Int)) 1;rw[<- hN'];have e1:lo+((0:Nat):Int)*1=lo:=by simp
  have e2:Builtin.Range.rangeSize lo hi 1-((0:Nat):Int)=Builtin.Range.rangeSize lo hi 1:=by simp
  rw[e1,e2];exact zbz _ rfl
noncomputable def iRgA(ta:TA):TI:=fun σ H R=>ta σ H fun vs H1=>(∃ j:Int,vs=[.int j]/\R (Itv (fun i=>.int (0+(i:Nat)*1)) (Builtin.Range.rangeSize 0 j 1).toNat) H1) \/
 (∃ i j:Int,vs=[.int i,.int j]/\R (Itv (fun n=>.int (i+(n:Nat)*1)) (Builtin.Range.rangeSize i j 1).toNat) H1)
theorem jq6{a:Expr}{es:List Expr}{ta:TA}{p pos:Pos}(hg:Gl X "range")(hm:X.mg "range"=none)(ha:PA X (a::es) ta)(hs:autoParam (starEach (a::es) X.env=(false,eval a X.env)::starEach es X.env) zau2._auto_1)(hp:autoParam ((backTo pos (starEach es X.env)).any (·.1)=false) zau2._auto_1) :
  PI X tg (.Call (.Name "range" p) (a::es) [] pos) (iRgA ta):=by
 intro pins s σ H R I h;refine Call_ (jis I hg hm boot_range (PyProof.Rows.callWith_type1 (thn (ha pos pins s σ H _ I h) fun us s1 hzz=>?_) hs hp));obtain⟨vs,H1,I1,r1,q1⟩:=hzz;rcases q1 with ⟨j,e,q⟩|⟨i,j,e,q⟩
 ·subst e;obtain⟨u,rfl,t,rfl⟩:=r1.one;exact call_range_1 (jko I1 rfl q)
 ·subst e;obtain⟨u,v,rfl,⟨t,rfl⟩,⟨t',rfl⟩⟩:=r1.two;exact call_range_2 (jko I1 rfl q)
noncomputable def iStr(tl:TE):TI:=fun σ H R=>tl σ H fun x H1=>∃ z,x=.str z/\R (Itv (fun i=>.str ⟨#[z.cps.getD i 0]⟩) z.cps.size) H1
theorem jwz{l:Expr}{tl:TE}(hl:PE X l tl):PI X tg l (iStr tl):=by
 intro pins s σ H R I h;refine thn (hl pins s σ H _ I h) fun v s1 hzz=>?_
 obtain⟨x,H1,I1,r1,q1⟩:=hzz;obtain⟨z,e,q⟩:=q1;subst e;obtain⟨t,rfl⟩:=r1;have fp1:∀ b∈[s1.heap.objs.size],FpOk X pins H1 b:=fun b hb=>by
  have e:b=s1.heap.objs.size:=by simpa using hb
  subst e;exact I1.fpOk (zac _) (I1.hok.fresh (zac _))
 have wk:∀ i v,SignAt z i v->RelV (.str ⟨#[z.cps.getD i 0]⟩) v:=fun i v ⟨c,u,q1,q2⟩=>⟨u,by rw[q2,Array.getD_eq_getD_getElem?,q1];rfl⟩
 cases ha:z.cps.all (·<128)
 ·exact wpAny_pyIter_wide ha ⟨_,[_],_,_,H1,rfl,I1.kept (t':=s1.toks) fun b o e=>zaz _ e,jf6 _ _ _ _ (fun A hA=>(Walks.strWide hA _ z t).weaken wk) (fun i h ⟨o,q1,q2,q3⟩=>⟨o,_,_,q1,q2,q3,rfl⟩) (fun A i s Q E e h=>wpAny_pyIter_striter_wide e h),⟨_,zbz _ rfl,rfl,rfl⟩,fp1,q⟩
 ·exact wpAny_pyIter_ascii ha ⟨_,[_],_,_,H1,rfl,I1.kept (t':=s1.toks) fun b o e=>zaz _ e,jf6 _ _ _ _ (fun A hA=>(Walks.strAscii hA _ z t).weaken wk) (fun i h ⟨o,q1,q2,q3⟩=>⟨o,_,_,q1,q2,q3,rfl⟩) (fun A i s Q E e h=>wpAny_pyIter_striter_ascii e h),⟨_,zbz _ rfl,rfl,rfl⟩,fp1,q⟩
end
end L2
namespace DL
open PySem PySem.Spec L2
noncomputable def seqD:D->Option (List D)
 | .lst ds=>some ds
 | .tup ds=>some ds
 | _=>none
noncomputable def jif(f:DSt->M D):DSt->M (List D):=fun δ=>(f δ).b fun d=>M.o (seqD d)
noncomputable def jbe(lo:Int)(n:Nat):List D:=(List.range n).map fun i=>.int (lo+(i:Nat))
noncomputable def jbt:List D->Option (List D)
 | [.int j]=>some (jbe 0 j.toNat)
 | [.int i,.int j]=>some (jbe i (j-i).toNat)
 | _=>none
noncomputable def zipD:List D->List D->List D
 | x::xs,y::ys=>.tup [x,y]::zipD xs ys
 | _,_=>[]
noncomputable def jd9:List D->Option (List D)
 | [x,y]=>match seqD x,seqD y with
  | some xs,some ys=>some (zipD xs ys)
  | _,_=>none
 | _=>none
noncomputable def jcw:Int->List D->List D
 | _,[]=>[]
 | k,d::ds=>.tup [.int k,d]::jcw (k+1) ds
noncomputable def je4:List D->Option (List D)
 | [.lst xs]=>some (jcw 0 xs)
 | _=>none
noncomputable def jfb(k:List D->Option (List D))(f:DSt->M (List D)):DSt->M (List D):=fun δ=>(f δ).b fun ds=>M.o (k ds)
theorem jmn:∀ {xs ys:List D} {i:Nat} {d:D},(zipD xs ys)[i]? = some d->∃ x y,xs[i]? = some x/\ys[i]? = some y/\d=.tup [x,y]
 | [],_,_,_,h=>by simp[zipD] at h
 | _::_,[],_,_,h=>by simp[zipD] at h
 | x::xs,y::ys,0,d,h=>by simp[zipD] at h;exact⟨x,y,rfl,rfl,h.symm⟩
 | x::xs,y::ys,i+1,d,h=>by
  obtain⟨a,b,q1,q2,q3⟩:=jmn (xs:=xs) (ys:=ys) (i:=i) (d:=d) (by simpa[zipD] using h);exact⟨a,b,by simpa using q1,by simpa using q2,q3⟩
theorem jmo:∀ (xs ys:List D),(zipD xs ys).length=min xs.length ys.length
 | [],_=>by simp[zipD]
 | _::_,[]=>by simp[zipD]
 | x::xs,y::ys=>by simp[zipD,jmo xs ys]
theorem jhj:∀ {xs:List D} {k:Int} {i:Nat} {d:D},(jcw k xs)[i]? = some d->∃ x,xs[i]? = some x/\d=.tup [.int (k+i),x]
 | [],_,_,_,h=>by simp[jcw] at h
 | x::xs,k,0,d,h=>by simp[jcw] at h;exact⟨x,rfl,by rw[<- h];simp⟩
 | x::xs,k,i+1,d,h=>by
  obtain⟨a,q1,q2⟩:=jhj (xs:=xs) (k:=k+1) (i:=i) (d:=d) (by simpa[jcw] using h);refine⟨a,by simpa using q1,?_⟩;have:k+1+(i:Int)=k+((i+1:Nat):Int):=by push_cast;omega
  rw[q2,this]
theorem jfy:∀ (xs:List D) (k:Int),(jcw k xs).length=xs.length
 | [],_=>rfl
 | _::xs,k=>by simp[jcw,jfy xs]
section
variable {ρ:Rho}{X:Cx}{O:List Nat}{E:XK}{a b tg iter e elt:Expr}{es:List Expr}{fa:DSt->M D}{fl:DSt->M (List D)}{pos p:Pos}
theorem jkr{k:Bool}{K:W.Frag}{H H':Hp}{l:Addr}{xs:List V}(e:Same H H')(h:SqV k K H l xs):SqV k K H' l xs:=by
 cases k with
 | true=>exact jdj (H:=H) e h
 | false=>exact jc1 (H:=H) e h
theorem jv1{ρ:Rho}{K:W.Frag}{ds:List D}{Hv:Hp}{l:Addr}{xs:List V}(h:SqL K Hv l xs)(hr:Reps ρ K Hv ds xs):ItD ρ K (Itl K l) ds Hv:=by
 intro H' G' i f hG;have h':SqL K H' l xs:=jc1 (f.trans jam) h;refine⟨fun hi=>?_,fun hi=>⟨xs,h',by rw[hr.length,hi];exact zac _⟩⟩;obtain⟨v,hv,rv⟩:=hr.get (zax hi);refine⟨⟨xs,v,h',hv⟩,fun x H2 y=>?_⟩;obtain⟨rfl,y⟩:=y;refine⟨Same.refl _,_,zax hi,?_⟩;have:=y xs h';rw[hv] at this;cases this
 exact rv.mono f
theorem jv3{ρ:Rho}{K:W.Frag}{ds:List D}{Hv:Hp}{l:Addr}{xs:List V}(h:SqT K Hv l xs)(hr:Reps ρ K Hv ds xs):ItD ρ K (Itt K l) ds Hv:=by
 intro H' G' i f hG;have h':SqT K H' l xs:=jdj (f.trans jam) h;refine⟨fun hi=>?_,fun hi=>⟨xs,h',by rw[hr.length,hi];exact zac _⟩⟩;obtain⟨v,hv,rv⟩:=hr.get (zax hi);refine⟨⟨xs,v,h',hv⟩,fun x H2 y=>?_⟩;obtain⟨rfl,y⟩:=y;refine⟨Same.refl _,_,zax hi,?_⟩;have:=y xs h';rw[hv] at this;cases this
 exact rv.mono f
theorem jog{ρ:Rho}{K:W.Frag}{Hv:Hp}{val:Nat->V}{ds:List D}{n:Nat}(hl:ds.length=n)(hv:∀ i d,ds[i]? = some d->∀ H,Rep ρ K H d (val i)):ItD ρ K (Itv val n) ds Hv:=by
 intro H' G' i f hG;subst hl;refine⟨fun hi=>⟨hi,fun x H2 y=>?_⟩,fun hi=>hi⟩;obtain⟨rfl,rfl⟩:=y;exact⟨Same.refl _,_,zax hi,hv i _ (zax hi) _⟩
theorem jv4{ρ:Rho}{K:W.Frag}{k1 k2:Bool}{ds es:List D}{Hv:Hp}{l1 l2:Addr}{xs ys:List V}(h1:SqV k1 K Hv l1 xs)(r1:Reps ρ K Hv ds xs)(h2:SqV k2 K Hv l2 ys)(r2:Reps ρ K Hv es ys):ItD ρ K (Itz k1 k2 K l1 l2) (zipD ds es) Hv:=by
 intro H' G' i f hG;have h1':SqV k1 K H' l1 xs:=jkr (f.trans jam) h1;have h2':SqV k2 K H' l2 ys:=jkr (f.trans jam) h2;refine⟨fun hi=>?_,fun hi=>⟨xs,ys,h1',h2',?_⟩⟩
 ·obtain⟨d1,d2,q1,q2,q3⟩:=jmn (zax hi);obtain⟨v,hv,rv⟩:=r1.get q1;obtain⟨u,hu,ru⟩:=r2.get q2;refine⟨⟨xs,ys,v,u,h1',h2',hv,hu⟩,fun x H2 y=>?_⟩;obtain⟨T,x1,x2,hT,rfl,rfl,y1,y2⟩:=y;have e1:=y1 xs h1';have e2:=y2 ys h2';rw[hv] at e1;cases e1
  rw[hu] at e2;cases e2
  refine⟨ja3 hT,_,zax hi,?_⟩;rw[q3];exact jcm hT (hG T hT) (Reps.cons (rv.mono f) (Reps.cons (ru.mono f) Reps.nil))
 ·rw[jmo] at hi;rw[r1.length,r2.length];omega
theorem jv0{ρ:Rho}{K:W.Frag}{ds:List D}{Hv:Hp}{l:Addr}{xs:List V}(h:SqL K Hv l xs)(hr:Reps ρ K Hv ds xs):ItD ρ K (Ite K l) (jcw 0 ds) Hv:=by
 intro H' G' i f hG;have h':SqL K H' l xs:=jc1 (f.trans jam) h;refine⟨fun hi=>?_,fun hi=>⟨xs,h',by rw[hr.length,hi,jfy];exact zac _⟩⟩;obtain⟨d,q1,q2⟩:=jhj (zax hi);obtain⟨v,hv,rv⟩:=hr.get q1;refine⟨⟨xs,v,h',hv⟩,fun x H2 y=>?_⟩;obtain⟨T,x1,hT,rfl,rfl,y1⟩:=y;have e1:=y1 xs h';rw[hv] at e1;cases e1
 refine⟨ja3 hT,_,zax hi,?_⟩;rw[q2,Int.zero_add];exact jcm hT (hG T hT) (Reps.cons (rep_int.mpr rfl) (Reps.cons (rv.mono f) Reps.nil))
theorem jgs(h:DE X O E iter fa):DI X O E tg iter (jif fa):=by
 rintro pins s σ H R I ⟨ρ,Hz,F,δ,r,RS0,hf,k⟩;refine jwy h pins s σ H R I ?_;rcases M.b_inv hf with ⟨d,e1,hf⟩|⟨y,e1,rfl⟩
 ·refine⟨ρ,Hz,F,δ,.ok d,RS0,e1,fun v H1 s1 r1=>?_⟩;obtain⟨ds,hd,rfl⟩:=M.o_inv hf
  cases d with
  | lst es =>
   cases hd;obtain⟨q,xs,rfl,q2,q3⟩:=rep_lst.mp r1;exact .inl ⟨q,rfl,⟨xs,jc1 jam q2⟩,k _ H1 s1 (jv1 q2 q3)⟩
  | tup es =>
   cases hd;obtain⟨q,xs,rfl,q2,q3⟩:=rep_tup.mp r1;exact .inr ⟨q,rfl,⟨xs,jdj jam q2⟩,k _ H1 s1 (jv3 q2 q3)⟩
  | _=>cases hd
 ·exact⟨ρ,Hz,F,δ,.error y,RS0,e1,k⟩
theorem range_len(lo hi:Int):(Builtin.Range.rangeSize lo hi 1).toNat=(hi-lo).toNat:=by
 rw[rangeSize_one];split<;>omega
theorem je3(hg:Gl X "range")(hm:X.mg "range"=none)(ha:DA X O E (a::es) fl)(hs:autoParam (starEach (a::es) X.env=(false,eval a X.env)::starEach es X.env) zau2._auto_1)(hp:autoParam ((backTo pos (starEach es X.env)).any (·.1)=false) zau2._auto_1) :
  DI X O E tg (.Call (.Name "range" p) (a::es) [] pos) (jfb jbt fl):=by
 rintro pins s σ H R I ⟨ρ,Hz,F,δ,r,RS0,hf,k⟩;refine jq6 hg hm ha hs hp pins s σ H R I ?_;rcases M.b_inv hf with ⟨d,e1,hf⟩|⟨y,e1,rfl⟩
 ·refine⟨ρ,Hz,F,δ,.ok d,RS0,e1,fun vs H1 s1 r1=>?_⟩;obtain⟨ds,hd,rfl⟩:=M.o_inv hf;unfold jbt at hd
  split at hd
  ·rename_i j;cases hd;obtain⟨v,r',rfl,q1,q2⟩:=reps_cons.mp r1;cases reps_nil.mp q2;cases rep_int.mp q1;refine .inl ⟨j,rfl,k _ H1 s1 ?_⟩;refine jog (by unfold jbe;rw[range_len];simp) fun i d hd H=>?_
   unfold jbe at hd;rw[zba] at hd
   cases q:(List.range j.toNat)[i]? with
   | none=>rw[q] at hd;cases hd
   | some m =>
    rw[q] at hd;have:m=i:=by
     have:=(zbb.mp q).2;simpa using this.symm
    subst this;cases hd;exact rep_int.mpr (by rw[Int.mul_one])
  ·rename_i i0 j;cases hd;obtain⟨v,r',rfl,q1,q2⟩:=reps_cons.mp r1;obtain⟨v2,r2,rfl,q3,q4⟩:=reps_cons.mp q2;cases reps_nil.mp q4;cases rep_int.mp q1;cases rep_int.mp q3;refine .inr ⟨i0,j,rfl,k _ H1 s1 ?_⟩;refine jog (by unfold jbe;rw[range_len];simp) fun i d hd H=>?_
   unfold jbe at hd;rw[zba] at hd
   cases q:(List.range (j-i0).toNat)[i]? with
   | none=>rw[q] at hd;cases hd
   | some m =>
    rw[q] at hd;have:m=i:=by
     have:=(zbb.mp q).2;simpa using this.symm
    subst this;cases hd;exact rep_int.mpr (by rw[Int.mul_one])
  ·cases hd
 ·exact⟨ρ,Hz,F,δ,.error y,RS0,e1,k⟩
theorem jps{ρ:Rho}{K:W.Frag}{H:Hp}{d:D}{ds:List D}{v:V}(hd:seqD d=some ds)(h:Rep ρ K H d v):∃ k l xs,v=.ref l/\SqV k K H l xs/\Reps ρ K H ds xs:=by
 cases d with
 | lst es=>cases hd;obtain⟨q,xs,rfl,q2,q3⟩:=rep_lst.mp h;exact⟨false,q,xs,rfl,q2,q3⟩
 | tup es=>cases hd;obtain⟨q,xs,rfl,q2,q3⟩:=rep_tup.mp h;exact⟨true,q,xs,rfl,q2,q3⟩
 | _=>cases hd
theorem jn2{ts:List Expr}{kk:Nat}{tp:Pos}(hg:Gl X "zip")(hm:X.mg "zip"=none)(ha:DA X O E [a,b] fl)(hs:autoParam (starEach [a,b] X.env=[(false,eval a X.env),(false,eval b X.env)]) zau2._auto_1)(hs2:autoParam (starEach [b] X.env=[(false,eval b X.env)]) zau2._auto_1) :
  DI X O E (.Tuple ts kk tp) (.Call (.Name "zip" p) [a,b] [] pos) (jfb jd9 fl):=by
 rintro pins s σ H R I ⟨ρ,Hz,F,δ,r,RS0,hf,k⟩;refine jw0 hg hm ha hs hs2 pins s σ H R I ?_;rcases M.b_inv hf with ⟨d,e1,hf⟩|⟨y,e1,rfl⟩
 ·refine⟨ρ,Hz,F,δ,.ok d,RS0,e1,fun vs H1 s1 r1=>?_⟩;obtain⟨ds,hd,rfl⟩:=M.o_inv hf;unfold jd9 at hd
  split at hd
  ·rename_i x y
   split at hd
   ·rename_i xs ys ex ey;cases hd;obtain⟨v,r',rfl,q1,q2⟩:=reps_cons.mp r1;obtain⟨v2,r2,rfl,q3,q4⟩:=reps_cons.mp q2;cases reps_nil.mp q4;obtain⟨k1,l1,us,rfl,z1,z2⟩:=jps ex q1;obtain⟨k2,l2,ws,rfl,z3,z4⟩:=jps ey q3;exact⟨k1,k2,l1,l2,us,ws,rfl,jkr jam z1,jkr jam z3,k _ H1 s1 (jv4 z1 z2 z3 z4)⟩
   ·cases hd
  ·cases hd
 ·exact⟨ρ,Hz,F,δ,.error y,RS0,e1,k⟩
theorem jk6{ts:List Expr}{kk:Nat}{tp:Pos}(hg:Gl X "enumerate")(hm:X.mg "enumerate"=none)(ha:DA X O E [a] fl)(hs:autoParam (starEach [a] X.env=[(false,eval a X.env)]) zau2._auto_1) :
  DI X O E (.Tuple ts kk tp) (.Call (.Name "enumerate" p) [a] [] pos) (jfb je4 fl):=by
 rintro pins s σ H R I ⟨ρ,Hz,F,δ,r,RS0,hf,k⟩;refine juf hg hm ha hs pins s σ H R I ?_;rcases M.b_inv hf with ⟨d,e1,hf⟩|⟨y,e1,rfl⟩
 ·refine⟨ρ,Hz,F,δ,.ok d,RS0,e1,fun vs H1 s1 r1=>?_⟩;obtain⟨ds,hd,rfl⟩:=M.o_inv hf;unfold je4 at hd
  split at hd
  ·rename_i xs;cases hd;obtain⟨v,r',rfl,q1,q2⟩:=reps_cons.mp r1;cases reps_nil.mp q2;obtain⟨l,us,rfl,z1,z2⟩:=rep_lst.mp q1;exact⟨l,us,rfl,jc1 jam z1,k _ H1 s1 (jv0 z1 z2)⟩
  ·cases hd
 ·exact⟨ρ,Hz,F,δ,.error y,RS0,e1,k⟩
noncomputable def jdk(h:D->DSt->Option DSt)(tc:DSt->M Bool)(fe:DSt->M D):List D->DSt->Option (List D)
 | [],_=>some []
 | d::ds,δ=>match h d δ with
  | none=>none
  | some δ1=>match tc δ1 with
   | some (.ok true)=>(match fe δ1 with
    | some (.ok y)=>(jdk h tc fe ds δ1).map (y::·)
    | _=>none)
   | some (.ok false)=>jdk h tc fe ds δ1
   | _=>none
noncomputable def jes(own:Nat)(caps:List (Str×Nat))(δ:DSt):DSt:=List.replicate own none++caps.map fun p=>(δ[p.2]?).join
noncomputable def jep(own:Nat)(caps:List (Str×Nat))(fi:DSt->M (List D))(h:D->DSt->Option DSt)(tc:DSt->M Bool)(fe:DSt->M D):DSt->M D:=fun δ=>(fi δ).b fun ds=>M.o ((jdk h tc fe ds (jes own caps δ)).bind jb9)
noncomputable def tYes:DSt->M Bool:=fun _=>M.p true
noncomputable def DC(X:Cx)(O:List Nat)(E:XK)(ifs:List Expr)(f:DSt->M Bool):Prop:=PC0 X ifs (tB X.K O E f)
theorem jcg:DC X O E [] tYes:=by
 rintro pins s σ H Q I ⟨ρ,Hz,F,δ,r,R,hf,h⟩;cases hf;exact jt9 pins s σ H Q I (h H (Same.refl H))
theorem jiq{own:Nat}{caps:List (Str×Nat)}{δ:DSt}{i:Nat}{d:D}(h:(jes own caps δ)[i]? = some (some d)):∃ p,caps[i-own]? = some p/\own<=i/\δ[p.2]? = some (some d):=by
 unfold jes at h
 by_cases hi:i<own
 ·rw[List.getElem?_append_left (by simpa using hi),List.getElem?_replicate,if_pos hi] at h;cases h
 ·rw[List.getElem?_append_right (by simpa using hi),List.length_replicate,zba] at h
  cases e:caps[i-own]? with
  | none=>rw[e] at h;cases h
  | some p =>
   rw[e] at h;exact⟨p,rfl,by omega,join_some (zby h)⟩
theorem jj5{own:Nat}{caps:List (Str×Nat)}{σ:St}{i:Nat}{p:Str×Nat}{v:V}(h:caps[i-own]? = some p)(hi:own<=i)(hv:σ[p.2]? = some (some v)):(jcz own caps σ)[i]? = some (some v):=by
 unfold jcz;rw[List.getElem?_append_right (by simpa using hi),List.length_replicate,zba,h];show some ((σ[p.2]?).join)=_;rw[hv];rfl
noncomputable def ji6(O:List Nat)(caps:List (Str×Nat)):Bool:=caps.all fun p=>!O.contains p.2
inductive CInv(ρ:Rho)(K:W.Frag)(H1:Hp)(F:Addr->Bool)(Dd:Addr)(tot:List D)(cd:DSt->Option (List D))(σ:St)(H:Hp):Prop
 | mk (δ:DSt) (done:List D) (zs:List V) (rest:List D) (hR:RS ρ K H1 H F [] σ δ) (hD:H Dd=some (.lst zs)) (hz:Reps ρ K (hid H F) done zs) (hr:cd δ=some rest) (ht:done++rest=tot)
theorem jcy{ifs:List Expr}{scope:Scope}{own:List Str}{caps:List (Str×Nat)}{fi:DSt->M (List D)}{h:D->DSt->Option DSt}{tc:DSt->M Bool}{fe:DSt->M D}(hc:X.calm=true)(ck:CapsOk X scope caps)(hi:DI X O E tg iter fi)
  (hg:∀ C s0 H0 ex,DG (jba X scope (own++caps.map (·.1)) C s0 H0 ex) [] tg h) (ht:∀ C s0 H0 ex,DC (jba X scope (own++caps.map (·.1)) C s0 H0 ex) [] E0 ifs tc)
  (he:∀ C s0 H0 ex,DE (jba X scope (own++caps.map (·.1)) C s0 H0 ex) [] E0 elt fe) (hcf:autoParam (ji6 O caps=true) zau2._auto_1) (hs:autoParam (∀ x,foldedSetIterable iter X.env x=pure x) zau3._auto_1) :
  DE X O E (.ListComp elt [⟨tg,iter,ifs,0⟩] scope pos) (jep own.length caps fi h tc fe):=by
 rintro pins s σ H Q I ⟨ρ,Hz,F,δ,r,R,hf,k⟩;refine jub (own:=own) (g:=tG X.K [] h) (tc:=tB X.K [] E0 tc) (te:=tD X.K [] E0 fe) hc ck hi hg ht he hs pins s σ H Q I ?_;rcases M.b_inv hf with ⟨ds,e1,hf⟩|⟨y,e1,rfl⟩
 ·refine⟨ρ,Hz,F,δ,.ok ds,R,e1,fun J H1 s1 it Dd hD=>?_⟩;obtain⟨dd,hd,rfl⟩:=M.o_inv hf
  cases hcd:jdk h tc fe ds (jes own.length caps δ) with
  | none=>rw[hcd] at hd;cases hd
  | some tot =>
   rw[hcd] at hd;have hd':jb9 tot=some dd:=hd;unfold jb9 at hd'
   split at hd'
   ·rename_i hz;cases hd';have R1:=R.mono s1;have pf:=R1.fresh hD
    let F':Addr->Bool:=fun b=>fob F σ O b || b == Dd
    have F't:∀ b,F' b=true↔fob F σ O b=true\/b=Dd:=fun b=>by show (_ || _)=true↔_;rw[Bool.or_eq_true,beq_iff_eq]
    have vis:∀ {H2:Hp},Same H1 H2->Same (hid H1 (fob F σ O)) (hid H2 F'):=fun {H2} e b o q=>by
     obtain⟨q1,q2⟩:=hid_some.mp q;refine hid_some.mpr ⟨?_,e b o q2⟩
     cases z:F' b with
     | false=>rfl
     | true =>
      rcases (F't b).mp z with z|z
      ·rw[q1] at z;cases z
      ·rw[z,hD] at q2;cases q2
    have R0:RS ρ X.K H1 (upd H1 Dd (.lst [])) F' [] (jcz own.length caps σ) (jes own.length caps δ):=by
     refine⟨by simp[jcz,jes],ja3 hD,fun b hb=>?_,fun i d hd _=>?_,fun i hi=>absurd hi (by simp),fun i hi=>absurd hi (by simp)⟩
     ·rcases (F't b).mp hb with z|z
      ·refine jgy fun q=>?_
       rw[R1.fresh q] at z;cases z
      ·rw[z,jak];exact fun q=>nomatch q
     ·obtain⟨p,p1,p2,p3⟩:=jiq hd;have hO:p.2∉O:=fun z=>by
       have:=List.all_eq_true.mp hcf p (List.mem_of_getElem? p1);rw[zbc.mpr z] at this;cases this
      obtain⟨v,q1,q2⟩:=R1.val p.2 d p3 hO;exact⟨v,jj5 p1 p2 q1,by rw[jch];exact q2.mono (vis (ja3 hD))⟩
    refine⟨fun i m σ' H'=>m=ds.length-i/\i<=ds.length/\CInv ρ X.K H1 F' Dd tot (jdk h tc fe (ds.drop i)) σ' H',
     ⟨ds.length,by simp,Nat.zero_le _,_,[],[],tot,R0,jak,Reps.nil,hcd,rfl⟩,?_⟩
    rintro i m σ' H' ⟨rfl,hil,δ',done,zs,rest,R',hDd,rz,hr,htot⟩;have fv:Same (hid H1 (fob F σ O)) (hid H' (fob F' σ' [])):=by rw[jch];exact vis R'.same
    obtain⟨j1,j2⟩:=it H' (fob F' σ' []) i fv fun p hp=>R'.fresh hp
    by_cases hlt:i<ds.length
    ·obtain⟨go,yld⟩:=j1 hlt;refine .inr ⟨go,CInv ρ X.K H1 F' Dd tot (jdk h tc fe (ds.drop (i+1))),
      fun σ2 H2 q=>⟨ds.length-(i+1),by omega,rfl,hlt,q⟩,fun x H2 y=>?_⟩
     obtain⟨s2,d,hd,rd⟩:=yld x H2 y;have hdr:ds.drop i=d::ds.drop (i+1):=by
      rw[List.drop_eq_getElem_cons hlt];have:ds[i]=d:=by rw[zax hlt] at hd;exact zby hd
      rw[this]
     rw[hdr] at hr;unfold jdk at hr
     cases e2:h d δ' with
     | none=>rw[e2] at hr;cases hr
     | some δ1 =>
      rw[e2] at hr;dsimp only at hr;refine⟨ρ,H1,F',δ',d,δ1,R'.mono s2,rd,e2,fun σ3 ef R3=>?_⟩;have keepD:∀ {H5:Hp},Same H2 H5->H5 Dd=some (.lst zs)/\Reps ρ X.K (hid H5 F') done zs:=fun {H5} e=>⟨e _ _ (s2 _ _ hDd),rz.mono (jas (s2.trans e))⟩
      split at hr
      ·rename_i e3;refine⟨ρ,H1,F',δ1,.ok true,R3,e3,fun H4 s4=>iteT ?_⟩
       split at hr
       ·rename_i yv e4;refine⟨ρ,H1,F',δ1,.ok yv,R3.mono s4,e4,fun v H5 s5 r5=>?_⟩;rw[jch] at r5;obtain⟨k1,k2⟩:=keepD (s4.trans s5)
        cases e5:jdk h tc fe (ds.drop (i+1)) δ1 with
        | none=>rw[e5] at hr;cases hr
        | some rest' =>
         rw[e5] at hr;have hr':yv::rest'=rest:=zby hr;have hFD:F' Dd=true:=(F't Dd).mpr (.inr rfl);have hh:hid (upd H5 Dd (.lst (zs++[v]))) F'=hid H5 F':=jgf hFD;refine⟨zs,k1,?_,δ1,done++[yv],zs++[v],rest',?_,jak,?_,e5,by rw[List.append_assoc,<- htot,<- hr'];rfl⟩
         ·have l1:=k2.length;have l2:=congrArg List.length htot;rw[zca,<- hr',List.length_cons] at l2;omega
         ·have R5:=R3.mono (s4.trans s5);refine⟨R5.len,jf5 R5.same hD,fun b hb=>jgy (R5.fin b hb),fun j d' hj hO=>?_,fun j hj=>absurd hj (by simp),fun j hj=>absurd hj (by simp)⟩;obtain⟨v',w1,w2⟩:=R5.val j d' hj hO;refine⟨v',w1,?_⟩;rw[jch] at w2 |-
          rw[hh];exact w2
         ·rw[hh];exact k2.append (Reps.cons r5 Reps.nil)
       ·cases hr
      ·rename_i e3;refine⟨ρ,H1,F',δ1,.ok false,R3,e3,fun H4 s4=>iteF ?_⟩;obtain⟨k1,k2⟩:=keepD s4;exact⟨δ1,done,zs,rest,R3.mono s4,k1,k2,hr,htot⟩
      ·cases hr
    ·have ei:i=ds.length:=by omega
     subst ei;rw[List.drop_length] at hr;cases hr;rw[List.append_nil] at htot;subst htot;refine .inl ⟨j2 rfl,k _ H' (s1.trans R'.same) ?_⟩;exact rep_lst.mpr ⟨Dd,zs,rfl,SqL.of (hid_some.mpr ⟨pf,hDd⟩),rz.mono (jfe fun b q=>(F't b).mpr (.inl q))⟩
   ·cases hd'
 ·exact⟨ρ,Hz,F,δ,.error y,R,e1,k⟩
end
mutual
noncomputable def okD:D->Bool
 | .ty _=>false
 | .obj _=>false
 | .tup ds=>okDs ds
 | .lst ds=>okDs ds
 | _=>true
noncomputable def okDs:List D->Bool
 | []=>true
 | d::ds=>okD d&&okDs ds
end
mutual
noncomputable def depD:D->Nat
 | .tup ds=>depDs ds+1
 | .lst ds=>depDs ds+1
 | _=>0
noncomputable def depDs:List D->Nat
 | []=>0
 | d::ds=>max (depD d) (depDs ds)
end
mutual
noncomputable def eqB:D->D->Bool
 | .non,.non=>true
 | .bl a,.bl b=>a == b
 | .bl a,.int b=>(if a then 1 else 0) == b
 | .int a,.bl b=>a == (if b then 1 else 0)
 | .int a,.int b=>a == b
 | .str a,.str b=>a == b
 | .tup a,.tup b=>eqBs a b
 | .lst a,.lst b=>eqBs a b
 | _,_=>false
noncomputable def eqBs:List D->List D->Bool
 | [],[]=>true
 | a::as,b::bs=>eqB a b&&eqBs as bs
 | _,_=>false
end
mutual
theorem jg6:∀ d:D,okD d=true->eqB d d=true
 | .non,_=>by unfold eqB;rfl
 | .bl _,_=>by unfold eqB;simp
 | .int _,_=>by unfold eqB;simp
 | .str _,_=>by unfold eqB;simp
 | .ty _,h=>by unfold okD at h;cases h
 | .obj _,h=>by unfold okD at h;cases h
 | .tup ds,h=>by unfold okD at h;unfold eqB;exact eqBs_refl ds h
 | .lst ds,h=>by unfold okD at h;unfold eqB;exact eqBs_refl ds h
theorem eqBs_refl:∀ ds:List D,okDs ds=true->eqBs ds ds=true
 | [],_=>by unfold eqBs;rfl
 | d::ds,h=>by
  unfold okDs at h;rw[Bool.and_eq_true] at h;unfold eqBs;rw[jg6 d h.1,eqBs_refl ds h.2];rfl
end
theorem jf0:∀ {as bs:List D},eqBs as bs=true->as.length=bs.length
 | [],[],_=>rfl
 | [],_::_,h=>by unfold eqBs at h;cases h
 | _::_,[],h=>by unfold eqBs at h;cases h
 | a::as,b::bs,h=>by
  unfold eqBs at h;rw[Bool.and_eq_true] at h;simp[jf0 h.2]
theorem jfz:∀ {as bs:List D},as.length=bs.length->∀ (k:Nat->Bool),(∀ j a b,as[j]? = some a->bs[j]? = some b->k j=eqB a b)->(List.range as.length).all k=eqBs as bs
 | [],[],_,k,_=>by unfold eqBs;rfl
 | [],_::_,h,_,_=>by simp at h
 | _::_,[],h,_,_=>by simp at h
 | a::as,b::bs,h,k,hk=>by
  unfold eqBs;rw[List.length_cons,List.range_succ_eq_map,List.all_cons,List.all_map,hk 0 a b rfl rfl];congr 1;exact jfz (by simpa using h) (k ∘ Nat.succ) fun j x y e1 e2=>hk (j+1) x y (by simpa using e1) (by simpa using e2)
theorem jc3:∀ {ds:List D} {i:Nat} {d:D},okDs ds=true->ds[i]? = some d->okD d=true
 | [],_,_,_,e=>by simp at e
 | d::ds,0,x,h,e=>by unfold okDs at h;rw[Bool.and_eq_true] at h;simp at e;subst e;exact h.1
 | d::ds,i+1,x,h,e=>by unfold okDs at h;rw[Bool.and_eq_true] at h;exact jc3 h.2 (by simpa using e)
theorem jeo:∀ {ds:List D} {i:Nat} {d:D},ds[i]? = some d->depD d<=depDs ds
 | [],_,_,e=>by simp at e
 | d::ds,0,x,e=>by simp at e;subst e;unfold depDs;omega
 | d::ds,i+1,x,e=>by have:=jeo (ds:=ds) (i:=i) (d:=x) (by simpa using e);unfold depDs;omega
section
variable {ρ:Rho}{X:Cx}{pins:List (Addr×Obj)}{σ:St}{H:Hp}{s:Shared}
theorem jwc{l:Addr}{xs ys:List V}(I:Inv X pins σ H s)(h1:SqT X.K H l xs)(h2:SqL X.K H l ys):False:=by
 obtain⟨i1,_,p1,_⟩:=I.tuple h1;obtain⟨i2,_,p2,_⟩:=I.list h2;exact SeqAt.ne_of_list_tuple p2.isList p1 rfl
mutual
theorem jpk(I:Inv X pins σ H s):∀ {d e:D} {v:V},okD d=true->okD e=true->Rep ρ X.K H d v->Rep ρ X.K H e v->d=e
 | .non,e,v,_,oe,h,k=>by
  cases rep_non.mp h
  cases e with
  | non=>rfl
  | bl _=>exact nomatch rep_bl.mp k
  | int _=>exact nomatch rep_int.mp k
  | str _=>exact nomatch rep_str.mp k
  | ty _=>unfold okD at oe;cases oe
  | obj _=>unfold okD at oe;cases oe
  | tup _=>obtain⟨_,_,z,_⟩:=rep_tup.mp k;cases z
  | lst _=>obtain⟨_,_,z,_⟩:=rep_lst.mp k;cases z
 | .bl b,e,v,_,oe,h,k=>by
  cases rep_bl.mp h
  cases e with
  | non=>exact nomatch rep_non.mp k
  | bl _=>cases rep_bl.mp k;rfl
  | int _=>exact nomatch rep_int.mp k
  | str _=>exact nomatch rep_str.mp k
  | ty _=>unfold okD at oe;cases oe
  | obj _=>unfold okD at oe;cases oe
  | tup _=>obtain⟨_,_,z,_⟩:=rep_tup.mp k;cases z
  | lst _=>obtain⟨_,_,z,_⟩:=rep_lst.mp k;cases z
 | .int b,e,v,_,oe,h,k=>by
  cases rep_int.mp h
  cases e with
  | non=>exact nomatch rep_non.mp k
  | bl _=>exact nomatch rep_bl.mp k
  | int _=>cases rep_int.mp k;rfl
  | str _=>exact nomatch rep_str.mp k
  | ty _=>unfold okD at oe;cases oe
  | obj _=>unfold okD at oe;cases oe
  | tup _=>obtain⟨_,_,z,_⟩:=rep_tup.mp k;cases z
  | lst _=>obtain⟨_,_,z,_⟩:=rep_lst.mp k;cases z
 | .str b,e,v,_,oe,h,k=>by
  cases rep_str.mp h
  cases e with
  | non=>exact nomatch rep_non.mp k
  | bl _=>exact nomatch rep_bl.mp k
  | int _=>exact nomatch rep_int.mp k
  | str _=>cases rep_str.mp k;rfl
  | ty _=>unfold okD at oe;cases oe
  | obj _=>unfold okD at oe;cases oe
  | tup _=>obtain⟨_,_,z,_⟩:=rep_tup.mp k;cases z
  | lst _=>obtain⟨_,_,z,_⟩:=rep_lst.mp k;cases z
 | .ty _,_,_,od,_,_,_=>by unfold okD at od;cases od
 | .obj _,_,_,od,_,_,_=>by unfold okD at od;cases od
 | .tup ds,e,v,od,oe,h,k=>by
  obtain⟨a,xs,rfl,q1,q2⟩:=rep_tup.mp h
  cases e with
  | non=>exact nomatch rep_non.mp k
  | bl _=>exact nomatch rep_bl.mp k
  | int _=>exact nomatch rep_int.mp k
  | str _=>exact nomatch rep_str.mp k
  | ty _=>unfold okD at oe;cases oe
  | obj _=>unfold okD at oe;cases oe
  | tup es =>
   obtain⟨b,ys,z,p1,p2⟩:=rep_tup.mp k;cases z;rw[I.tuple_inj q1 p1] at q2;unfold okD at od oe;rw[reps_inj I od oe q2 p2]
  | lst es =>
   obtain⟨b,ys,z,p1,p2⟩:=rep_lst.mp k;cases z;exact (jwc I q1 p1).elim
 | .lst ds,e,v,od,oe,h,k=>by
  obtain⟨a,xs,rfl,q1,q2⟩:=rep_lst.mp h
  cases e with
  | non=>exact nomatch rep_non.mp k
  | bl _=>exact nomatch rep_bl.mp k
  | int _=>exact nomatch rep_int.mp k
  | str _=>exact nomatch rep_str.mp k
  | ty _=>unfold okD at oe;cases oe
  | obj _=>unfold okD at oe;cases oe
  | tup es =>
   obtain⟨b,ys,z,p1,p2⟩:=rep_tup.mp k;cases z;exact (jwc I p1 q1).elim
  | lst es =>
   obtain⟨b,ys,z,p1,p2⟩:=rep_lst.mp k;cases z;rw[I.list_inj q1 p1] at q2;unfold okD at od oe;rw[reps_inj I od oe q2 p2]
theorem reps_inj(I:Inv X pins σ H s):∀ {ds es:List D} {vs:List V},okDs ds=true->okDs es=true->Reps ρ X.K H ds vs->Reps ρ X.K H es vs->ds=es
 | [],[],_,_,_,_,_=>rfl
 | [],_::_,_,_,_,h,k=>by cases reps_nil.mp h;obtain⟨_,_,z,_⟩:=reps_cons.mp k;cases z
 | _::_,[],_,_,_,h,k=>by cases reps_nil.mp k;obtain⟨_,_,z,_⟩:=reps_cons.mp h;cases z
 | d::ds,e::es,vs,od,oe,h,k=>by
  obtain⟨v,r,rfl,h1,h2⟩:=reps_cons.mp h;obtain⟨v',r',z,k1,k2⟩:=reps_cons.mp k;cases z;unfold okDs at od oe;rw[Bool.and_eq_true] at od oe;rw[jpk I od.1 oe.1 h1 k1,reps_inj I od.2 oe.2 h2 k2]
end
theorem jk8(I:Inv X pins σ H s):∀ (n:Nat) (A:Around) (d e:D) (v u:V) (a b:Value),depD d<=n->A.units+n+1<cLine->okD d=true->okD e=true->Rep ρ X.K H d v->Rep ρ X.K H e u->RelV v a->RelV u b ->
  SeqAt.RcAt A s a b (eqB d e)/\SeqAt.EqAt A s a b (eqB d e):=by
 intro n
 induction n with
 | zero =>
  intro A d e v u a b hd hu od oe rd re ra rb;have hu':A.units<cLine:=by omega
  have seqT:∀ {es:List D},Rep ρ X.K H (.tup es) u->∃ l its,b=.ref l/\s.heap.IsTuple l its:=fun h=>by
   obtain⟨l,xs,rfl,q1,_⟩:=rep_tup.mp h;obtain⟨its,_,p,_⟩:=I.tuple q1;exact⟨l,_,rb,p⟩
  have seqL:∀ {es:List D},Rep ρ X.K H (.lst es) u->∃ l its,b=.ref l/\s.heap.IsList l its:=fun h=>by
   obtain⟨l,xs,rfl,q1,_⟩:=rep_lst.mp h;obtain⟨its,_,p,_⟩:=I.list q1;exact⟨l,_,rb,p.isList⟩
  cases d with
  | ty _=>unfold okD at od;cases od
  | obj _=>unfold okD at od;cases od
  | tup _=>unfold depD at hd;omega
  | lst _=>unfold depD at hd;omega
  | non =>
   cases rep_non.mp rd;cases ra
   cases e with
   | ty _=>unfold okD at oe;cases oe
   | obj _=>unfold okD at oe;cases oe
   | non=>cases rep_non.mp re;cases rb;exact⟨SeqAt.RcAt.none_none,SeqAt.EqAt.same _⟩
   | bl y=>cases rep_bl.mp re;cases rb;exact⟨SeqAt.RcAt.none_bool _,SeqAt.EqAt.none_bool _⟩
   | int y=>cases rep_int.mp re;obtain⟨t,rfl⟩:=rb;exact⟨SeqAt.RcAt.none_int _ _,SeqAt.EqAt.none_int _ _⟩
   | str y=>cases rep_str.mp re;obtain⟨t,rfl⟩:=rb;exact⟨SeqAt.RcAt.none_str _ _,SeqAt.EqAt.none_str _ _⟩
   | tup es=>obtain⟨l,its,rfl,p⟩:=seqT re;exact⟨SeqAt.RcAt.none_tuple p hu',SeqAt.EqAt.none_tuple p hu'⟩
   | lst es=>obtain⟨l,its,rfl,p⟩:=seqL re;exact⟨SeqAt.RcAt.none_list p hu',SeqAt.EqAt.none_list p hu'⟩
  | bl x =>
   cases rep_bl.mp rd;cases ra
   cases e with
   | ty _=>unfold okD at oe;cases oe
   | obj _=>unfold okD at oe;cases oe
   | non=>cases rep_non.mp re;cases rb;exact⟨SeqAt.RcAt.bool_none _,SeqAt.EqAt.bool_none _⟩
   | bl y=>cases rep_bl.mp re;cases rb;exact⟨SeqAt.RcAt.bool_bool _ _,SeqAt.EqAt.bool_bool _ _⟩
   | int y=>cases rep_int.mp re;obtain⟨t,rfl⟩:=rb;exact⟨SeqAt.RcAt.bool_int _ _ _,SeqAt.EqAt.bool_int _ _ _⟩
   | str y=>cases rep_str.mp re;obtain⟨t,rfl⟩:=rb;exact⟨SeqAt.RcAt.bool_str _ _ _,SeqAt.EqAt.bool_str _ _ _⟩
   | tup es=>obtain⟨l,its,rfl,p⟩:=seqT re;exact⟨SeqAt.RcAt.bool_tuple _ p hu',SeqAt.EqAt.bool_tuple _ p hu'⟩
   | lst es=>obtain⟨l,its,rfl,p⟩:=seqL re;exact⟨SeqAt.RcAt.bool_list _ p hu',SeqAt.EqAt.bool_list _ p hu'⟩
  | int x =>
   cases rep_int.mp rd;obtain⟨ta,rfl⟩:=ra
   cases e with
   | ty _=>unfold okD at oe;cases oe
   | obj _=>unfold okD at oe;cases oe
   | non=>cases rep_non.mp re;cases rb;exact⟨SeqAt.RcAt.int_none _ _,SeqAt.EqAt.int_none _ _⟩
   | bl y=>cases rep_bl.mp re;cases rb;exact⟨SeqAt.RcAt.int_bool _ _ _,SeqAt.EqAt.int_bool _ _ _⟩
   | int y=>cases rep_int.mp re;obtain⟨t,rfl⟩:=rb;exact⟨SeqAt.RcAt.int_int _ _ _ _,SeqAt.EqAt.int_int _ _ _ _⟩
   | str y=>cases rep_str.mp re;obtain⟨t,rfl⟩:=rb;exact⟨SeqAt.RcAt.int_str _ _ _ _,SeqAt.EqAt.int_str _ _ _ _⟩
   | tup es=>obtain⟨l,its,rfl,p⟩:=seqT re;exact⟨SeqAt.RcAt.int_tuple _ _ p hu',SeqAt.EqAt.int_tuple _ _ p hu'⟩
   | lst es=>obtain⟨l,its,rfl,p⟩:=seqL re;exact⟨SeqAt.RcAt.int_list _ _ p hu',SeqAt.EqAt.int_list _ _ p hu'⟩
  | str x =>
   cases rep_str.mp rd;obtain⟨ta,rfl⟩:=ra
   cases e with
   | ty _=>unfold okD at oe;cases oe
   | obj _=>unfold okD at oe;cases oe
   | non=>cases rep_non.mp re;cases rb;exact⟨SeqAt.RcAt.str_none _ _,SeqAt.EqAt.str_none _ _⟩
   | bl y=>cases rep_bl.mp re;cases rb;exact⟨SeqAt.RcAt.str_bool _ _ _,SeqAt.EqAt.str_bool _ _ _⟩
   | int y=>cases rep_int.mp re;obtain⟨t,rfl⟩:=rb;exact⟨SeqAt.RcAt.str_int _ _ _ _,SeqAt.EqAt.str_int _ _ _ _⟩
   | str y=>cases rep_str.mp re;obtain⟨t,rfl⟩:=rb;exact⟨SeqAt.RcAt.str_str _ _ _ _,SeqAt.EqAt.str_str _ _ _ _⟩
   | tup es=>obtain⟨l,its,rfl,p⟩:=seqT re;exact⟨SeqAt.RcAt.str_tuple _ _ p hu',SeqAt.EqAt.str_tuple _ _ p hu'⟩
   | lst es=>obtain⟨l,its,rfl,p⟩:=seqL re;exact⟨SeqAt.RcAt.str_list _ _ p hu',SeqAt.EqAt.str_list _ _ p hu'⟩
 | succ n ih =>
  intro A d e v u a b hd hu od oe rd re ra rb;have hu':A.units<cLine:=by omega
  have hin:A.in1.units+n+1<cLine:=by show A.units+1+n+1<cLine;omega
  by_cases small:depD d<=n
  ·exact ih A d e v u a b small (by omega) od oe rd re ra rb
  ·-- the two are refs: the same,or apart
   have both:∀ {l m:Addr},v=.ref l->u=.ref m->a=.ref l->b=.ref m->SeqAt.RcAt A s a b (eqB d e)->SeqAt.RcAt A s a b (eqB d e)/\SeqAt.EqAt A s a b (eqB d e):=fun {l m} ev eu ea eb r=>by
    refine⟨r,?_⟩;subst ev eu ea eb
    by_cases z:l=m
    ·subst z;have:d=e:=jpk I od oe rd re;subst this;rw[jg6 d od];exact SeqAt.EqAt.same _
    ·exact SeqAt.EqAt.of_refs z r
   cases d with
   | ty _=>unfold okD at od;cases od
   | obj _=>unfold okD at od;cases od
   | non=>unfold depD at small;omega
   | bl _=>unfold depD at small;omega
   | int _=>unfold depD at small;omega
   | str _=>unfold depD at small;omega
   | tup ds =>
    obtain⟨l,xs,rfl,q1,q2⟩:=rep_tup.mp rd;cases ra;obtain⟨ix,rx,px,_⟩:=I.tuple q1;have px':s.heap.IsTuple l ix.toArray:=px;unfold okD at od;unfold depD at hd
    cases e with
    | ty _=>unfold okD at oe;cases oe
    | obj _=>unfold okD at oe;cases oe
    | non=>cases rep_non.mp re;cases rb;exact⟨SeqAt.RcAt.tuple_none px' hu',SeqAt.EqAt.tuple_none px' hu'⟩
    | bl y=>cases rep_bl.mp re;cases rb;exact⟨SeqAt.RcAt.tuple_bool _ px' hu',SeqAt.EqAt.tuple_bool _ px' hu'⟩
    | int y=>cases rep_int.mp re;obtain⟨t,rfl⟩:=rb;exact⟨SeqAt.RcAt.tuple_int _ _ px' hu',SeqAt.EqAt.tuple_int _ _ px' hu'⟩
    | str y=>cases rep_str.mp re;obtain⟨t,rfl⟩:=rb;exact⟨SeqAt.RcAt.tuple_str _ _ px' hu',SeqAt.EqAt.tuple_str _ _ px' hu'⟩
    | lst es =>
     obtain⟨m,ys,rfl,p1,p2⟩:=rep_lst.mp re;cases rb;obtain⟨iy,ry,py,_⟩:=I.list p1;unfold eqB;exact⟨SeqAt.RcAt.tuple_list px' py.isList hu',SeqAt.EqAt.tuple_list px' py.isList hu'⟩
    | tup es =>
     obtain⟨m,ys,rfl,p1,p2⟩:=rep_tup.mp re;cases rb;obtain⟨iy,ry,py,_⟩:=I.tuple p1;unfold okD at oe;refine both rfl rfl rfl rfl ?_;have lx:=rx.length;have ly:=ry.length;have mx:=q2.length;have my:=p2.length;have R:=SeqAt.RcAt.tuples (e:=fun j=>match ds[j]?,es[j]? with|some x,some y=>eqB x y|_,_=>false) px' (show s.heap.IsTuple m iy.toArray from py) hu' fun j h1 h2=>by
      have h1':j<ix.length:=by simpa using h1
      have h2':j<iy.length:=by simpa using h2
      have hj1:j<ds.length:=by omega
      have hj2:j<es.length:=by omega
      obtain⟨v1,e1,r1⟩:=q2.get (zax hj1);obtain⟨v2,e2,r2⟩:=p2.get (zax hj2);obtain⟨u1,f1,s1⟩:=rx.get e1;obtain⟨u2,f2,s2⟩:=ry.get e2;have g1:ix.toArray[j]=u1:=by rw[zax h1'] at f1;simpa using zby f1
      have g2:iy.toArray[j]=u2:=by rw[zax h2'] at f2;simpa using zby f2
      rw[g1,g2,zax hj1,zax hj2];have dd:=jeo (zax hj1);exact (ih A.in1 _ _ v1 v2 u1 u2 (by omega) hin (jc3 od (zax hj1)) (jc3 oe (zax hj2)) r1 r2 s1 s2).2
     unfold eqB;have fin:((List.range (min ix.toArray.size iy.toArray.size)).all (fun j=>match ds[j]?,es[j]? with|some x,some y=>eqB x y|_,_=>false)&&ix.toArray.size == iy.toArray.size)=eqBs ds es:=by
      simp only[zbx]
      by_cases hl:ds.length=es.length
      ·have e1:min ix.length iy.length=ds.length:=by omega
       have e2:(ix.length == iy.length)=true:=by simp;omega
       rw[e1,e2,Bool.and_true];exact jfz hl _ fun j x y z1 z2=>by rw[z1,z2]
      ·have e2:(ix.length == iy.length)=false:=by simp;omega
       rw[e2,Bool.and_false]
       cases z:eqBs ds es with
       | false=>rfl
       | true=>exact absurd (jf0 z) hl
     rw[fin] at R;exact R
   | lst ds =>
    obtain⟨l,xs,rfl,q1,q2⟩:=rep_lst.mp rd;cases ra;obtain⟨ix,rx,px,_⟩:=I.list q1;have px':s.heap.IsList l ix.toArray:=px.isList;unfold okD at od;unfold depD at hd
    cases e with
    | ty _=>unfold okD at oe;cases oe
    | obj _=>unfold okD at oe;cases oe
    | non=>cases rep_non.mp re;cases rb;exact⟨SeqAt.RcAt.list_none px' hu',SeqAt.EqAt.list_none px' hu'⟩
    | bl y=>cases rep_bl.mp re;cases rb;exact⟨SeqAt.RcAt.list_bool _ px' hu',SeqAt.EqAt.list_bool _ px' hu'⟩
    | int y=>cases rep_int.mp re;obtain⟨t,rfl⟩:=rb;exact⟨SeqAt.RcAt.list_int _ _ px' hu',SeqAt.EqAt.list_int _ _ px' hu'⟩
    | str y=>cases rep_str.mp re;obtain⟨t,rfl⟩:=rb;exact⟨SeqAt.RcAt.list_str _ _ px' hu',SeqAt.EqAt.list_str _ _ px' hu'⟩
    | tup es =>
     obtain⟨m,ys,rfl,p1,p2⟩:=rep_tup.mp re;cases rb;obtain⟨iy,ry,py,_⟩:=I.tuple p1;unfold eqB;exact⟨SeqAt.RcAt.list_tuple px' py hu',SeqAt.EqAt.list_tuple px' py hu'⟩
    | lst es =>
     obtain⟨m,ys,rfl,p1,p2⟩:=rep_lst.mp re;cases rb;obtain⟨iy,ry,py,_⟩:=I.list p1;unfold okD at oe;refine both rfl rfl rfl rfl ?_;have lx:=rx.length;have ly:=ry.length;have mx:=q2.length;have my:=p2.length;unfold eqB
     by_cases hl:ds.length=es.length
     ·have hsz:ix.toArray.size=iy.toArray.size:=by simp only[zbx];omega
      have R:=SeqAt.RcAt.lists (e:=fun j=>match ds[j]?,es[j]? with|some x,some y=>eqB x y|_,_=>false) px' py.isList hsz hu' fun j h1 h2=>by
       have h1':j<ix.length:=by simpa using h1
       have h2':j<iy.length:=by simpa using h2
       have hj1:j<ds.length:=by omega
       have hj2:j<es.length:=by omega
       obtain⟨v1,e1,r1⟩:=q2.get (zax hj1);obtain⟨v2,e2,r2⟩:=p2.get (zax hj2);obtain⟨u1,f1,s1⟩:=rx.get e1;obtain⟨u2,f2,s2⟩:=ry.get e2;have g1:ix.toArray[j]=u1:=by rw[zax h1'] at f1;simpa using zby f1
       have g2:iy.toArray[j]=u2:=by rw[zax h2'] at f2;simpa using zby f2
       rw[g1,g2,zax hj1,zax hj2];have dd:=jeo (zax hj1);exact (ih A.in1 _ _ v1 v2 u1 u2 (by omega) hin (jc3 od (zax hj1)) (jc3 oe (zax hj2)) r1 r2 s1 s2).2
      have e1:ix.toArray.size=ds.length:=by simp only[zbx];omega
      rw[e1,jfz hl _ fun j x y z1 z2=>by rw[z1,z2]] at R;exact R
     ·have R:=SeqAt.RcAt.lists_lengths (s:=s) (A:=A) px' py.isList (by simp only[zbx];simp;omega) hu'
      cases z:eqBs ds es with
      | false=>exact R
      | true=>exact absurd (jf0 z) hl
end
noncomputable def BIGN:Nat:=Classical.choose (⟨2 ^ 100000,rfl⟩:∃ n:Nat,n=2 ^ 100000)
theorem jnf:BIGN=2 ^ 100000:=Classical.choose_spec (⟨2 ^ 100000,rfl⟩:∃ n:Nat,n=2 ^ 100000)
noncomputable def BIG:Int:=(BIGN:Int)
noncomputable def DIVN:Nat:=Classical.choose (⟨2 ^ 9000,rfl⟩:∃ n:Nat,n=2 ^ 9000)
theorem jng:DIVN=2 ^ 9000:=Classical.choose_spec (⟨2 ^ 9000,rfl⟩:∃ n:Nat,n=2 ^ 9000)
noncomputable def DIVB:Int:=(DIVN:Int)
noncomputable def jfc(i:Int):Bool:=decide (-BIG<i)&&decide (i<BIG)
noncomputable def gAdd:D->D->Option D
 | .int i,.int j=>some (.int (i+j))
 | .str x,.str y=>if x.length+y.length<=sizeLine then some (.str (x++y)) else none
 | _,_=>none
noncomputable def gSub:D->D->Option D
 | .int i,.int j=>some (.int (i-j))
 | _,_=>none
noncomputable def gMul:D->D->Option D
 | .int i,.int j=>if (jfc i&&jfc j)=true then some (.int (i*j)) else none
 | .str x,.int n=>if x.length<=4096/\-4096<=n/\n<=4096 then some (.str (Txt.mul x n)) else none
 | _,_=>none
noncomputable def gMod:D->D->Option D
 | .int i,.int j=>if 0<j then some (.int (i % j)) else none
 | _,_=>none
noncomputable def jeq:D->D->Option D
 | .int i,.int j=>if 0<j/\j<DIVB then some (.int (i / j)) else none
 | _,_=>none
noncomputable def gPow:D->D->Option D
 | .int i,.int j=>if 0<=j/\j<=1000/\-(2 ^ 60)<i/\i<2 ^ 60 then some (.int (i ^ j.toNat)) else none
 | _,_=>none
noncomputable def gCmp(p:Int->Int->Bool)(q:Str->Str->Bool):D->D->Option D
 | .int i,.int j=>some (.bl (p i j))
 | .str x,.str y=>some (.bl (q x y))
 | _,_=>none
noncomputable def gLt:=gCmp (fun i j=>decide (i<j)) (fun x y=>decide (x.cps.toList<y.cps.toList))
noncomputable def gLe:=gCmp (fun i j=>decide (i<=j)) (fun x y=>!decide (y.cps.toList<x.cps.toList))
noncomputable def gGt:=gCmp (fun i j=>decide (j<i)) (fun x y=>decide (y.cps.toList<x.cps.toList))
noncomputable def gGe:=gCmp (fun i j=>decide (j<=i)) (fun x y=>!decide (x.cps.toList<y.cps.toList))
noncomputable def gEq:D->D->Option D:=fun x y=>if (okD x&&okD y&&decide (depD x<=20))=true then some (.bl (eqB x y)) else none
noncomputable def gNe:D->D->Option D:=fun x y=>if (okD x&&okD y&&decide (depD x<=20))=true then some (.bl !(eqB x y)) else none
noncomputable def jrw:D->Bool
 | .non=>true
 | _=>false
noncomputable def gIs:D->D->Option D
 | x,.non=>some (.bl (jrw x))
 | _,_=>none
noncomputable def gNeg:D->Option D
 | .int i=>some (.int (-i))
 | _=>none
noncomputable def gIx:D->D->Option D
 | .lst ds,.int i=>atI ds i
 | .tup ds,.int i=>atI ds i
 | .str z,.int i=>if z.length<=sizeLine then (atI z.cps.toList i).map fun c=>.str ⟨#[c]⟩ else none
 | _,_=>none
theorem jl0{i:Int}(h:jfc i=true):Builtin.Int.intBits i<=100001:=by
 unfold jfc at h;rw[Bool.and_eq_true,decide_eq_true_eq,decide_eq_true_eq] at h;unfold Builtin.Int.intBits
 split
 ·omega
 ·have hn:i.natAbs≠0:=by
   intro z;have:i=0:=by omega
   subst this;simp at *
  have hlt:i.natAbs<BIGN:=by
   unfold BIG at h;omega
  rw[jnf] at hlt;have:=(Nat.log2_lt (k:=100000) hn).mpr hlt;omega
theorem jst{i j:Int}(h1:jfc i=true)(h2:jfc j=true):IntMulOk i j:=by
 have b1:=jl0 h1;have b2:=jl0 h2;unfold IntMulOk;have:Builtin.Int.intTooBig ((Builtin.Int.intBits i:Int)+(Builtin.Int.intBits j:Int))=false:=by
  unfold Builtin.Int.intTooBig bitsLine;simp;omega
 intro h;rw[Bool.and_eq_true] at h;have h2:=h.2
 first
  | (rw[this] at h2;cases h2)
  | (push_cast at h2;rw[this] at h2;cases h2)
section
variable {X:Cx}
theorem op_addD:OpR X (binaryOp .Add) (fun x y H Q=>rI0 (fun i j=>.int (i+j)) x y H Q\/∃ i j,x=.str i/\y=.str j/\i.length+j.length<=sizeLine/\Q (.str (i++j)) H):=op_add.or jm6
theorem jez:OpD X.K gSub (rI0 fun i j=>.int (i-j)):=by
 intro x y d hd ρ H G u v Q hG ru rv k;unfold gSub at hd
 split at hd
 ·cases hd;exact⟨_,_,rep_int.mp ru,rep_int.mp rv,k _ H (Same.refl H) (rep_int.mpr rfl)⟩
 ·cases hd
theorem op_mulD:OpR X (binaryOp .Mult) (fun x y H Q=>rI (fun i j=>(jfc i&&jfc j)=true) (fun i j=>.int (i*j)) x y H Q\/∃ z n,x=.str z/\y=.int n/\(z.length<=4096/\-4096<=n/\n<=4096)/\Q (.str (Txt.mul z n)) H):=by
 refine OpR.or (opI fun i j t u s E Q hc q=>PyProof.Rows.mul_int q (by rw[Bool.and_eq_true] at hc;exact jst hc.1 hc.2)) ?_;intro pins s σ H x y v u Q I rx ry h;obtain⟨z,n,rfl,rfl,⟨h1,h2,h3⟩,q⟩:=h;obtain⟨t,rfl⟩:=rx;obtain⟨t',rfl⟩:=ry;refine SB.mul (PyProof.Rows.mulOk_of 4096 4096 h1 h3 (by omega) (by decide) (by decide)) fun t' k=>⟨.str (Txt.mul z n),H,I.tok _,⟨_,rfl⟩,q⟩
theorem jt8:OpD X.K gMul (fun x y H Q=>rI (fun i j=>(jfc i&&jfc j)=true) (fun i j=>.int (i*j)) x y H Q\/∃ z n,x=.str z/\y=.int n/\(z.length<=4096/\-4096<=n/\n<=4096)/\Q (.str (Txt.mul z n)) H):=by
 intro x y d hd ρ H G u v Q hG ru rv k;unfold gMul at hd
 split at hd
 ·split at hd
  ·rename_i hz;cases hd;exact .inl ⟨_,_,rep_int.mp ru,rep_int.mp rv,hz,k _ H (Same.refl H) (rep_int.mpr rfl)⟩
  ·cases hd
 ·split at hd
  ·rename_i hz;cases hd;exact .inr ⟨_,_,rep_str.mp ru,rep_int.mp rv,hz,k _ H (Same.refl H) (rep_str.mpr rfl)⟩
  ·cases hd
 ·cases hd
theorem ja9:OpD X.K gMod (rI (fun _ j=>0<j) fun i j=>.int (i % j)):=by
 intro x y d hd ρ H G u v Q hG ru rv k;unfold gMod at hd
 split at hd
 ·split at hd
  ·rename_i hz;cases hd;exact⟨_,_,rep_int.mp ru,rep_int.mp rv,hz,k _ H (Same.refl H) (rep_int.mpr rfl)⟩
  ·cases hd
 ·cases hd
theorem jc4:OpR X (binaryOp .FloorDiv) (rI (fun _ j=>0<j/\j<DIVB) fun i j=>.int (i / j)):=opI fun i j t u s E Q hc q=>by
 have e:i.fdiv j=i / j:=Int.fdiv_eq_ediv_of_nonneg i (Int.le_of_lt hc.1);refine PyProof.Rows.floordiv_int (by omega) (by rw[e];exact q) (.inl (PyProof.noPylong_of_log2 ?_));have hn:j.natAbs≠0:=by omega
 have hlt:j.natAbs<DIVN:=by
  have:=hc.2;unfold DIVB at this;omega
 rw[jng] at hlt;exact (Nat.log2_lt (k:=9000) hn).mpr hlt
theorem jc5:OpD X.K jeq (rI (fun _ j=>0<j/\j<DIVB) fun i j=>.int (i / j)):=by
 intro x y d hd ρ H G u v Q hG ru rv k;unfold jeq at hd
 split at hd
 ·split at hd
  ·rename_i hz;cases hd;exact⟨_,_,rep_int.mp ru,rep_int.mp rv,hz,k _ H (Same.refl H) (rep_int.mpr rfl)⟩
  ·cases hd
 ·cases hd
theorem jgk:OpD X.K gPow (rI CPow fun i j=>.int (i ^ j.toNat)):=by
 intro x y d hd ρ H G u v Q hG ru rv k;unfold gPow at hd
 split at hd
 ·split at hd
  ·rename_i hz;cases hd;exact⟨_,_,rep_int.mp ru,rep_int.mp rv,⟨hz.1,by omega,by omega⟩,k _ H (Same.refl H) (rep_int.mpr rfl)⟩
  ·cases hd
 ·cases hd
theorem jdn{p:Int->Int->Bool}{q:Str->Str->Bool}:OpD X.K (gCmp p q) (fun x y H Q=>rI0 (fun i j=>.bl (p i j)) x y H Q\/∃ i j,x=.str i/\y=.str j/\Q (.bl (q i j)) H):=by
 intro x y d hd ρ H G u v Q hG ru rv k;unfold gCmp at hd
 split at hd
 ·cases hd;exact .inl ⟨_,_,rep_int.mp ru,rep_int.mp rv,k _ H (Same.refl H) (rep_bl.mpr rfl)⟩
 ·cases hd;exact .inr ⟨_,_,rep_str.mp ru,rep_str.mp rv,k _ H (Same.refl H) (rep_bl.mpr rfl)⟩
 ·cases hd
theorem jt6{op:CmpOp}{q:Str->Str->Bool}(h:∀ {prog:Program} {w:World} {A:Around} {E:Value->Shared->Prop} {s:Shared} {Q:Value->Shared->Prop} (x y:Str) (t u:Tok),Q (.bool (q x y)) s->wpAny (model prog w) A (compareOp op (.str x t) (.str y u)) Q E s) :
  OpR X (compareOp op) (fun x y H Q=>∃ i j,x=.str i/\y=.str j/\Q (.bl (q i j)) H):=by
 intro pins s σ H x y v u Q I rx ry k;obtain⟨i,j,rfl,rfl,k⟩:=k;obtain⟨t,rfl⟩:=rx;obtain⟨t',rfl⟩:=ry;exact h i j t t' ⟨.bl (q i j),H,I,rfl,k⟩
theorem jo2:OpR X (compareOp .Lt) (fun x y H Q=>rI0 (fun i j=>.bl (decide (i<j))) x y H Q\/∃ i j,x=.str i/\y=.str j/\Q (.bl (decide (i.cps.toList<j.cps.toList))) H):=op_lt.or jo3
theorem jhy:OpR X (compareOp .LtE) (fun x y H Q=>rI0 (fun i j=>.bl (decide (i<=j))) x y H Q\/∃ i j,x=.str i/\y=.str j/\Q (.bl (!decide (j.cps.toList<i.cps.toList))) H):=op_le.or (jt6 fun x y t u h=>P.le_str h)
noncomputable def rEqD(K:W.Frag)(neg:Bool):R2:=fun u v H Q=>∃ ρ x y,okD x=true/\okD y=true/\depD x<=20/\Rep ρ K H x u/\Rep ρ K H y v/\Q (.bl (if neg then !eqB x y else eqB x y)) H
theorem jgu(hu:X.A.units+30<cLine):OpR X (compareOp .Eq) (rEqD X.K false):=by
 intro pins s σ H x y v u Q I rx ry h;obtain⟨ρ,d,e,o1,o2,hd,r1,r2,q⟩:=h;exact (jk8 I 20 X.A d e x y v u hd (by omega) o1 o2 r1 r2 rx ry).1 _ _ _ _ ⟨.bl (eqB d e),H,I,rfl,q⟩
theorem jgw:OpD X.K gEq (rEqD X.K false):=by
 intro x y d hd ρ H G u v Q hG ru rv k;unfold gEq at hd
 split at hd
 ·rename_i h;rw[Bool.and_eq_true,Bool.and_eq_true,decide_eq_true_eq] at h;cases hd;exact⟨ρ,x,y,h.1.1,h.1.2,h.2,ru.mono jam,rv.mono jam,k _ H (Same.refl H) (rep_bl.mpr rfl)⟩
 ·cases hd
theorem jo6:OpD X.K gNe (rEqD X.K true):=by
 intro x y d hd ρ H G u v Q hG ru rv k;unfold gNe at hd
 split at hd
 ·rename_i h;rw[Bool.and_eq_true,Bool.and_eq_true,decide_eq_true_eq] at h;cases hd;exact⟨ρ,x,y,h.1.1,h.1.2,h.2,ru.mono jam,rv.mono jam,k _ H (Same.refl H) (rep_bl.mpr rfl)⟩
 ·cases hd
theorem jox{ρ:Rho}{pins:List (Addr×Obj)}{σ:St}{H:Hp}{s:Shared}(I:Inv X pins σ H s)(A:Around){ds es:List D}{v u:V}{a b:Value}(hd:depD (.tup ds)<=20)(hu:A.units+24<cLine)(od:okD (.tup ds)=true)(oe:okD (.tup es)=true)
  (rd:Rep ρ X.K H (.tup ds) v) (re:Rep ρ X.K H (.tup es) u) (ra:RelV v a) (rb:RelV u b):SeqAt.RcNeAt A s a b (!eqB (.tup ds) (.tup es)):=by
 have hu':A.units<cLine:=by omega
 obtain⟨l,xs,rfl,q1,q2⟩:=rep_tup.mp rd;obtain⟨m,ys,rfl,p1,p2⟩:=rep_tup.mp re;cases ra;cases rb;obtain⟨ix,rx,px,_⟩:=I.tuple q1;obtain⟨iy,ry,py,_⟩:=I.tuple p1;unfold okD at od oe;unfold depD at hd;have lx:=rx.length;have ly:=ry.length;have mx:=q2.length;have my:=p2.length;have R:=SeqAt.RcNeAt.tuples (A:=A) (e:=fun j=>match ds[j]?,es[j]? with|some x,some y=>eqB x y|_,_=>false) (show s.heap.IsTuple l ix.toArray from px) (show s.heap.IsTuple m iy.toArray from py) hu' fun j h1 h2=>by
  have h1':j<ix.length:=by simpa using h1
  have h2':j<iy.length:=by simpa using h2
  have hj1:j<ds.length:=by omega
  have hj2:j<es.length:=by omega
  obtain⟨v1,e1,r1⟩:=q2.get (zax hj1);obtain⟨v2,e2,r2⟩:=p2.get (zax hj2);obtain⟨u1,f1,s1⟩:=rx.get e1;obtain⟨u2,f2,s2⟩:=ry.get e2;have g1:ix.toArray[j]=u1:=by rw[zax h1'] at f1;simpa using zby f1
  have g2:iy.toArray[j]=u2:=by rw[zax h2'] at f2;simpa using zby f2
  rw[g1,g2,zax hj1,zax hj2];have dd:=jeo (zax hj1);exact (jk8 I 20 A.in1 _ _ v1 v2 u1 u2 (by omega) (by show A.units+1+20+1<cLine;omega) (jc3 od (zax hj1)) (jc3 oe (zax hj2)) r1 r2 s1 s2).2
 unfold eqB;have fin:((List.range (min ix.toArray.size iy.toArray.size)).all (fun j=>match ds[j]?,es[j]? with|some x,some y=>eqB x y|_,_=>false)&&ix.toArray.size == iy.toArray.size)=eqBs ds es:=by
  simp only[zbx]
  by_cases hl:ds.length=es.length
  ·have e1:min ix.length iy.length=ds.length:=by omega
   have e2:(ix.length == iy.length)=true:=by simp;omega
   rw[e1,e2,Bool.and_true];exact jfz hl _ fun j x y z1 z2=>by rw[z1,z2]
  ·have e2:(ix.length == iy.length)=false:=by simp;omega
   rw[e2,Bool.and_false]
   cases z:eqBs ds es with
   | false=>rfl
   | true=>exact absurd (jf0 z) hl
 rw[fin] at R;exact R
theorem jq0{ρ:Rho}{pins:List (Addr×Obj)}{σ:St}{H:Hp}{s:Shared}(I:Inv X pins σ H s)(A:Around){ds es:List D}{v u:V}{a b:Value}(hd:depD (.lst ds)<=20)(hu:A.units+24<cLine)(od:okD (.lst ds)=true)(oe:okD (.lst es)=true)
  (rd:Rep ρ X.K H (.lst ds) v) (re:Rep ρ X.K H (.lst es) u) (ra:RelV v a) (rb:RelV u b):SeqAt.RcNeAt A s a b (!eqB (.lst ds) (.lst es)):=by
 have hu':A.units<cLine:=by omega
 obtain⟨l,xs,rfl,q1,q2⟩:=rep_lst.mp rd;obtain⟨m,ys,rfl,p1,p2⟩:=rep_lst.mp re;cases ra;cases rb;obtain⟨ix,rx,px,_⟩:=I.list q1;obtain⟨iy,ry,py,_⟩:=I.list p1;unfold okD at od oe;unfold depD at hd;have lx:=rx.length;have ly:=ry.length;have mx:=q2.length;have my:=p2.length;unfold eqB
 by_cases hl:ds.length=es.length
 ·have hsz:ix.toArray.size=iy.toArray.size:=by simp only[zbx];omega
  have R:=SeqAt.RcNeAt.lists (A:=A) (e:=fun j=>match ds[j]?,es[j]? with|some x,some y=>eqB x y|_,_=>false) px.isList py.isList hsz hu' fun j h1 h2=>by
   have h1':j<ix.length:=by simpa using h1
   have h2':j<iy.length:=by simpa using h2
   have hj1:j<ds.length:=by omega
   have hj2:j<es.length:=by omega
   obtain⟨v1,e1,r1⟩:=q2.get (zax hj1);obtain⟨v2,e2,r2⟩:=p2.get (zax hj2);obtain⟨u1,f1,s1⟩:=rx.get e1;obtain⟨u2,f2,s2⟩:=ry.get e2;have g1:ix.toArray[j]=u1:=by rw[zax h1'] at f1;simpa using zby f1
   have g2:iy.toArray[j]=u2:=by rw[zax h2'] at f2;simpa using zby f2
   rw[g1,g2,zax hj1,zax hj2];have dd:=jeo (zax hj1);exact (jk8 I 20 A.in1 _ _ v1 v2 u1 u2 (by omega) (by show A.units+1+20+1<cLine;omega) (jc3 od (zax hj1)) (jc3 oe (zax hj2)) r1 r2 s1 s2).2
  have e1:ix.toArray.size=ds.length:=by simp only[zbx];omega
  rw[e1,jfz hl _ fun j x y z1 z2=>by rw[z1,z2]] at R;exact R
 ·have R:=SeqAt.RcNeAt.lists_lengths (s:=s) (A:=A) px.isList py.isList (by simp only[zbx];simp;omega) hu'
  cases z:eqBs ds es with
  | false=>exact R
  | true=>exact absurd (jf0 z) hl
theorem jws{ρ:Rho}{pins:List (Addr×Obj)}{σ:St}{H:Hp}{s:Shared}(I:Inv X pins σ H s)(A:Around)(d e:D)(v u:V)(a b:Value)(hd:depD d<=20)(hu:A.units+24<cLine)(od:okD d=true)(oe:okD e=true)(rd:Rep ρ X.K H d v)(re:Rep ρ X.K H e u)(ra:RelV v a)(rb:RelV u b) :
  SeqAt.RcNeAt A s a b (!eqB d e):=by
 have hu':A.units<cLine:=by omega
 have seqT:∀ {es:List D} {w:V} {c:Value},Rep ρ X.K H (.tup es) w->RelV w c->∃ l its,c=.ref l/\s.heap.IsTuple l its:=fun h rc=>by
  obtain⟨l,xs,rfl,q1,_⟩:=rep_tup.mp h;obtain⟨its,_,p,_⟩:=I.tuple q1;exact⟨l,_,rc,p⟩
 have seqL:∀ {es:List D} {w:V} {c:Value},Rep ρ X.K H (.lst es) w->RelV w c->∃ l its,c=.ref l/\s.heap.IsList l its:=fun h rc=>by
  obtain⟨l,xs,rfl,q1,_⟩:=rep_lst.mp h;obtain⟨its,_,p,_⟩:=I.list q1;exact⟨l,_,rc,p.isList⟩
 cases d with
 | ty _=>unfold okD at od;cases od
 | obj _=>unfold okD at od;cases od
 | non =>
  cases e with
  | ty _=>unfold okD at oe;cases oe
  | obj _=>unfold okD at oe;cases oe
  | non=>cases rep_non.mp rd;cases ra;cases rep_non.mp re;cases rb;unfold eqB;exact SeqAt.RcNeAt.none_none
  | bl y=>cases rep_non.mp rd;cases ra;cases rep_bl.mp re;cases rb;unfold eqB;exact SeqAt.RcNeAt.none_bool _
  | int y=>cases rep_non.mp rd;cases ra;cases rep_int.mp re;obtain⟨t2,rfl⟩:=rb;unfold eqB;exact SeqAt.RcNeAt.none_int _ _
  | str y=>cases rep_non.mp rd;cases ra;cases rep_str.mp re;obtain⟨t2,rfl⟩:=rb;unfold eqB;exact SeqAt.RcNeAt.none_str _ _
  | tup y=>cases rep_non.mp rd;cases ra;obtain⟨l2,i2,rfl,p2⟩:=seqT re rb;unfold eqB;exact SeqAt.RcNeAt.none_tuple p2 hu'
  | lst y=>cases rep_non.mp rd;cases ra;obtain⟨l2,i2,rfl,p2⟩:=seqL re rb;unfold eqB;exact SeqAt.RcNeAt.none_list p2 hu'
 | bl x =>
  cases e with
  | ty _=>unfold okD at oe;cases oe
  | obj _=>unfold okD at oe;cases oe
  | non=>cases rep_bl.mp rd;cases ra;cases rep_non.mp re;cases rb;unfold eqB;exact SeqAt.RcNeAt.bool_none _
  | bl y=>cases rep_bl.mp rd;cases ra;cases rep_bl.mp re;cases rb;unfold eqB;exact SeqAt.RcNeAt.bool_bool _ _
  | int y=>cases rep_bl.mp rd;cases ra;cases rep_int.mp re;obtain⟨t2,rfl⟩:=rb;unfold eqB;exact SeqAt.RcNeAt.bool_int _ _ _
  | str y=>cases rep_bl.mp rd;cases ra;cases rep_str.mp re;obtain⟨t2,rfl⟩:=rb;unfold eqB;exact SeqAt.RcNeAt.bool_str _ _ _
  | tup y=>cases rep_bl.mp rd;cases ra;obtain⟨l2,i2,rfl,p2⟩:=seqT re rb;unfold eqB;exact SeqAt.RcNeAt.bool_tuple _ p2 hu'
  | lst y=>cases rep_bl.mp rd;cases ra;obtain⟨l2,i2,rfl,p2⟩:=seqL re rb;unfold eqB;exact SeqAt.RcNeAt.bool_list _ p2 hu'
 | int x =>
  cases e with
  | ty _=>unfold okD at oe;cases oe
  | obj _=>unfold okD at oe;cases oe
  | non=>cases rep_int.mp rd;obtain⟨t1,rfl⟩:=ra;cases rep_non.mp re;cases rb;unfold eqB;exact SeqAt.RcNeAt.int_none _ _
  | bl y=>cases rep_int.mp rd;obtain⟨t1,rfl⟩:=ra;cases rep_bl.mp re;cases rb;unfold eqB;exact SeqAt.RcNeAt.int_bool _ _ _
  | int y=>cases rep_int.mp rd;obtain⟨t1,rfl⟩:=ra;cases rep_int.mp re;obtain⟨t2,rfl⟩:=rb;unfold eqB;exact SeqAt.RcNeAt.int_int _ _ _ _
  | str y=>cases rep_int.mp rd;obtain⟨t1,rfl⟩:=ra;cases rep_str.mp re;obtain⟨t2,rfl⟩:=rb;unfold eqB;exact SeqAt.RcNeAt.int_str _ _ _ _
  | tup y=>cases rep_int.mp rd;obtain⟨t1,rfl⟩:=ra;obtain⟨l2,i2,rfl,p2⟩:=seqT re rb;unfold eqB;exact SeqAt.RcNeAt.int_tuple _ _ p2 hu'
  | lst y=>cases rep_int.mp rd;obtain⟨t1,rfl⟩:=ra;obtain⟨l2,i2,rfl,p2⟩:=seqL re rb;unfold eqB;exact SeqAt.RcNeAt.int_list _ _ p2 hu'
 | str x =>
  cases e with
  | ty _=>unfold okD at oe;cases oe
  | obj _=>unfold okD at oe;cases oe
  | non=>cases rep_str.mp rd;obtain⟨t1,rfl⟩:=ra;cases rep_non.mp re;cases rb;unfold eqB;exact SeqAt.RcNeAt.str_none _ _
  | bl y=>cases rep_str.mp rd;obtain⟨t1,rfl⟩:=ra;cases rep_bl.mp re;cases rb;unfold eqB;exact SeqAt.RcNeAt.str_bool _ _ _
  | int y=>cases rep_str.mp rd;obtain⟨t1,rfl⟩:=ra;cases rep_int.mp re;obtain⟨t2,rfl⟩:=rb;unfold eqB;exact SeqAt.RcNeAt.str_int _ _ _ _
  | str y=>cases rep_str.mp rd;obtain⟨t1,rfl⟩:=ra;cases rep_str.mp re;obtain⟨t2,rfl⟩:=rb;unfold eqB;exact SeqAt.RcNeAt.str_str _ _ _ _
  | tup y=>cases rep_str.mp rd;obtain⟨t1,rfl⟩:=ra;obtain⟨l2,i2,rfl,p2⟩:=seqT re rb;unfold eqB;exact SeqAt.RcNeAt.str_tuple _ _ p2 hu'
  | lst y=>cases rep_str.mp rd;obtain⟨t1,rfl⟩:=ra;obtain⟨l2,i2,rfl,p2⟩:=seqL re rb;unfold eqB;exact SeqAt.RcNeAt.str_list _ _ p2 hu'
 | tup x =>
  cases e with
  | ty _=>unfold okD at oe;cases oe
  | obj _=>unfold okD at oe;cases oe
  | non=>obtain⟨l1,i1,rfl,p1⟩:=seqT rd ra;cases rep_non.mp re;cases rb;unfold eqB;exact SeqAt.RcNeAt.tuple_none p1 hu'
  | bl y=>obtain⟨l1,i1,rfl,p1⟩:=seqT rd ra;cases rep_bl.mp re;cases rb;unfold eqB;exact SeqAt.RcNeAt.tuple_bool _ p1 hu'
  | int y=>obtain⟨l1,i1,rfl,p1⟩:=seqT rd ra;cases rep_int.mp re;obtain⟨t2,rfl⟩:=rb;unfold eqB;exact SeqAt.RcNeAt.tuple_int _ _ p1 hu'
  | str y=>obtain⟨l1,i1,rfl,p1⟩:=seqT rd ra;cases rep_str.mp re;obtain⟨t2,rfl⟩:=rb;unfold eqB;exact SeqAt.RcNeAt.tuple_str _ _ p1 hu'
  | tup y=>exact jox I A hd hu od oe rd re ra rb
  | lst y=>obtain⟨l1,i1,rfl,p1⟩:=seqT rd ra;obtain⟨l2,i2,rfl,p2⟩:=seqL re rb;unfold eqB;exact SeqAt.RcNeAt.tuple_list p1 p2 hu'
 | lst x =>
  cases e with
  | ty _=>unfold okD at oe;cases oe
  | obj _=>unfold okD at oe;cases oe
  | non=>obtain⟨l1,i1,rfl,p1⟩:=seqL rd ra;cases rep_non.mp re;cases rb;unfold eqB;exact SeqAt.RcNeAt.list_none p1 hu'
  | bl y=>obtain⟨l1,i1,rfl,p1⟩:=seqL rd ra;cases rep_bl.mp re;cases rb;unfold eqB;exact SeqAt.RcNeAt.list_bool _ p1 hu'
  | int y=>obtain⟨l1,i1,rfl,p1⟩:=seqL rd ra;cases rep_int.mp re;obtain⟨t2,rfl⟩:=rb;unfold eqB;exact SeqAt.RcNeAt.list_int _ _ p1 hu'
  | str y=>obtain⟨l1,i1,rfl,p1⟩:=seqL rd ra;cases rep_str.mp re;obtain⟨t2,rfl⟩:=rb;unfold eqB;exact SeqAt.RcNeAt.list_str _ _ p1 hu'
  | tup y=>obtain⟨l1,i1,rfl,p1⟩:=seqL rd ra;obtain⟨l2,i2,rfl,p2⟩:=seqT re rb;unfold eqB;exact SeqAt.RcNeAt.list_tuple p1 p2 hu'
  | lst y=>exact jq0 I A hd hu od oe rd re ra rb
theorem jo4(hu:X.A.units+30<cLine):OpR X (compareOp .NotEq) (rEqD X.K true):=by
 intro pins s σ H x y v u Q I rx ry h;obtain⟨ρ,d,e,o1,o2,hd,r1,r2,q⟩:=h;exact jws I X.A d e x y v u hd (by omega) o1 o2 r1 r2 rx ry _ _ _ _ ⟨.bl (!eqB d e),H,I,rfl,q⟩
theorem jo5:OpD X.K gIs (fun x y H Q=>y=.non/\Q (.bl (decide (x=.non))) H):=by
 intro x y d hd ρ H G u v Q hG ru rv k
 cases y with
 | non =>
  cases hd;refine⟨rep_non.mp rv,?_⟩;have e:decide (u=V.non)=jrw x:=by
   cases x with
   | non=>cases rep_non.mp ru;rfl
   | bl _=>cases rep_bl.mp ru;rfl
   | int _=>cases rep_int.mp ru;rfl
   | str _=>cases rep_str.mp ru;rfl
   | ty _=>cases rep_ty.mp ru;rfl
   | obj _=>obtain⟨_,_,rfl⟩:=rep_obj.mp ru;rfl
   | tup _=>obtain⟨_,_,rfl,_⟩:=rep_tup.mp ru;rfl
   | lst _=>obtain⟨_,_,rfl,_⟩:=rep_lst.mp ru;rfl
  rw[e];exact k _ H (Same.refl H) (rep_bl.mpr rfl)
 | _=>cases hd
theorem jpl{ρ:Rho}{K:W.Frag}{H:Hp}{ds:List D}{xs:List V}{i:Int}{d:D}(h:Reps ρ K H ds xs)(e:atI ds i=some d):∃ v,atI xs i=some v/\Rep ρ K H d v:=by
 unfold atI at e |-
 rw[h.length]
 cases z:ixN ds.length i with
 | none=>rw[z] at e;cases e
 | some j=>rw[z] at e;exact h.get e
theorem jao:OpD X.K gIx (rIx X.K):=by
 intro x y d hd ρ H G u v Q hG ru rv k;unfold gIx at hd
 split at hd
 ·obtain⟨a,xs,rfl,q1,q2⟩:=rep_lst.mp ru;obtain⟨w,e,r⟩:=jpl q2 hd;exact .inl ⟨a,xs,_,w,rfl,rep_int.mp rv,jc1 jam q1,e,k w H (Same.refl H) r⟩
 ·obtain⟨a,xs,rfl,q1,q2⟩:=rep_tup.mp ru;obtain⟨w,e,r⟩:=jpl q2 hd;exact .inr (.inl ⟨a,xs,_,w,rfl,rep_int.mp rv,jdj jam q1,e,k w H (Same.refl H) r⟩)
 ·split at hd
  ·rename_i z i hz
   cases e:atI z.cps.toList i with
   | none=>rw[e] at hd;cases hd
   | some c =>
    rw[e] at hd;cases hd;exact .inr (.inr ⟨z,i,c,rep_str.mp ru,rep_int.mp rv,hz,e,k _ H (Same.refl H) (rep_str.mpr rfl)⟩)
  ·cases hd
 ·cases hd
noncomputable def kLen:List D->Option D
 | [.lst ds]=>some (.int ds.length)
 | [.tup ds]=>some (.int ds.length)
 | [.str z]=>if z.length<=sizeLine then some (.int z.length) else none
 | _=>none
theorem jgl{ρ:Rho}{K:W.Frag}{H:Hp}{d:D}{vs:List V}(h:Reps ρ K H [d] vs):∃ v,vs=[v]/\Rep ρ K H d v:=by
 obtain⟨v,r,rfl,q1,q2⟩:=reps_cons.mp h;cases reps_nil.mp q2;exact⟨v,rfl,q1⟩
theorem jy1{ρ:Rho}{K:W.Frag}{H:Hp}{d e:D}{vs:List V}(h:Reps ρ K H [d,e] vs):∃ v u,vs=[v,u]/\Rep ρ K H d v/\Rep ρ K H e u:=by
 obtain⟨v,r,rfl,q1,q2⟩:=reps_cons.mp h;obtain⟨u,rfl,q3⟩:=jgl q2;exact⟨v,u,rfl,q1,q3⟩
theorem jbn:CallR X (.builtin "len") (fun xs H Q=>(∃ p ys,xs=[.ref p]/\(SqL X.K H p ys\/SqT X.K H p ys)/\Q (.int ys.length) H)\/∃ z,xs=[.str z]/\z.length<=sizeLine/\Q (.int z.length) H):=call_len_seq.or jjx
theorem jdc:CaD X.K kLen (fun xs H Q=>(∃ p ys,xs=[.ref p]/\(SqL X.K H p ys\/SqT X.K H p ys)/\Q (.int ys.length) H)\/∃ z,xs=[.str z]/\z.length<=sizeLine/\Q (.int z.length) H):=by
 intro xs d hd ρ H G us Q hG ru k;unfold kLen at hd
 split at hd
 ·cases hd;obtain⟨v,rfl,q⟩:=jgl ru;obtain⟨a,ys,rfl,q1,q2⟩:=rep_lst.mp q;exact .inl ⟨a,ys,rfl,.inl (jc1 jam q1),k _ H (Same.refl H) (rep_int.mpr (by rw[q2.length]))⟩
 ·cases hd;obtain⟨v,rfl,q⟩:=jgl ru;obtain⟨a,ys,rfl,q1,q2⟩:=rep_tup.mp q;exact .inl ⟨a,ys,rfl,.inr (jdj jam q1),k _ H (Same.refl H) (rep_int.mpr (by rw[q2.length]))⟩
 ·split at hd
  ·rename_i z hz;cases hd;obtain⟨v,rfl,q⟩:=jgl ru;cases rep_str.mp q;exact .inr ⟨z,rfl,hz,k _ H (Same.refl H) (rep_int.mpr rfl)⟩
  ·cases hd
 ·cases hd
noncomputable def kTuple:List D->Option D
 | [.lst ds]=>some (.tup ds)
 | [.tup ds]=>some (.tup ds)
 | _=>none
theorem jem:CaD X.K kTuple (fun xs H Q=>∃ p ys,xs=[.ref p]/\((SqL X.K H p ys/\∀ l,H l=none->Q (.ref l) (upd H l (.tup ys)))\/(SqT X.K H p ys/\Q (.ref p) H))):=by
 intro xs d hd ρ H G us Q hG ru k;unfold kTuple at hd
 split at hd
 ·cases hd;obtain⟨v,rfl,q⟩:=jgl ru;obtain⟨a,ys,rfl,q1,q2⟩:=rep_lst.mp q;exact⟨a,ys,rfl,.inl ⟨jc1 jam q1,fun l hl=>k _ _ (ja3 hl) (jcm hl (hG l hl) q2)⟩⟩
 ·cases hd;obtain⟨v,rfl,q⟩:=jgl ru;obtain⟨a,ys,rfl,q1,q2⟩:=rep_tup.mp q;exact⟨a,ys,rfl,.inr ⟨jdj jam q1,k _ H (Same.refl H) q⟩⟩
 ·cases hd
noncomputable def kList:List D->Option D
 | [.lst ds]=>some (.lst ds)
 | [.tup ds]=>some (.lst ds)
 | _=>none
theorem ji5:CaD X.K kList (fun xs H Q=>∃ p ys,xs=[.ref p]/\(SqL X.K H p ys\/SqT X.K H p ys)/\∀ l,H l=none->Q (.ref l) (upd H l (.lst ys))):=by
 intro xs d hd ρ H G us Q hG ru k;unfold kList at hd
 split at hd
 ·cases hd;obtain⟨v,rfl,q⟩:=jgl ru;obtain⟨a,ys,rfl,q1,q2⟩:=rep_lst.mp q;exact⟨a,ys,rfl,.inl (jc1 jam q1),fun l hl=>k _ _ (ja3 hl) (jd8 hl (hG l hl) q2)⟩
 ·cases hd;obtain⟨v,rfl,q⟩:=jgl ru;obtain⟨a,ys,rfl,q1,q2⟩:=rep_tup.mp q;exact⟨a,ys,rfl,.inr (jdj jam q1),fun l hl=>k _ _ (ja3 hl) (jd8 hl (hG l hl) q2)⟩
 ·cases hd
noncomputable def kMin:List D->Option D
 | [.int i,.int j]=>some (.int (if j<i then j else i))
 | _=>none
noncomputable def kInt:List D->Option D
 | [.int i]=>some (.int i)
 | [.bl k]=>some (.int (if k then 1 else 0))
 | _=>none
noncomputable def jig:List D->Option (List Int)
 | []=>some []
 | .int i::ds=>(jig ds).map (i::·)
 | _::_=>none
theorem jmc:∀ {ds:List D} {ns:List Int},jig ds=some ns->ds=ns.map .int
 | [],_,h=>by cases h;rfl
 | .int i::ds,ns,h=>by
  unfold jig at h
  cases e:jig ds with
  | none=>rw[e] at h;cases h
  | some ms=>rw[e] at h;cases h;rw[jmc e];rfl
 | .non::_,_,h=>by cases h
 | .bl _::_,_,h=>by cases h
 | .str _::_,_,h=>by cases h
 | .ty _::_,_,h=>by cases h
 | .obj _::_,_,h=>by cases h
 | .tup _::_,_,h=>by cases h
 | .lst _::_,_,h=>by cases h
theorem job(ns:List Int):jig (ns.map .int)=some ns:=by
 induction ns with
 | nil=>rfl
 | cons n ns ih=>rw[List.map_cons];unfold jig;rw[ih];rfl
noncomputable def kSum:List D->Option D
 | [d]=>match seqD d with
  | some ds=>(jig ds).map fun ns=>.int ns.sum
  | none=>none
 | _=>none
theorem jpb(ns:List Int):∀ k,k<=ns.length->preSum (fun i=>ns.getD i 0) k=(ns.take k).sum:=by
 intro k
 induction k with
 | zero=>intro _;rfl
 | succ k ih =>
  intro h;show preSum _ k+ns.getD k 0=_;rw[ih (by omega),List.take_succ,List.sum_append];congr 1;rw[List.getD_eq_getElem?_getD,zax (by omega)];simp
theorem jjy(hc:X.calm=true):CallR X (.builtin "sum") (fun xs H Q=>∃ k p,∃ ns:List Int,xs=[.ref p]/\SqV k X.K H p (ns.map V.int)/\Q (.int ns.sum) H):=by
 intro pins s σ H xs us Q I r h;obtain⟨k,p,ns,rfl,hq,q⟩:=h;obtain⟨u,rfl,rx⟩:=r.one;cases rx;obtain⟨its,rv,src,hz⟩:=I.src hq;have hl:=rv.length;rw[zav] at hl;have hh:X.A.in1.handled=none:=I.ok.hd hc;have val:∀ (i:Nat) v,its.toArray[i]? = some v->∃ t,v=.int (ns.getD i 0) t:=fun i v e=>by
  have hi:i<ns.length:=by rw[hl];have:=(Array.getElem?_eq_some_iff.mp e).1;simpa using this
  obtain⟨v',e1,r1⟩:=rv.get (i:=i) (x:=.int ns[i]) (by rw[zba,zax hi];rfl);have:v=v':=by
   have e':its[i]? = some v:=by simpa using e
   rw[e'] at e1;exact zby e1
  subst this;rw[List.getD_eq_getElem?_getD,zax hi];exact r1
 have fin:∀ {it:Addr} {s2:Shared} {h':Heap} {tk:Nat} {t':Tok},s.heap.objs.size=it->(∀ b o,s.heap.get? b=some o->s2.heap.get? b=some o)->s2={ s with heap:=s2.heap }->(∀ b o,b∉[it]->s2.heap.get? b=some o->h'.get? b=some o) ->
   EP X pins σ Q (.int (preSum (fun i=>ns.getD i 0) its.toArray.size) t') { s2 with heap:=h',toks:=tk }:=fun {it s2 h' tk t'} e1 e2 e3 e4=>by
  have ep:preSum (fun i=>ns.getD i 0) its.toArray.size=ns.sum:=by
   rw[zbx,<- hl,jpb ns _ (zac _),List.take_length]
  rw[ep,e3];refine⟨.int ns.sum,H,I.kept fun b o e=>e4 b o ?_ (e2 b o e),⟨_,rfl⟩,q⟩;intro z;have:b=it:=by simpa using z
  rw[this,<- e1] at e;exact absurd (zbv e) (Nat.lt_irrefl _)
 refine call_sum_walkG ?_
 cases k with
 | true =>
  have src':s.heap.IsTuple p its.toArray:=src;have hp:p<s.heap.objs.size:=by obtain⟨o,e,_⟩:=src';exact zbv e
  refine wpAny_pyIter_tuple src' ?_;refine⟨_,_,_,_,_,_,_,rfl,Walks.tuple hh s.heap.objs.size p (zcv hp) its.toArray,⟨⟨_,zbz _ rfl,rfl,rfl⟩,src'.at fun o e=>zaz _ e⟩,fun b hb=>?_,val,fun h' tk t' kp=>fin rfl (fun b o e=>zaz _ e) rfl kp⟩;rw[Heap.size_push];simp only[List.mem_cons,List.not_mem_nil,or_false] at hb;rcases hb with rfl|rfl
  ·exact Nat.lt_succ_self _
  ·exact Nat.lt_succ_of_lt hp
 | false =>
  have src':s.heap.IsList p its.toArray:=src;have hp:p<s.heap.objs.size:=by obtain⟨o,e,_⟩:=src';exact zbv e
  refine wpAny_pyIter_list src' ?_;refine⟨_,_,_,_,_,_,_,rfl,Walks.list hh s.heap.objs.size p (zcv hp) its.toArray,⟨⟨_,zbz _ rfl,rfl,rfl⟩,src'.at fun o e=>zaz _ e⟩,fun b hb=>?_,val,fun h' tk t' kp=>fin rfl (fun b o e=>zaz _ e) rfl kp⟩;rw[Heap.size_push];simp only[List.mem_cons,List.not_mem_nil,or_false] at hb;rcases hb with rfl|rfl
  ·exact Nat.lt_succ_self _
  ·exact Nat.lt_succ_of_lt hp
theorem jnp:CaD X.K kSum (fun xs H Q=>∃ k p,∃ ns:List Int,xs=[.ref p]/\SqV k X.K H p (ns.map V.int)/\Q (.int ns.sum) H):=by
 intro xs d hd ρ H G us Q hG ru k;unfold kSum at hd
 split at hd
 ·rename_i d0
  split at hd
  ·rename_i ds es
   cases e:jig ds with
   | none=>rw[e] at hd;cases hd
   | some ns =>
    rw[e] at hd;cases hd;obtain⟨v,rfl,q⟩:=jgl ru;obtain⟨kk,l,ys,rfl,q1,q2⟩:=jps es q;rw[jmc e] at q2;rw[reps_ints.mp q2] at q1;exact⟨kk,l,ns,rfl,jkr jam q1,k _ H (Same.refl H) (rep_int.mpr rfl)⟩
  ·cases hd
 ·cases hd
noncomputable def isiD(T:String):D->Option Bool
 | .non=>some (T == "NoneType")
 | .bl _=>some (T == "bool" || T == "int")
 | .int _=>some (T == "int")
 | .str _=>some (T == "str")
 | .tup _=>some (T == "tuple")
 | .lst _=>some (T == "list")
 | _=>none
noncomputable def kIsi:List D->Option D
 | [d,.ty T]=>if T="int"\/T="bool"\/T="tuple"\/T="list"\/T="str" then (isiD T d).map .bl else none
 | _=>none
end
section
variable {X:Cx}
noncomputable def rIsi(K:W.Frag):List V->Hp->VK->Prop:=fun xs H Q=>∃ ρ d v T b,xs=[v,.ty T]/\Rep ρ K H d v/\kIsi [d,.ty T]=some (.bl b)/\Q (.bl b) H
theorem jjw:CallR X (.builtin "isinstance") (rIsi X.K):=by
 intro pins s σ H xs us Q I r h;obtain⟨ρ,d,v,T,b,rfl,rd,hk,q⟩:=h;obtain⟨u,c,rfl,ru,rc⟩:=r.two;cases rc;have fin:∀ tk,EP X pins σ Q (.bool b) { s with toks:=tk }:=fun tk=>⟨.bl b,H,I.tok _,rfl,q⟩
 have hk2:(if T="int"\/T="bool"\/T="tuple"\/T="list"\/T="str" then (isiD T d).map D.bl else none)=some (.bl b):=hk
 clear hk
 by_cases hT:T="int"\/T="bool"\/T="tuple"\/T="list"\/T="str"
 ·rw[if_pos hT] at hk2;have hk:=hk2
  clear hk2
  cases d with
  | ty _=>cases hk
  | obj _=>cases hk
  | non =>
   cases rep_non.mp rd;cases ru
   rcases hT with rfl|rfl|rfl|rfl|rfl<;>(cases hk;exact W.kia_one W.kitx_none I.kIn True.intro rfl (fun z=>nomatch z) fin)
  | bl x =>
   cases rep_bl.mp rd;cases ru
   rcases hT with rfl|rfl|rfl|rfl|rfl<;>(cases hk;exact W.kia_one W.kitx_bool I.kIn True.intro rfl (fun z=>nomatch z) fin)
  | int x =>
   cases rep_int.mp rd;obtain⟨t,rfl⟩:=ru
   rcases hT with rfl|rfl|rfl|rfl|rfl<;>(cases hk;exact W.kia_one W.kitx_int I.kIn True.intro rfl (fun z=>nomatch z) fin)
  | str x =>
   cases rep_str.mp rd;obtain⟨t,rfl⟩:=ru
   rcases hT with rfl|rfl|rfl|rfl|rfl<;>(cases hk;exact W.kia_one W.kitx_str I.kIn True.intro rfl (fun z=>nomatch z) fin)
  | tup x =>
   obtain⟨a,ys,rfl,q1,q2⟩:=rep_tup.mp rd;cases ru;obtain⟨its,_,⟨o,e,hc,_⟩,_⟩:=I.tuple q1;rcases hT with rfl|rfl|rfl|rfl|rfl<;>(cases hk;exact W.kia_one W.kitx_tuple I.kIn ⟨o,e,hc⟩ rfl (fun z=>nomatch z) fin)
  | lst x =>
   obtain⟨a,ys,rfl,q1,q2⟩:=rep_lst.mp rd;cases ru;obtain⟨its,_,p,_⟩:=I.list q1;obtain⟨o,e,hc,_⟩:=p.isList;rcases hT with rfl|rfl|rfl|rfl|rfl<;>(cases hk;exact W.kia_one W.kitx_list I.kIn ⟨o,e,hc⟩ rfl (fun z=>nomatch z) fin)
 ·rw[if_neg hT] at hk2;cases hk2
theorem jno:CaD X.K kIsi (rIsi X.K):=by
 intro xs d hd ρ H G us Q hG ru k;have hd0:=hd;unfold kIsi at hd
 split at hd
 ·rename_i d0 T
  split at hd
  ·obtain⟨v,u,rfl,q1,q2⟩:=jy1 ru;cases rep_ty.mp q2
   cases e:isiD T d0 with
   | none=>rw[e] at hd;cases hd
   | some b =>
    rw[e] at hd;cases hd;exact⟨ρ,d0,v,T,b,rfl,q1.mono jam,hd0,k _ H (Same.refl H) (rep_bl.mpr rfl)⟩
  ·cases hd
 ·cases hd
theorem jn1{O:List Nat}{E:XK}{x:Str}{T:String}{pos:Pos}(hg:Gl X x)(hm:X.mg x=none)(hv:bootBuiltins x=some (.type T))(hn:autoParam (x≠"__name__") zau1._auto_1)(hd:autoParam ((x == ("__debug__":Str))=false) zau1._auto_1):DE X O E (.Name x pos) (fC (.ty T)) :=
 jin (t:=tC (.ty T)) (v:=.ty T) (jo7 (v:=.ty T) hg hm hv rfl hn hd) fun _ _=>rep_ty.mpr rfl
theorem jg5{O:List Nat}{E:XK}{x:Str}{i:Int}{t:Tok}{pos:Pos}(hg:Gl X x)(hm:X.mg x=some (.int i t))(hd:autoParam ((x == ("__debug__":Str))=false) zau1._auto_1):DE X O E (.Name x pos) (fC (.int i)) :=
 jin (t:=tC (.int i)) (v:=.int i) (jlo (v:=.int i) hg hm ⟨t,rfl⟩ hd) fun _ _=>rep_int.mpr rfl
end
inductive spD(K:W.Frag)(n:Nat)(m:List D->M D)(vs:List V)(H:Hp)(Q:VK)(E:XK):Prop
 | mk (hn:vs.length=n) (ρ:Rho) (ds:List D) (r:Except XD D) (F:Addr->Bool) (hF:∀ b,F b=true->H b≠none) (hr:Reps ρ K (hid H F) ds vs) (hf:m ds=some r) (k:match (generalizing:=false) r with
  | .ok d=>∀ v H',Same H H'->Rep ρ K (hid H' F) d v->Q v H'
  | .error x=>okX K H E x)
inductive CalX(P:Program)(w:World)(K:W.Frag)(mg:Str->Option Value)(base:Heap)(k:Nat)(x:Str)(n:Nat)(sp:Sp):Prop
 | mk (f:Addr) (fd:FuncData) (ps:List Str) (h1:ps.length=n) (h2:mg x=some (.ref f)) (h3:W.keepIn K (.ref f)=true) (h4:Binds K fd ps []) (h5:FnOk P w K mg base CX0 k f fd ps sp)
structure Cal(P:Program)(w:World)(K:W.Frag)(mg:Str->Option Value)(base:Heap)(k:Nat)(x:Str)(n:Nat)(m:List D->M D):Prop where
 ex:CalX P w K mg base k x n (spD K n m)
 ar:∀ ds r,m ds=some r->ds.length=n
noncomputable def jbq(K:W.Frag)(mg:Str->Option Value)(x:Str)(st:Stmt)(ps:List Str):Prop:=∃ f fd,mg x=some (.ref f)/\Fun K x x st f fd/\Binds K fd ps []
noncomputable def startD(n:Nat)(ds:List D):DSt:=ds.map some++List.replicate (n-ds.length) none
noncomputable def outD:Out->M D
 | .rt d=>M.p d
 | .nx _=>M.p .non
 | _=>none
noncomputable def mir(n N:Nat)(g:DSt->M Out):List D->M D:=fun ds=>if ds.length=n then (g (startD N ds)).b outD else none
theorem jgn{N:Nat}{ds:List D}{i:Nat}{d:D}(h:(startD N ds)[i]? = some (some d)):ds[i]? = some d:=by
 unfold startD at h
 by_cases hi:i<ds.length
 ·rw[List.getElem?_append_left (by simpa using hi),zba] at h
  cases e:ds[i]? with
  | none=>rw[e] at h;cases h
  | some a=>rw[e] at h;cases h;rfl
 ·rw[List.getElem?_append_right (by simpa using hi),List.getElem?_replicate] at h
  split at h<;>cases h
theorem jh1{N:List Str}{vs:List V}{i:Nat}{v:V}(h:vs[i]? = some v):(L2.start N vs)[i]? = some (some v):=by
 unfold L2.start;have hi:i<vs.length:=(zbb.mp h).1;rw[List.getElem?_append_left (by simpa using hi),zba,h];rfl
section
variable {P:Program}{w:World}{K:W.Frag}{mg:Str->Option Value}{base:Heap}
theorem fn_D{x:Str}{st:Stmt}{N ps:List Str}{k:Nat}{O':List Nat}{g:DSt->M Out}{f:Addr}{fd:FuncData}(F:Fun K x x st f fd)(S:FnScope N ps (jac st))
  (hbody:∀ (f:Addr) (cdv:Value) (A:Around) (outer:List Env) (s:Shared) (H:Hp) (E:XK),Room k (A.deeper (PyProof.Rows.envOfC x (jac st) s.heap.objs.size f cdv)) ->
   DSs (cxOf CX0 P w K mg base N x (jac st) f cdv A outer s H E).nox [] O' [] E (jai st) g):FnOk P w K mg base CX0 (k+1) f fd ps (spD K ps.length (mir ps.length N.length g)):=by
 refine F.ok S (fun vs H Q E h=>h.1) fun cdv A outer s H vs Q E hr h=>?_
 obtain⟨hl,ρ,ds,r,F',fin,rp,hmr,k0⟩:=h;refine⟨_,hbody f cdv A outer s H E hr,?_⟩;have hpl:ps.length<=N.length:=by have:=congrArg List.length S.pre;rw[List.length_take] at this;omega
 have hdl:ds.length=ps.length:=by rw[<- rp.length];exact hl
 unfold mir at hmr;rw[if_pos hdl] at hmr;have R:RS ρ K H H F' [] (L2.start N vs) (startD N.length ds):=by
  refine⟨?_,Same.refl H,fin,fun i d hd _=>?_,fun i hi=>absurd hi (by simp),fun i hi=>absurd hi (by simp)⟩
  ·simp[L2.start,startD,rp.length]
  ·obtain⟨v,e,rv⟩:=rp.get (jgn hd);exact⟨v,jh1 e,by rw[jch];exact rv⟩
 rcases M.b_inv hmr with ⟨o,e1,hmr⟩|⟨y,e1,rfl⟩
 ·refine⟨ρ,H,F',_,.ok o,R,e1,?_⟩
  cases o with
  | rt d=>cases hmr;exact fun v H' s' rv=>k0 v H' s' rv
  | nx δ=>cases hmr;exact fun σ' H' f' R'=>k0 .non H' R'.same (rep_non.mpr rfl)
  | bk δ=>cases hmr
  | ct δ=>cases hmr
 ·exact⟨ρ,H,F',_,.error y,R,e1,k0⟩
theorem jbm{x:Str}{st:Stmt}{N ps:List Str}{k:Nat}{O':List Nat}{g:DSt->M Out}(hf:jbq K mg x st ps)(S:FnScope N ps (jac st))
  (hbody:∀ (f:Addr) (cdv:Value) (A:Around) (outer:List Env) (s:Shared) (H:Hp) (E:XK),Room k (A.deeper (PyProof.Rows.envOfC x (jac st) s.heap.objs.size f cdv)) ->
   DSs (cxOf CX0 P w K mg base N x (jac st) f cdv A outer s H E).nox [] O' [] E (jai st) g):Cal P w K mg base (k+1) x ps.length (mir ps.length N.length g):=by
 obtain⟨f,fd,hm,F,hb⟩:=hf;refine⟨⟨f,fd,ps,rfl,hm,F.kp,hb,fn_D F S hbody⟩,fun ds r h=>?_⟩;unfold mir at h
 split at h
 ·assumption
 ·cases h
theorem jar{h:Heap}{x:Str}{st:Stmt}{ps:List Str}{f:Addr}{oc:Value}{od an:Option Addr}{osl:Array (Option Value)}{kV doc pm cdv ct:Value}(X:K.In h)(G:h.Ns mainGlobals mg)
  (hb:∀ (kV doc pm:Value) (an:Option Addr) (cdv ct:Value) (us:List Value),us.length=ps.length->bindArgs (W.fnOf x x (jap st) (jai st) (jac st) .none kV doc pm an cdv ct) ⟨us,[]⟩=pure (ps.zip us))
  (a:W.nsIn K mainGlobals x=some (some (.ref f))) (l:K.lookup f=some ⟨oc,od,.func (W.fnOf x x (jap st) (jai st) (jac st) .none kV doc pm an cdv ct),osl⟩)
  (c:W.codeIn K cdv x=true) (k:W.keepIn K (.ref f)=true):jbq K mg x st ps:=by
 have F:=jrv (st:=st) l c k;exact⟨f,_,W.mg_of X G a,F,F.binds hb⟩
theorem jn6{st:Stmt}{x:Str}{f:Addr}(hf:jbq K mg "law" st [x])(hm:mg "law"=some (.ref f))
  (hb:∀ (kV doc pm:Value) (an:Option Addr) (cdv ct:Value) (s:Shared) (u:Value),BindsTo s (W.fnOf "law" "law" (jap st) (jai st) (jac st) .none kV doc pm an cdv ct) ⟨[u],[]⟩ [(x,u)]) :
  ∃ fd,Fun K "law" "law" st f fd/\∀ (s:Shared) (u:Value),BindsTo s fd ⟨[u],[]⟩ [(x,u)]:=by
 obtain⟨f',fd,hm',F,_⟩:=hf;rw[hm] at hm';cases hm';refine⟨fd,F,fun s u=>?_⟩;obtain⟨oc,od,kV,doc,pm,an,cdv,ct,osl,rfl,lk,hcd⟩:=F.ex;exact hb kV doc pm an cdv ct s u
end
noncomputable def jav(m:List D->M D)(fl:DSt->M (List D)):DSt->M D:=fun δ=>(fl δ).b m
section
variable {X:Cx}{O:List Nat}{E:XK}{e:Expr}{es:List Expr}{fl:DSt->M (List D)}{pos p:Pos}{x:Str}{k n:Nat}{m:List D->M D}
theorem jah(C:Cal X.prog X.w X.K X.mg X.base k x n m)(hr:Room k X.A)(ha:DA X O E (e::es) fl)(hg:autoParam (Gl X x) zau2._auto_1)(hdb:autoParam ((x == ("__debug__":Str))=false) zau1._auto_1)(he:autoParam (starEach (e::es) X.env=(false,eval e X.env)::starEach es X.env) zau2._auto_1)
  (hpl:autoParam ((backTo pos (starEach es X.env)).any (·.1)=false) zau2._auto_1):DE X O E (.Call (.Name x p) (e::es) [] pos) (jav m fl):=by
 obtain⟨f,fd,ps,hl,hm,hk,hb,F⟩:=C.ex;rintro pins s σ H Q I ⟨ρ,Hz,G,δ,r,R,hf,h⟩;refine jln F hr hg hm hk hb .nil (fun _ _ _ _ _ _ _ z=>z.elim) ha hdb he hpl pins s σ H Q I (E:=E) ?_;rcases M.b_inv hf with ⟨ds,e1,hf⟩|⟨y,e1,rfl⟩
 ·refine⟨ρ,Hz,G,δ,.ok ds,R,e1,fun vs H1 s1 r1=>?_⟩;show spD X.K n m (vs++[]) H1 Q E;rw[List.append_nil];refine⟨by rw[r1.length];exact C.ar ds r hf,ρ,ds,r,fob G σ O,fun b hb z=>?_,r1,hf,?_⟩
  ·rw[(R.mono s1).fresh z] at hb;cases hb
  ·cases r with
   | ok d=>exact fun v H' s' rv=>h v H' (s1.trans s') rv
   | error y=>exact fun c dx H' s' xr=>h c dx H' (R.same.trans (s1.trans s')) xr
 ·exact⟨ρ,Hz,G,δ,.error y,R,e1,h⟩
end
theorem hu30{A:Around}{k:Nat}(hr:Room k A):A.units+30<cLine:=Nat.lt_of_le_of_lt (Nat.add_le_add_left (by decide:30<=64) _) hr.units
theorem jea:bootBuiltins "len"=some (.builtin "len"):=by decide +kernel
theorem jro:bootBuiltins "sum"=some (.builtin "sum"):=by decide +kernel
theorem jc2:bootBuiltins "isinstance"=some (.builtin "isinstance"):=by decide +kernel
theorem jft:bootBuiltins "tuple"=some (.type "tuple"):=by decide +kernel
theorem jk5:bootBuiltins "list"=some (.type "list"):=by decide +kernel
theorem jnm:bootBuiltins "int"=some (.type "int"):=by decide +kernel
theorem jsw:bootBuiltins "bool"=some (.type "bool"):=by decide +kernel
theorem jl2:bootBuiltins "all"=some (.builtin "all"):=by decide +kernel
theorem jva:bootBuiltins "set"=some (.type "set"):=by decide +kernel
noncomputable def gCat:D->D->Option D
 | .int i,.int j=>some (.int (i+j))
 | .str x,.str y=>if x.length+y.length<=sizeLine then some (.str (x++y)) else none
 | .lst xs,.lst ys=>if xs.length+ys.length<=sizeLine then some (.lst (xs++ys)) else none
 | .tup xs,.tup ys=>if xs.length+ys.length<=sizeLine/\xs≠[]/\ys≠[] then some (.tup (xs++ys)) else none
 | _,_=>none
noncomputable def jun(K:W.Frag):R2:=fun x y H Q=>∃ l b xs zs,x=.ref l/\y=.ref b/\SqL K H l xs/\SqL K H b zs/\xs.length+zs.length<=sizeLine/\∀ p,H p=none->Q (.ref p) (upd H p (.lst (xs++zs)))
section
variable {X:Cx}{O:List Nat}{E:XK}{b:Expr}
theorem op_catQ:OpR X (binaryOp .Add) (jun X.K):=by
 intro pins s σ H x y v u Q I rx ry h;obtain⟨l,b,xs,zs,rfl,rfl,hH,hB,hz,q⟩:=h;cases rx;cases ry;obtain⟨its,r,⟨⟨cls,dd,data,sl⟩,n,ho,hc,_,hd⟩,_⟩:=I.list hH;obtain⟨its2,r2,⟨⟨cls2,dd2,data2,sl2⟩,n2,ho2,hc2,_,hd2⟩,_⟩:=I.list hB;simp only at hc hd hc2 hd2;subst hc hd hc2 hd2;have l1:=r.length;have l2:=r2.length;have ea:its.toArray++its2.toArray=(its++its2).toArray:=by simp
 refine concat_meets ⟨_,ho,rfl⟩ ⟨_,ho2,rfl⟩ noFill_list_add seq_list_add PySem.F.slot_list_add PySem.F.entry_list_add (PySem.F.args_list_add_2 _ _) (PyProof.Rows.list_addW l b its.toArray its2.toArray n n2 dd dd2 sl sl2 (by simp only[zbx];omega)) ⟨ho,ho2,?_⟩;rw[ea];exact⟨.ref _,_,I.lnew (t':=s.toks) (r.append r2) (by rw[zca];omega),rfl,q _ I.fresh⟩
theorem jat:OpR X (binaryOp .Add) (fun x y H Q=>(rI0 (fun i j=>.int (i+j)) x y H Q\/∃ i j,x=.str i/\y=.str j/\i.length+j.length<=sizeLine/\Q (.str (i++j)) H)\/jun X.K x y H Q\/juo X.K x y H Q):=op_addD.or (op_catQ.or jt5)
theorem jau:OpD X.K gCat (fun x y H Q=>(rI0 (fun i j=>.int (i+j)) x y H Q\/∃ i j,x=.str i/\y=.str j/\i.length+j.length<=sizeLine/\Q (.str (i++j)) H)\/jun X.K x y H Q\/juo X.K x y H Q):=by
 intro x y d hd ρ H G u v Q hG ru rv k;unfold gCat at hd
 split at hd
 ·cases hd;exact .inl (.inl ⟨_,_,rep_int.mp ru,rep_int.mp rv,k _ H (Same.refl H) (rep_int.mpr rfl)⟩)
 ·split at hd
  ·rename_i hz;cases hd;exact .inl (.inr ⟨_,_,rep_str.mp ru,rep_str.mp rv,hz,k _ H (Same.refl H) (rep_str.mpr rfl)⟩)
  ·cases hd
 ·split at hd
  ·rename_i hz;cases hd;obtain⟨l,xs,rfl,q1,q2⟩:=rep_lst.mp ru;obtain⟨m,ys,rfl,p1,p2⟩:=rep_lst.mp rv;exact .inr (.inl ⟨l,m,xs,ys,rfl,rfl,jc1 jam q1,jc1 jam p1,by rw[q2.length,p2.length];exact hz,fun p hp=>k _ _ (ja3 hp) (jd8 hp (hG p hp) (q2.append p2))⟩)
  ·cases hd
 ·split at hd
  ·rename_i hz;cases hd;obtain⟨l,xs,rfl,q1,q2⟩:=rep_tup.mp ru;obtain⟨m,ys,rfl,p1,p2⟩:=rep_tup.mp rv;have n1:xs≠[]:=fun z=>by have:=q2.length;rw[z] at this;exact hz.2.1 (List.length_eq_zero_iff.mp this.symm)
   have n2:ys≠[]:=fun z=>by have:=p2.length;rw[z] at this;exact hz.2.2 (List.length_eq_zero_iff.mp this.symm)
   exact .inr (.inr ⟨l,m,xs,ys,rfl,rfl,jdj jam q1,jdj jam p1,n1,by rw[q2.length,p2.length];exact hz.1,fun z=>absurd z n2,fun _ p hp=>k _ _ (ja3 hp) (jcm hp (hG p hp) (q2.append p2))⟩)
  ·cases hd
 ·cases hd
theorem Reps.rep{ρ:Rho}{K:W.Frag}{H:Hp}{ds:List D}{vs:List V}(h:Reps ρ K H ds vs):∀ k:Nat,Reps ρ K H (List.replicate k ds).flatten (List.replicate k vs).flatten
 | 0=>Reps.nil
 | k+1=>by rw[List.replicate_succ,List.flatten_cons,List.replicate_succ,List.flatten_cons];exact h.append (Reps.rep h k)
inductive tOD(K:W.Frag)(O:List Nat)(E:XK)(f:DSt->M (Option Int))(σ:St)(H:Hp)(Q:Option Int->Hp->Prop):Prop
 | mk (ρ:Rho) (Hz:Hp) (F:Addr->Bool) (δ:DSt) (r:Except XD (Option Int)) (R:RS ρ K Hz H F O σ δ) (hf:f δ=some r) (k:match (generalizing:=false) r with
  | .ok o=>∀ H',Same H H'->Q o H'
  | .error x=>okX K Hz E x)
noncomputable def gAug(i:Nat)(g:D->D->Option D)(f:DSt->M D):DSt->M Out:=fun δ=>(M.o (δ[i]?).join).b fun x=>(f δ).b fun y=>(M.o (g x y)).b fun d=>M.p (.nx (δ.set i (some d)))
end
section
variable {X:Cx}{b e:Expr}
noncomputable def gAsg(h:D->DSt->Option DSt)(f:DSt->M D):DSt->M Out:=fun δ=>(f δ).b fun d=>match h d δ with
 | some δ'=>M.p (.nx δ')
 | none=>none
noncomputable def jyd(i j l:Nat):D->DSt->Option DSt:=fun d δ=>match d with
 | .tup [x,y,z]=>some (((δ.set i (some x)).set j (some y)).set l (some z))
 | _=>none
noncomputable def jmw:List D->Option D
 | [.int i]=>some (.int i)
 | [.bl k]=>some (.int (if k then 1 else 0))
 | [.str x]=>if x.length<=640 then (PySem.intText? x).map .int else none
 | _=>none
theorem jjv:CallR X (.type "int") (fun xs H Q=>((∃ i,xs=[.int i]/\Q (.int i) H)\/∃ k,xs=[.bl k]/\Q (.int (if k then 1 else 0)) H)\/∃ x n,xs=[.str x]/\x.length<=640/\PySem.intText? x=some n/\Q (.int n) H) :=
 call_int1.or (by
  intro pins s σ H xs us Q I r h;obtain⟨x,n,rfl,hl,hn,q⟩:=h;obtain⟨u,rfl,t,rfl⟩:=r.one;exact W.KIN.call_text hn hl ⟨.int n,H,I.tok _,⟨_,rfl⟩,q⟩)
theorem jl3:CaD X.K jmw (fun xs H Q=>((∃ i,xs=[.int i]/\Q (.int i) H)\/∃ k,xs=[.bl k]/\Q (.int (if k then 1 else 0)) H)\/∃ x n,xs=[.str x]/\x.length<=640/\PySem.intText? x=some n/\Q (.int n) H):=by
 intro xs d hd ρ H G us Q hG ru k;unfold jmw at hd
 split at hd
 ·cases hd;obtain⟨v,rfl,q1⟩:=jgl ru;cases rep_int.mp q1;exact .inl (.inl ⟨_,rfl,k _ H (Same.refl H) (rep_int.mpr rfl)⟩)
 ·cases hd;obtain⟨v,rfl,q1⟩:=jgl ru;cases rep_bl.mp q1;exact .inl (.inr ⟨_,rfl,k _ H (Same.refl H) (rep_int.mpr rfl)⟩)
 ·split at hd
  ·rename_i x hz;obtain⟨v,rfl,q1⟩:=jgl ru;cases rep_str.mp q1
   cases e:PySem.intText? x with
   | none=>rw[e] at hd;cases hd
   | some n =>
    rw[e] at hd;cases hd;exact .inr ⟨x,n,rfl,hz,e,k _ H (Same.refl H) (rep_int.mpr rfl)⟩
  ·cases hd
 ·cases hd
end
end DL
namespace L2
open PySem PySem.Spec PyProof.Rows
section
end
end L2
namespace DL
open PySem PySem.Spec L2
section
variable {X:Cx}{b e o:Expr}{p:Pos}
noncomputable def blsD:List D->Option (List Bool)
 | []=>some []
 | .bl b::ds=>(blsD ds).map (b::·)
 | _::_=>none
theorem jnk:∀ {ds:List D} {ns:List Bool},blsD ds=some ns->ds=ns.map .bl
 | [],_,h=>by cases h;rfl
 | .bl i::ds,ns,h=>by
  unfold blsD at h
  cases e:blsD ds with
  | none=>rw[e] at h;cases h
  | some ms=>rw[e] at h;cases h;rw[jnk e];rfl
 | .non::_,_,h=>by cases h
 | .int _::_,_,h=>by cases h
 | .str _::_,_,h=>by cases h
 | .ty _::_,_,h=>by cases h
 | .obj _::_,_,h=>by cases h
 | .tup _::_,_,h=>by cases h
 | .lst _::_,_,h=>by cases h
theorem reps_bls{ρ:Rho}{K:W.Frag}{H:Hp}:∀ {ns:List Bool} {vs:List V},Reps ρ K H (ns.map .bl) vs↔vs=ns.map V.bl
 | [],vs=>reps_nil
 | n::ns,vs=>by
  rw[List.map_cons,reps_cons];constructor
  ·rintro⟨v,r,rfl,h1,h2⟩;rw[rep_bl.mp h1,reps_bls.mp h2];rfl
  ·rintro rfl;exact⟨_,_,rfl,rep_bl.mpr rfl,reps_bls.mpr rfl⟩
noncomputable def kAll:List D->Option D
 | [.lst ds]=>(blsD ds).map fun ns=>.bl (ns.all id)
 | _=>none
theorem jni(ns:List Bool):(List.range ns.length).all (fun i=>ns.getD i true)=ns.all id:=by
 induction ns with
 | nil=>rfl
 | cons n ns ih =>
  rw[List.length_cons,List.range_succ_eq_map,List.all_cons,List.all_map,List.all_cons];congr 1
theorem jfu(hc:X.calm=true):CallR X (.builtin "all") (fun xs H Q=>∃ p,∃ ns:List Bool,xs=[.ref p]/\SqL X.K H p (ns.map V.bl)/\Q (.bl (ns.all id)) H):=by
 intro pins s σ H xs us Q I r h;obtain⟨p,ns,rfl,hq,q⟩:=h;obtain⟨u,rfl,rx⟩:=r.one;cases rx;obtain⟨its,rv,src,hz⟩:=I.list hq;have hl:=rv.length;rw[zav] at hl;have hh:X.A.in1.handled=none:=I.ok.hd hc;have src':s.heap.IsList p its.toArray:=src.isList;have hp:p<s.heap.objs.size:=by obtain⟨o,e,_⟩:=src';exact zbv e
 refine call_all_walk ?_;refine wpAny_pyIter_list src' ?_;refine⟨_,_,_,_,_,_,(fun i=>ns.getD i true),rfl,Walks.list hh s.heap.objs.size p (zcv hp) its.toArray,⟨⟨_,zbz _ rfl,rfl,rfl⟩,src'.at fun o e=>zaz _ e⟩,fun i v s' Q' E' hP hQ=>?_,fun h' tk kp=>?_⟩
 ·have e:its.toArray[i]? = some v:=hP;have hi:i<ns.length:=by rw[hl];have:=(Array.getElem?_eq_some_iff.mp e).1;simpa using this
  obtain⟨v',e1,r1⟩:=rv.get (i:=i) (x:=.bl ns[i]) (by rw[zba,zax hi];rfl);have:v=v':=by
   have e':its[i]? = some v:=by simpa using e
   rw[e'] at e1;exact zby e1
  subst this;have r1':v=.bool ns[i]:=r1;subst r1';refine wpAny_truthy_bool ?_;dsimp only at hQ;rw[List.getD_eq_getElem?_getD,zax hi] at hQ;exact hQ
 ·refine⟨.bl (ns.all id),H,I.kept fun b o e=>kp b o ?_ (zaz _ e),?_,q⟩
  ·intro z;have:b=s.heap.objs.size:=by simpa using z
   rw[this] at e;exact absurd (zbv e) (Nat.lt_irrefl _)
  ·have:its.toArray.size=ns.length:=by rw[zbx];omega
   rw[this,jni];rfl
theorem ji4:CaD X.K kAll (fun xs H Q=>∃ p,∃ ns:List Bool,xs=[.ref p]/\SqL X.K H p (ns.map V.bl)/\Q (.bl (ns.all id)) H):=by
 intro xs d hd ρ H G us Q hG ru k;unfold kAll at hd
 split at hd
 ·rename_i ds
  cases e:blsD ds with
  | none=>rw[e] at hd;cases hd
  | some ns =>
   rw[e] at hd;cases hd;obtain⟨v,rfl,q⟩:=jgl ru;obtain⟨l,ys,rfl,q1,q2⟩:=rep_lst.mp q;rw[jnk e] at q2;rw[reps_bls.mp q2] at q1;exact⟨l,ns,rfl,jc1 jam q1,k _ H (Same.refl H) (rep_bl.mpr rfl)⟩
 ·cases hd
end
end DL
namespace L2
open PySem PySem.Spec PyProof.Rows
theorem jg1:fillsNumberSlot (.type "tuple") "mul"=pure false :=
 PySem.fillsNumberSlot_seq (id:="tuple.__mul__") (r:=some (.builtin "tuple.__rmul__")) PySem.F.slot_tuple_mul.lookup (by decide +kernel) PySem.F.slot_tuple_rmul.lookup (by decide +kernel)
theorem jkp:seqRepeat? (.type "tuple")=pure (some (.builtin "tuple.__mul__")):=by
 unfold seqRepeat?;rw[PySem.seqSlot_of (T:="tuple") (name:="__mul__") (id:="tuple.__mul__") PySem.F.slot_tuple_mul.lookup (by decide +kernel),PySem.seqSlot_of (T:="tuple") (name:="__rmul__") (id:="tuple.__rmul__") PySem.F.slot_tuple_rmul.lookup (by decide +kernel)];rfl
theorem jik(a:Int)(t:Tok)(l:Addr)(items:Array Value)(n:Nat)(dd:Option Addr)(sl:Array (Option Value)) :
  Meets (Builtin.«int.__rmul__» ⟨[.int a t,.ref l],[]⟩) (fun _ R s=>s.heap.get? l=some { cls:=.type "tuple",dict:=dd,data:=.seq items n,slots:=sl }/\R (.ok (.ret Value.notImplemented)) s) :=
 .of_wp fun prog w A R s h=>by obtain⟨hp,g,d,tk,os⟩:=s;obtain⟨hl,h⟩:=h;wp_walk;exact⟨_,rfl,h⟩
theorem jnc(l:Addr)(items:Array Value)(n:Nat)(u:Tok)(dd:Option Addr)(sl:Array (Option Value))(hne:items.isEmpty=false) :
  Meets (Builtin.«tuple.__mul__» ⟨[.ref l,.int 1 u],[]⟩) (fun _ R s=>s.heap.get? l=some { cls:=.type "tuple",dict:=dd,data:=.seq items n,slots:=sl }/\R (.ok (.ret (.ref l))) s) :=
 .of_wp fun prog w A R s h=>by
  obtain⟨hp,g,d,tk,os⟩:=s;obtain⟨hl,h⟩:=h
  have f1:=AutoSeq1.idx_int
  wp_walk
  exact⟨_,rfl,h⟩
theorem jnd(l:Addr)(items:Array Value)(n:Nat)(k:Int)(u:Tok)(dd:Option Addr)(sl:Array (Option Value))(hne:items.isEmpty=false)(h2:2<=k)(h3:k<=1000)(hsz:items.size*k.toNat<=100000) :
  Meets (Builtin.«tuple.__mul__» ⟨[.ref l,.int k u],[]⟩) (fun _ R s=>s.heap.get? l=some { cls:=.type "tuple",dict:=dd,data:=.seq items n,slots:=sl }/\R (.ok (.ret (.ref s.heap.objs.size))) { s with heap:=s.heap.push { cls:=.type "tuple",data:=.seq (List.foldl (fun x1 x2=>x1++x2) #[] (List.replicate k.toNat items)) } }) :=
 .of_wp fun prog w A R s h=>by
  obtain⟨hp,g,d,tk,os⟩:=s;obtain⟨hl,h⟩:=h
  have f1:=AutoSeq1.idx_int;have c1:(decide (k < -(2 ^ 63)) || decide (k >= 2 ^ 63))=false:=by simp;omega
  have c2:(items.isEmpty || k == 1)=false:=by rw[hne];simp;omega
  have c3:(decide (k<=0) || items.isEmpty)=false:=by rw[hne];simp;omega
  obtain⟨m,rfl⟩:=Int.eq_ofNat_of_zero_le (show 0<=k by omega);have hs:(items.size:Int)*(m:Int)=((items.size*m:Nat):Int):=by push_cast;rfl
  have hsz':items.size*m<=100000:=by simpa using hsz
  have c4:¬ ((items.size:Int)*(m:Int) > (2 ^ 63-1) / 8):=by rw[hs];omega
  have c5:Builtin.Tuple.tupleTooMany ((items.size:Int)*(m:Int))=false:=by
   rw[hs];unfold Builtin.Tuple.tupleTooMany;simp[sizeLine];omega
  wp_walk
  refine wpAny_ite_false (decide_eq_false (by rw[c1];decide)) ?_
  wp_walk
  refine wpAny_ite_false (decide_eq_false (by rw[c2];decide)) ?_
  wp_walk
  refine wpAny_ite_false (decide_eq_false (by rw[c3];decide)) ?_
  try dsimp only
  refine wpAny_ite_false (decide_eq_false c4) ?_
  try dsimp only
  refine wpAny_ite_false (decide_eq_false (by rw[c5];decide)) ?_
  try dsimp only
  refine zay ?_;unfold Builtin.Tuple.tupleExact;refine wpAny_newObj_type ?_ ?_
  ·exact zab ⟨_,rfl,h⟩
  ·show (List.foldl (fun x1 x2=>x1++x2) #[] (List.replicate ((m:Nat):Int).toNat items)).size<=sizeLine;rw[AutoListH.size_joined];have:100000<=sizeLine:=by decide
   rw[Nat.mul_comm] at hsz';simp;omega
end L2
namespace DL
open PySem PySem.Spec L2
noncomputable def jw4(K:W.Frag):R2:=fun x y H Q=>∃ l k xs,x=.ref l/\y=.int k/\SqT K H l xs/\xs≠[]/\1<=k/\k<=1000/\xs.length*k.toNat<=100000/\(k=1->Q (.ref l) H)/\(k≠1->∀ p,H p=none->Q (.ref p) (upd H p (.tup (List.replicate k.toNat xs).flatten)))
section
variable {X:Cx}{b e:Expr}
theorem jt7:OpR X (binaryOp .Mult) (jw4 X.K):=by
 intro pins s σ H x y v u Q I rx ry h;obtain⟨l,k,xs,rfl,rfl,hH,hne,h1,h2,hz,q1,q2⟩:=h;cases rx;obtain⟨t,rfl⟩:=ry;obtain⟨its,r,⟨⟨cls,dd,data,sl⟩,e,hc,n,hd⟩,_⟩:=I.tuple hH;simp only at hc hd;subst hc hd;have l1:=r.length;have hne':its.toArray.isEmpty=false:=by
  cases its with
  | nil=>exact absurd (List.length_eq_zero_iff.mp l1) hne
  | cons _ _=>rfl
 have hlen:its.toArray.size*k.toNat<=100000:=by rw[zbx,<- l1];exact hz
 have hnew:List.foldl (fun x1 x2=>x1++x2) #[] (List.replicate k.toNat its.toArray)=(List.replicate k.toNat its).flatten.toArray:=by
  have:=jj2 its k.toNat [];rw[List.nil_append] at this;exact this
 refine wpAny_binaryOp_repeat_ref (T:="tuple") (U:="int") (by decide) ⟨_,e,rfl⟩ (fun s'=>typeIs_int s' k t) jg1 F.fills_int_mul F.slot_int_rmul jkp F.slot_int_index.lookup
  (call_meets F.slot_int_rmul (typeIs_int s k t) F.entry_int_rmul (F.args_int_rmul_2 _ _) (jik k t l its.toArray n dd sl)
   ⟨e,rfl,⟨_,e,rfl⟩,?_⟩)
 by_cases hk:k=1
 ·subst hk;exact call_meets F.slot_tuple_mul ⟨_,e,rfl⟩ F.entry_tuple_mul (F.args_tuple_mul_2 _ _) (jnc l its.toArray n t dd sl hne') ⟨e,.ref l,H,I,rfl,q1 rfl⟩
 ·refine call_meets F.slot_tuple_mul ⟨_,e,rfl⟩ F.entry_tuple_mul (F.args_tuple_mul_2 _ _) (jnd l its.toArray n k t dd sl hne' (by omega) h2 hlen) ⟨e,?_⟩;rw[hnew];refine⟨.ref s.heap.objs.size,_,I.laid (t':=s.toks) (o:=.tup (List.replicate k.toNat xs).flatten) (fun b ob q=>zaz _ q) (zac _) ?_,rfl,q2 hk _ (I.hok.fresh (zac _))⟩;refine⟨?_,_,r.rep k.toNat,PyProof.Rows.IsTup.new _ _⟩;rw[jtp,Nat.mul_comm];have:100000<=sizeLine:=by decide
  omega
noncomputable def jbk:D->D->Option D
 | .tup xs,.int k=>if xs≠[]/\1<=k/\k<=1000/\xs.length*k.toNat<=100000 then some (.tup (List.replicate k.toNat xs).flatten) else none
 | x,y=>gMul x y
noncomputable def jw3(K:W.Frag):R2:=fun x y H Q=>(rI (fun i j=>(jfc i&&jfc j)=true) (fun i j=>.int (i*j)) x y H Q\/∃ z n,x=.str z/\y=.int n/\(z.length<=4096/\-4096<=n/\n<=4096)/\Q (.str (Txt.mul z n)) H)\/jw4 K x y H Q
theorem jbb:OpR X (binaryOp .Mult) (jw3 X.K):=op_mulD.or jt7
theorem jax:OpD X.K jbk (jw3 X.K):=by
 intro x y d hd ρ H G u v Q hG ru rv k;unfold jbk at hd
 split at hd
 ·split at hd
  ·rename_i hz;cases hd;obtain⟨l,xs,rfl,q1,q2⟩:=rep_tup.mp ru;have n1:xs≠[]:=fun z=>by have:=q2.length;rw[z] at this;exact hz.1 (List.length_eq_zero_iff.mp this.symm)
   refine .inr ⟨l,_,xs,rfl,rep_int.mp rv,jdj jam q1,n1,hz.2.1,hz.2.2.1,by rw[q2.length];exact hz.2.2.2,fun e=>?_,fun _ p hp=>k _ _ (ja3 hp) (jcm hp (hG p hp) (q2.rep _))⟩;subst e;refine k _ H (Same.refl H) ?_;simpa using ru
  ·cases hd
 ·exact .inl (jt8 (X:=X) x y d hd ρ H G u v Q hG ru rv k)
end
end DL
namespace L2
open PySem PySem.Spec PyProof.Rows
noncomputable abbrev xOb(C:Addr)(od:Option Addr)(vs:Array Value)(sl:Array (Option Value)):Obj:=⟨.ref C,od,.fields vs,sl⟩
noncomputable def XO(a C:Addr)(od:Option Addr)(f:Bool):HO:=.ext fun h=>∃ vs sl,h.get? a=some (xOb C od vs sl)/\(f=true->vs[1]? = some .none)
inductive XDv(a:Addr)(fs:List (Str×V))(h:Heap):Prop
 | mk (mA:Str->Option Value) (hn:h.Ns1 a mA) (hr:∀ f,RelO (fs.lookup f) (mA f)) (hw:PySem.Within mA (fs.map (·.1))) (hl:fs.length<=1000)
noncomputable def XDc(a:Addr)(fs:List (Str×V)):HO:=.ext (XDv a fs)
theorem jxp{a C:Addr}{od:Option Addr}{f:Bool}{xs:List V}:XO a C od f≠.tup xs:=fun z=>by unfold XO at z;cases z
theorem jzk{a:Addr}{fs:List (Str×V)}{xs:List V}:XDc a fs≠.tup xs:=fun z=>by unfold XDc at z;cases z
end L2
namespace DL
open PySem PySem.Spec L2
inductive SO where
 | ins (c:Str) (fs:List (Str×D))|lst (ds:List D)|tab (x:Str) (l c:Nat) (q:Str)|dct (kvs:List (List Int×D))|exc (c:Str) (j:Option Nat×Bool)|xd (fs:List (Str×D))
noncomputable abbrev Sto:=List SO
noncomputable abbrev MS(α:Type):=Sto->Option (Except XD α×Sto)
noncomputable def MS.b{α β:Type}(m:MS α)(f:α->MS β):MS β:=fun Ω=>match m Ω with
 | none=>none
 | some (.error x,Ω')=>some (.error x,Ω')
 | some (.ok a,Ω')=>f a Ω'
noncomputable def MS.p{α:Type}(a:α):MS α:=fun Ω=>some (.ok a,Ω)
noncomputable def MS.l{α:Type}(m:M α):MS α:=fun Ω=>m.map fun r=>(r,Ω)
noncomputable def MS.o{α:Type}(m:Option α):MS α:=fun Ω=>m.map fun r=>(.ok r,Ω)
inductive MS.BInv{α β:Type}(m:MS α)(f:α->MS β)(Ω Ω':Sto)(r:Except XD β):Prop
 | ok (a:α) (Ω1:Sto) (h1:m Ω=some (.ok a,Ω1)) (h2:f a Ω1=some (r,Ω'))
 | err (x:XD) (h1:m Ω=some (.error x,Ω')) (h2:r=.error x)
theorem MS.b_inv{α β:Type}{m:MS α}{f:α->MS β}{Ω Ω':Sto}{r:Except XD β}(h:m.b f Ω=some (r,Ω')):MS.BInv m f Ω Ω' r:=by
 unfold MS.b at h
 cases e:m Ω with
 | none=>rw[e] at h;cases h
 | some p =>
  rw[e] at h;obtain⟨q,Ω1⟩:=p
  cases q with
  | error x=>cases h;exact .err x e rfl
  | ok a=>exact .ok a Ω1 e h
theorem MS.l_inv{α:Type}{m:M α}{Ω Ω':Sto}{r:Except XD α}(h:MS.l m Ω=some (r,Ω')):m=some r/\Ω'=Ω:=by
 unfold MS.l at h
 cases e:m with
 | none=>rw[e] at h;cases h
 | some p=>rw[e] at h;cases h;exact⟨rfl,rfl⟩
theorem MS.o_inv{α:Type}{m:Option α}{Ω Ω':Sto}{r:Except XD α}(h:MS.o m Ω=some (r,Ω')):∃ a,m=some a/\r=.ok a/\Ω'=Ω:=by
 unfold MS.o at h
 cases e:m with
 | none=>rw[e] at h;cases h
 | some p=>rw[e] at h;cases h;exact⟨p,rfl,rfl,rfl⟩
@[simp] theorem MS.b_p{α β:Type}(a:α)(f:α->MS β):(MS.p a).b f=f a:=rfl
theorem MS.b_ok{α β:Type}{m:MS α}{f:α->MS β}{Ω Ω1:Sto}{a:α}(h:m Ω=some (.ok a,Ω1)):m.b f Ω=f a Ω1:=by unfold MS.b;rw[h]
noncomputable def RLe(ρ ρ':Rho):Prop:=∀ i a,ρ i=some a->ρ' i=some a
theorem RLe.refl(ρ:Rho):RLe ρ ρ:=fun _ _ h=>h
theorem RLe.trans{ρ ρ' ρ'':Rho}(a:RLe ρ ρ')(b:RLe ρ' ρ''):RLe ρ ρ'':=fun i x h=>b i x (a i x h)
section
variable {ρ ρ':Rho}{K:W.Frag}{H:Hp}
mutual
theorem Rep.rho(e:RLe ρ ρ'):∀ {d:D} {v:V},Rep ρ K H d v->Rep ρ' K H d v
 | .non,_,h=>by unfold Rep at h |-;exact h
 | .bl _,_,h=>by unfold Rep at h |-;exact h
 | .int _,_,h=>by unfold Rep at h |-;exact h
 | .str _,_,h=>by unfold Rep at h |-;exact h
 | .ty _,_,h=>by unfold Rep at h |-;exact h
 | .obj _,_,h=>by
  unfold Rep at h |-
  obtain⟨a,q1,q2⟩:=h;exact⟨a,e _ _ q1,q2⟩
 | .tup _,_,h=>by
  unfold Rep at h |-
  obtain⟨a,xs,q1,q2,q3⟩:=h;exact⟨a,xs,q1,q2,Reps.rho e q3⟩
 | .lst _,_,h=>by
  unfold Rep at h |-
  obtain⟨a,xs,q1,q2,q3⟩:=h;exact⟨a,xs,q1,q2,Reps.rho e q3⟩
theorem Reps.rho(e:RLe ρ ρ'):∀ {ds:List D} {vs:List V},Reps ρ K H ds vs->Reps ρ' K H ds vs
 | [],_,h=>by unfold Reps at h |-;exact h
 | _::_,_,h=>by
  unfold Reps at h |-
  obtain⟨v,vs,q1,q2,q3⟩:=h;exact⟨v,vs,q1,Rep.rho e q2,Reps.rho e q3⟩
end
noncomputable def putD(f:Str)(d:D):List (Str×D)->List (Str×D)
 | []=>[(f,d)]
 | (g,x)::r=>if g=f then (g,d)::r else (g,x)::putD f d r
noncomputable def Flds(ρ:Rho)(K:W.Frag)(H:Hp):List (Str×D)->List (Str×V)->Prop
 | [],vs=>vs=[]
 | (f,d)::fs,vs=>∃ v r,vs=(f,v)::r/\Rep ρ K H d v/\Flds ρ K H fs r
theorem Flds.mono(e:RLe ρ ρ')(s:Same H H'):∀ {fs:List (Str×D)} {vs:List (Str×V)},Flds ρ K H fs vs->Flds ρ' K H' fs vs
 | [],_,h=>h
 | (f,d)::fs,_,⟨v,r,q1,q2,q3⟩=>⟨v,r,q1,(q2.rho e).mono s,Flds.mono e s q3⟩
theorem Flds.length:∀ {fs:List (Str×D)} {vs:List (Str×V)},Flds ρ K H fs vs->vs.length=fs.length
 | [],_,h=>by cases h;rfl
 | (f,d)::fs,_,⟨v,r,q1,q2,q3⟩=>by subst q1;simp[Flds.length q3]
theorem Flds.get:∀ {fs:List (Str×D)} {vs:List (Str×V)} {f:Str} {d:D},Flds ρ K H fs vs->fs.lookup f=some d->∃ v,vs.lookup f=some v/\Rep ρ K H d v
 | [],_,_,_,_,e=>by cases e
 | (g,x)::fs,_,f,d,⟨v,r,q1,q2,q3⟩,e=>by
  subst q1;simp only[List.lookup_cons] at e |-
  cases h:f == g with
  | true=>rw[h] at e;cases e;exact⟨v,rfl,q2⟩
  | false=>rw[h] at e;exact Flds.get q3 e
theorem Flds.put{f:Str}{d:D}{v:V}(hr:Rep ρ K H d v):∀ {fs:List (Str×D)} {vs:List (Str×V)},Flds ρ K H fs vs->Flds ρ K H (putD f d fs) (putF f v vs)
 | [],_,h=>by cases h;exact⟨v,[],rfl,hr,rfl⟩
 | (g,x)::fs,_,⟨u,r,q1,q2,q3⟩=>by
  subst q1;unfold putD putF
  by_cases h:g=f
  ·rw[if_pos h,if_pos h];exact⟨v,r,rfl,hr,q3⟩
  ·rw[if_neg h,if_neg h];exact⟨u,_,rfl,q2,Flds.put hr q3⟩
end
inductive InsOk(ρ:Rho)(S:Addr->Bool)(K:W.Frag)(mg:Str->Option Value)(H Hv:Hp)(a:Addr)(c:Str)(fs:List (Str×D)):Prop
 | mk (C dx:Addr) (vfs:List (Str×V)) (h1:mg c=some (.ref C)) (h2:H a=some (.ins C dx vfs)) (h3:H dx=some (.own a)) (h4:S dx=true) (h5:Flds ρ K Hv fs vfs)
inductive TabOf(K:W.Frag)(mg:Str->Option Value)(x:Str)(a:Addr):Prop
 | mk (f c bm:Addr) (oc:Value) (od:Option Addr) (fd:FuncData) (osl:Array (Option Value)) (ob:Obj) (h1:mg x=some (.ref f)) (h2:K.lookup f=some ⟨oc,od,.func fd,osl⟩) (h3:fd.code=.ref c) (h4:W.codeHdIn K c a=true)
   (h5:mg "__builtins__"=some (.ref bm)) (h6:bm≠builtinsNs) (h7:K.lookup bm=some ob) (h8:ob.cls=.type "module") (h9:ob.dict=some builtinsNs) (h10:ob.data=.plain)
inductive TabG(Hv:Hp)(l c:Nat)(q:Str)(ps:Array Value):Prop
 | nil (h:ps=#[])
 | one (c':Addr) (o:Obj) (vs:Array Value) (t:Tok) (h:ps=#[rawInt l,rawInt c,.ref c']) (h1:Hv c'=some (.frz o (.own 0))) (h2:o.data=.fields vs) (h3:vs[1]? = some (.str q t))
theorem TabG.mono{Hv Hv':Hp}{l c:Nat}{q:Str}{ps:Array Value}(s:Same Hv Hv'):TabG Hv l c q ps->TabG Hv' l c q ps
 | .nil h=>.nil h
 | .one c' o vs t h h1 h2 h3=>.one c' o vs t h (s _ _ h1) h2 h3
inductive TabOk(K:W.Frag)(mg:Str->Option Value)(H Hv:Hp)(a:Addr)(x:Str)(l c:Nat)(q:Str):Prop
 | mk (ps:Array Value) (h1:H a=some (.tbl ps)) (h2:TabOf K mg x a) (h3:TabG Hv l c q ps)
inductive ExcOk(ρ:Rho)(mg:Str->Option Value)(H:Hp)(a:Addr)(c:Str):Option Nat×Bool->Prop
 | no (f:Bool) (C:Addr) (h1:mg c=some (.ref C)) (h2:H a=some (XO a C none f)):ExcOk ρ mg H a c (none,f)
 | yes (f:Bool) (j:Nat) (C dx:Addr) (h1:mg c=some (.ref C)) (h2:ρ j=some dx) (h3:H a=some (XO a C (some dx) f)):ExcOk ρ mg H a c (some j,f)
theorem ExcOk.mono{ρ ρ':Rho}{mg:Str->Option Value}{H H':Hp}{a:Addr}{c:Str}{j:Option Nat×Bool}(l:∀ i b,ρ i=some b->ρ' i=some b)(e:H' a=H a)(h:ExcOk ρ mg H a c j):ExcOk ρ' mg H' a c j:=by
 cases h with
 | no f C h1 h2=>exact .no f C h1 (by rw[e];exact h2)
 | yes f j C dx h1 h2 h3=>exact .yes f j C dx h1 (l _ _ h2) (by rw[e];exact h3)
noncomputable def SOk(ρ:Rho)(S:Addr->Bool)(K:W.Frag)(mg:Str->Option Value)(H Hv:Hp)(a:Addr):SO->Prop
 | .ins c fs=>InsOk ρ S K mg H Hv a c fs
 | .lst ds=>∃ xs,H a=some (.lst xs)/\Reps ρ K Hv ds xs
 | .tab x l c q=>TabOk K mg H Hv a x l c q
 | .exc c j=>ExcOk ρ mg H a c j
 | .xd fs=>∃ vfs,H a=some (XDc a vfs)/\Flds ρ K Hv fs vfs
 | .dct kvs=>∃ vk:List (List Key×V),H a=some (.dT vk)/\vk.map (·.1)=kvs.map (fun p=>p.1.map Sum.inl)/\Reps ρ K Hv (kvs.map (·.2)) (vk.map (·.2))
inductive AtOk(ρ:Rho)(S:Addr->Bool)(K:W.Frag)(mg:Str->Option Value)(H Hv:Hp)(i:Nat)(so:SO):Prop
 | mk (a:Addr) (h1:ρ i=some a) (h2:S a=true) (h3:SOk ρ S K mg H Hv a so)
noncomputable def TV(H Hv:Hp):Prop:=∀ b xs,H b=some (.tup xs)->Hv b=some (.tup xs)
theorem jsh{H Hv:Hp}{a:Addr}{o:HO}(t:TV H Hv)(ho:∀ xs,o≠.tup xs):TV (upd H a o) Hv:=fun b xs q=>by
 by_cases hb:b=a
 ·subst hb;rw[jak] at q;cases q;exact absurd rfl (ho xs)
 ·rw[jag hb] at q;exact t b xs q
theorem jxf{H Hv Hv':Hp}(t:TV H Hv)(v:Same Hv Hv'):TV H Hv':=fun b xs q=>v b _ (t b xs q)
theorem juu{H H':Hp}{F:Addr->Bool}(t:TV H (hid H F))(fr:∀ b,H b=none->F b=false)(e:Same H H'):TV H' (hid H' F):=fun b xs q=>by
 cases z:H b with
 | none=>exact hid_some.mpr ⟨fr b z,q⟩
 | some o =>
  have:=e b o z;rw[q] at this;cases this;exact jas e b _ (t b xs z)
structure StoOk(ρ:Rho)(S:Addr->Bool)(K:W.Frag)(mg:Str->Option Value)(H Hv:Hp)(Ω:Sto):Prop where
 ats:∀ (i:Nat) so,Ω[i]? = some so->AtOk ρ S K mg H Hv i so
 inj:∀ i j a,ρ i=some a->ρ j=some a->i=j
 top:∀ i,Ω.length<=i->ρ i=none
 fin:∀ b,S b=true->H b≠none
 tv:TV H Hv
noncomputable abbrev nof:Addr->Bool:=fun _=>false
noncomputable def un(F S:Addr->Bool):Addr->Bool:=fun b=>F b || S b
theorem un_t{F S:Addr->Bool}{b:Addr}:un F S b=true↔F b=true\/S b=true:=by unfold un;rw[Bool.or_eq_true]
theorem un_f{F S:Addr->Bool}{b:Addr}:un F S b=false↔F b=false/\S b=false:=by unfold un;rw[Bool.or_eq_false_iff]
section
variable {ρ:Rho}{S:Addr->Bool}{K:W.Frag}{mg:Str->Option Value}{H H' Hv Hv':Hp}{Ω:Sto}
theorem SOk.mono{a:Addr}{so:SO}(hs:S a=true)(e:∀ b,S b=true->H' b=H b)(v:Same Hv Hv')(h:SOk ρ S K mg H Hv a so):SOk ρ S K mg H' Hv' a so:=by
 cases so with
 | ins c fs =>
  obtain⟨C,dx,vfs,q1,q2,q3,q4,q5⟩:=h;exact⟨C,dx,vfs,q1,by rw[e a hs];exact q2,by rw[e dx q4];exact q3,q4,q5.mono (RLe.refl _) v⟩
 | lst ds =>
  obtain⟨xs,q1,q2⟩:=h;exact⟨xs,by rw[e a hs];exact q1,q2.mono v⟩
 | tab x l c q =>
  obtain⟨ps,q1,q2,q3⟩:=h;exact⟨ps,by rw[e a hs];exact q1,q2,q3.mono v⟩
 | dct kvs =>
  obtain⟨vk,q1,q2,q3⟩:=h;exact⟨vk,by rw[e a hs];exact q1,q2,q3.mono v⟩
 | exc c j=>exact ExcOk.mono (fun _ _ z=>z) (e a hs) h
 | xd fs =>
  obtain⟨vfs,q1,q2⟩:=h;exact⟨vfs,by rw[e a hs];exact q1,q2.mono (RLe.refl _) v⟩
theorem StoOk.mono(h:StoOk ρ S K mg H Hv Ω)(e:∀ b,S b=true->H' b=H b)(v:Same Hv Hv')(t:TV H' Hv'):StoOk ρ S K mg H' Hv' Ω :=
 ⟨fun i so hi=>let ⟨a,q1,q2,q3⟩:=h.ats i so hi;⟨a,q1,q2,q3.mono q2 e v⟩,h.inj,h.top,fun b hb=>by rw[e b hb];exact h.fin b hb,t⟩
end
structure RM(ρz:Rho)(Sz:Addr->Bool)(Hz:Hp)(F:Addr->Bool)(K:W.Frag)(mg:Str->Option Value)(O:List Nat)(ρ:Rho)(S:Addr->Bool)(H:Hp)(σ:St)(δ:DSt)(Ω:Sto):Prop where
 rs:RS ρ K (hid H (fob nof σ O)) H (un F S) O σ δ
 rho:RLe ρz ρ
 same:∀ b o,Sz b=false->Hz b=some o->H b=some o
 old:∀ b,Sz b=true->S b=true
 new:∀ b,S b=true->Sz b=true\/Hz b=none
 own0:∀ i∈O,∀ a,σ[i]? = some (some (.ref a))->Hz a=none
 ff:∀ b,F b=true->S b=false
 sto:StoOk ρ S K mg H (hid H (fob (un F S) σ O)) Ω
section
variable {ρz ρ:Rho}{Sz S F:Addr->Bool}{Hz H1 H H':Hp}{K:W.Frag}{mg:Str->Option Value}{O:List Nat}{σ:St}{δ:DSt}{Ω:Sto}
theorem RS.rebase(R:RS ρ K H1 H F O σ δ):RS ρ K (hid H (fob nof σ O)) H F O σ δ :=
 ⟨R.len,jam,R.fin,R.val,fun i hi=>by
  obtain⟨a,xs,ds,q1,q2,q3,q4,q5⟩:=R.own i hi;refine⟨a,xs,ds,q1,q2,q3,⟨?_,q4.2⟩,q5⟩;unfold hid;rw[if_pos (fob_t.mpr (.inr ⟨i,hi,q2⟩))],R.nd⟩
theorem RM.at_store(R:RM ρz Sz Hz F K mg O ρ S H σ δ Ω)(e:Same H H'):∀ b,S b=true->H' b=H b:=fun b hb=>by
 cases q:H b with
 | none=>exact absurd q (R.sto.fin b hb)
 | some o=>exact e b o q
theorem RM.mono(R:RM ρz Sz Hz F K mg O ρ S H σ δ Ω)(e:Same H H'):RM ρz Sz Hz F K mg O ρ S H' σ δ Ω :=
 ⟨(R.rs.mono e).rebase,R.rho,fun b o h1 h2=>e b o (R.same b o h1 h2),R.old,R.new,R.own0,R.ff,R.sto.mono (R.at_store e) (jas e) (juu R.sto.tv (fun _ h=>R.rs.fresh h) e)⟩
theorem RM.fresh(R:RM ρz Sz Hz F K mg O ρ S H σ δ Ω){p:Addr}(h:H p=none):fob (un F S) σ O p=false:=R.rs.fresh h
theorem RM.fresh0(R:RM ρz Sz Hz F K mg O ρ S H σ δ Ω){p:Addr}(h:H p=none):Hz p=none\/Sz p=true:=by
 cases e:Sz p with
 | true=>exact .inr rfl
 | false =>
  cases e0:Hz p with
  | none=>exact .inl rfl
  | some o=>rw[R.same p o e e0] at h;cases h
theorem RM.noS(R:RM ρz Sz Hz F K mg O ρ S H σ δ Ω){p:Addr}(h:H p=none):S p=false:=by
 cases e:S p with
 | false=>rfl
 | true=>exact absurd h (R.sto.fin p e)
theorem RM.fresh00(R:RM ρz Sz Hz F K mg O ρ S H σ δ Ω){p:Addr}(h:H p=none):Hz p=none:=by
 rcases R.fresh0 h with q|q
 ·exact q
 ·have:=R.noS h;rw[R.old p q] at this;cases this
theorem RM.set(R:RM ρz Sz Hz F K mg O ρ S H σ δ Ω){i:Nat}{d:D}{v:V}(ho:i∉O)(hr:Rep ρ K (hid H (fob (un F S) σ O)) d v):RM ρz Sz Hz F K mg O ρ S H (σ.set i (some v)) (δ.set i (some d)) Ω:=by
 refine⟨(R.rs.set ho hr).rebase,R.rho,R.same,R.old,R.new,fun j hj a q=>?_,R.ff,by rw[jcv ho];exact R.sto⟩;rw[zbw (by rintro rfl;exact ho hj)] at q;exact R.own0 j hj a q
end
inductive tE(K:W.Frag)(mg:Str->Option Value)(O:List Nat)(f:DSt->MS D)(σ:St)(H:Hp)(Q:VK):Prop
 | mk (ρz:Rho) (Sz:Addr->Bool) (Hz:Hp) (F:Addr->Bool) (ρ:Rho) (S:Addr->Bool) (δ:DSt) (Ω:Sto) (R:RM ρz Sz Hz F K mg O ρ S H σ δ Ω) (r:Except XD D) (Ω':Sto) (hf:f δ Ω=some (r,Ω')) (k:match (generalizing:=false) r with
  | .ok d=>∀ v ρ' S' H',RM ρz Sz Hz F K mg O ρ' S' H' σ δ Ω'->RLe ρ ρ'->Same (hid H (fob (un F S) σ O)) (hid H' (fob (un F S') σ O))->Rep ρ' K (hid H' (fob (un F S') σ O)) d v->Q v H'
  | .error _=>True)
noncomputable def ME(X:Cx)(O:List Nat)(e:Expr)(f:DSt->MS D):Prop:=PE X e (tE X.K X.mg O f)
inductive tEB(K:W.Frag)(mg:Str->Option Value)(O:List Nat)(f:DSt->MS Bool)(σ:St)(H:Hp)(Q:Bool->Hp->Prop):Prop
 | mk (ρz:Rho) (Sz:Addr->Bool) (Hz:Hp) (F:Addr->Bool) (ρ:Rho) (S:Addr->Bool) (δ:DSt) (Ω:Sto) (R:RM ρz Sz Hz F K mg O ρ S H σ δ Ω) (r:Except XD Bool) (Ω':Sto) (hf:f δ Ω=some (r,Ω')) (k:match (generalizing:=false) r with
  | .ok d=>∀ ρ' S' H',RM ρz Sz Hz F K mg O ρ' S' H' σ δ Ω'->RLe ρ ρ'->Same (hid H (fob (un F S) σ O)) (hid H' (fob (un F S') σ O))->Q d H'
  | .error _=>True)
noncomputable def MT(X:Cx)(O:List Nat)(e:Expr)(f:DSt->MS Bool):Prop:=PT X e (tEB X.K X.mg O f)
noncomputable def MW(X:Cx)(O:List Nat)(e:Expr)(f:DSt->MS Bool):Prop:=PW X e (tEB X.K X.mg O f)
inductive tEL(K:W.Frag)(mg:Str->Option Value)(O:List Nat)(f:DSt->MS (List D))(σ:St)(H:Hp)(Q:List V->Hp->Prop):Prop
 | mk (ρz:Rho) (Sz:Addr->Bool) (Hz:Hp) (F:Addr->Bool) (ρ:Rho) (S:Addr->Bool) (δ:DSt) (Ω:Sto) (R:RM ρz Sz Hz F K mg O ρ S H σ δ Ω) (r:Except XD (List D)) (Ω':Sto) (hf:f δ Ω=some (r,Ω')) (k:match (generalizing:=false) r with
  | .ok ds=>∀ vs ρ' S' H',RM ρz Sz Hz F K mg O ρ' S' H' σ δ Ω'->RLe ρ ρ'->Same (hid H (fob (un F S) σ O)) (hid H' (fob (un F S') σ O))->Reps ρ' K (hid H' (fob (un F S') σ O)) ds vs->Q vs H'
  | .error _=>True)
noncomputable def MA(X:Cx)(O:List Nat)(es:List Expr)(f:DSt->MS (List D)):Prop:=PA X es (tEL X.K X.mg O f)
noncomputable def lF{α:Type}(f:DSt->M α):DSt->MS α:=fun δ=>MS.l (f δ)
noncomputable def jlf(f:DSt->MS D)(g:DSt->MS (List D)):DSt->MS (List D):=fun δ=>(f δ).b fun x=>(g δ).b fun xs=>MS.p (x::xs)
noncomputable def m2(g:D->D->Option D)(fa fb:DSt->MS D):DSt->MS D:=fun δ=>(fa δ).b fun x=>(fb δ).b fun y=>MS.o (g x y)
noncomputable def m1(g:D->Option D)(fa:DSt->MS D):DSt->MS D:=fun δ=>(fa δ).b fun x=>MS.o (g x)
noncomputable def mL(k:List D->Option D)(g:DSt->MS (List D)):DSt->MS D:=fun δ=>(g δ).b fun xs=>MS.o (k xs)
noncomputable def mTru(fa:DSt->MS D):DSt->MS Bool:=fun δ=>(fa δ).b fun x=>MS.o (truD x)
noncomputable def mNot(ta:DSt->MS Bool):DSt->MS Bool:=fun δ=>(ta δ).b fun x=>MS.p !x
noncomputable def mOr(ta tb:DSt->MS Bool):DSt->MS Bool:=fun δ=>(ta δ).b fun x=>if x=true then MS.p true else tb δ
noncomputable def getO(cs:List Str)(f:Str):D->MS D:=fun x Ω=>match x with
 | .obj i=>match Ω[i]? with
  | some (.ins c fs)=>if cs.contains c then (fs.lookup f).map fun d=>(.ok d,Ω) else none
  | _=>none
 | _=>none
noncomputable def mGet(cs:List Str)(f:Str)(fa:DSt->MS D):DSt->MS D:=fun δ=>(fa δ).b fun x=>getO cs f x
section
variable {X:Cx}{O:List Nat}{a b c e:Expr}{es:List Expr}{fa fb:DSt->MS D}{fl:DSt->MS (List D)}{pos:Pos}{ta tb:DSt->MS Bool}
theorem jd7{f:DSt->M D}(h:DE X O E0 e f):ME X O e (lF f):=by
 rintro pins s σ H Q I ⟨ρz,Sz,Hz,F,ρ,S,δ,Ω,R,r,Ω',hf,k⟩;obtain⟨hg,rfl⟩:=MS.l_inv hf;refine h pins s σ H Q I ⟨ρ,_,un F S,δ,r,R.rs,hg,?_⟩
 cases r with
 | ok d=>exact fun v H' s' rv=>k v ρ S H' (R.mono s') (RLe.refl _) (jas s') rv
 | error x=>exact fun c dx H' _ z=>z.elim
theorem jov{f:DSt->M Bool}(h:DT X O E0 e f):MT X O e (lF f):=by
 rintro pins s σ H Q I ⟨ρz,Sz,Hz,F,ρ,S,δ,Ω,R,r,Ω',hf,k⟩;obtain⟨hg,rfl⟩:=MS.l_inv hf;refine h pins s σ H Q I ⟨ρ,_,un F S,δ,r,R.rs,hg,?_⟩
 cases r with
 | ok d=>exact fun H' s'=>k ρ S H' (R.mono s') (RLe.refl _) (jas s')
 | error x=>exact fun c dx H' _ z=>z.elim
theorem jfp{f:DSt->M (List D)}(h:DA X O E0 es f):MA X O es (lF f):=by
 rintro p pins s σ H Q I ⟨ρz,Sz,Hz,F,ρ,S,δ,Ω,R,r,Ω',hf,k⟩;obtain⟨hg,rfl⟩:=MS.l_inv hf;refine h p pins s σ H Q I ⟨ρ,_,un F S,δ,r,R.rs,hg,?_⟩
 cases r with
 | ok d=>exact fun v H' s' rv=>k v ρ S H' (R.mono s') (RLe.refl _) (jas s') rv
 | error x=>exact fun c dx H' _ z=>z.elim
theorem joo(ha:ME X O e fa)(hr:MA X O es fl)(hs:autoParam (starEach (e::es) X.env=(false,eval e X.env)::starEach es X.env) zau2._auto_1):MA X O (e::es) (jlf fa fl):=by
 rintro p pins s σ H Q I ⟨ρz,Sz,Hz,F,ρ,S,δ,Ω,R,r,Ω',hf,k⟩;refine jdo ha hr hs p pins s σ H Q I ?_;rcases MS.b_inv hf with ⟨x,Ω1,e1,hf⟩|⟨x,e1,rfl⟩
 ·refine⟨ρz,Sz,Hz,F,ρ,S,δ,Ω,R,.ok x,Ω1,e1,fun u ρ1 S1 H1 R1 l1 v1 r1=>?_⟩;rcases MS.b_inv hf with ⟨xs,Ω2,e2,hf⟩|⟨y,e2,rfl⟩
  ·cases hf;exact⟨ρz,Sz,Hz,F,ρ1,S1,δ,Ω1,R1,.ok xs,_,e2,fun vs ρ2 S2 H2 R2 l2 v2 r2=>k (u::vs) ρ2 S2 H2 R2 (l1.trans l2) (v1.trans v2) (Reps.cons ((r1.rho l2).mono v2) r2)⟩
  ·exact⟨ρz,Sz,Hz,F,ρ1,S1,δ,Ω1,R1,.error y,_,e2,trivial⟩
 ·exact⟨ρz,Sz,Hz,F,ρ,S,δ,Ω,R,.error x,_,e1,trivial⟩
theorem jtt{g:D->D->Option D}{r:R2}{σ:St}{H:Hp}{Q:VK}(hg:OpD X.K g r)(h:tE X.K X.mg O (m2 g fa fb) σ H Q):tOp r (tE X.K X.mg O fa) (tE X.K X.mg O fb) σ H Q:=by
 obtain⟨ρz,Sz,Hz,F,ρ,S,δ,Ω,R,r,Ω',hf,k⟩:=h;rcases MS.b_inv hf with ⟨x,Ω1,e1,hf⟩|⟨x,e1,rfl⟩
 ·refine⟨ρz,Sz,Hz,F,ρ,S,δ,Ω,R,.ok x,Ω1,e1,fun u ρ1 S1 H1 R1 l1 v1 r1=>?_⟩;rcases MS.b_inv hf with ⟨y,Ω2,e2,hf⟩|⟨y,e2,rfl⟩
  ·refine⟨ρz,Sz,Hz,F,ρ1,S1,δ,Ω1,R1,.ok y,Ω2,e2,fun w ρ2 S2 H2 R2 l2 v2 r2=>?_⟩;obtain⟨d,hd,rfl,rfl⟩:=MS.o_inv hf;exact hg x y d hd ρ2 H2 _ u w Q (fun p hp=>R2.fresh hp) ((r1.rho l2).mono v2) r2 fun z H3 s3 r3=>k z ρ2 S2 H3 (R2.mono s3) (l1.trans l2) (v1.trans (v2.trans (jas s3))) r3
  ·exact⟨ρz,Sz,Hz,F,ρ1,S1,δ,Ω1,R1,.error y,_,e2,trivial⟩
 ·exact⟨ρz,Sz,Hz,F,ρ,S,δ,Ω,R,.error x,_,e1,trivial⟩
theorem jow(ha:ME X O a fa)(he:autoParam (∀ whole,isTrue a X.env whole=(do let v <- whole;standAt a.pos;holding [v] (truthy v))) zau7._auto_1):MT X O a (mTru fa):=by
 rintro pins s σ H Q I ⟨ρz,Sz,Hz,F,ρ,S,δ,Ω,R,r,Ω',hf,k⟩;refine jmg ha he pins s σ H Q I ?_;rcases MS.b_inv hf with ⟨x,Ω1,e1,hf⟩|⟨x,e1,rfl⟩
 ·refine⟨ρz,Sz,Hz,F,ρ,S,δ,Ω,R,.ok x,Ω1,e1,fun u ρ1 S1 H1 R1 l1 v1 r1=>?_⟩;obtain⟨z,hz,rfl,rfl⟩:=MS.o_inv hf;refine⟨z,?_,k ρ1 S1 H1 R1 l1 v1⟩
  cases x with
  | non=>cases hz;rw[rep_non.mp r1];rfl
  | bl y=>cases hz;rw[rep_bl.mp r1];rfl
  | int i=>cases hz;rw[rep_int.mp r1];rfl
  | str y =>
   by_cases hl:y.length<=sizeLine
   ·have e:truD (.str y)=some ((y.length:Int) != 0):=if_pos hl;rw[e] at hz;cases hz
    rw[rep_str.mp r1];exact⟨hl,rfl⟩
   ·have e:truD (.str y)=none:=if_neg hl;rw[e] at hz;cases hz
  | tup ds =>
   cases hz;obtain⟨q,xs,rfl,q2,q3⟩:=rep_tup.mp r1;exact .inr (.inl ⟨xs,jdj jam q2,by rw[isE q3]⟩)
  | lst ds =>
   cases hz;obtain⟨q,xs,rfl,q2,q3⟩:=rep_lst.mp r1;exact .inl ⟨xs,jc1 jam q2,by rw[isE q3]⟩
  | ty n=>cases hz
  | obj n=>cases hz
 ·exact⟨ρz,Sz,Hz,F,ρ,S,δ,Ω,R,.error x,_,e1,trivial⟩
theorem jr5(ha:MT X O a ta):MT X O (.UnaryOp .Not a pos) (mNot ta):=by
 rintro pins s σ H Q I ⟨ρz,Sz,Hz,F,ρ,S,δ,Ω,R,r,Ω',hf,k⟩;refine jse ha pins s σ H Q I ?_;rcases MS.b_inv hf with ⟨x,Ω1,e1,hf⟩|⟨x,e1,rfl⟩
 ·cases hf;exact⟨ρz,Sz,Hz,F,ρ,S,δ,Ω,R,.ok x,_,e1,fun ρ1 S1 H1 R1 l1 v1=>k ρ1 S1 H1 R1 l1 v1⟩
 ·exact⟨ρz,Sz,Hz,F,ρ,S,δ,Ω,R,.error x,_,e1,trivial⟩
theorem MW.mt{f:DSt->MS Bool}(h:MW X O e f):MT X O e f:=PW.pt h
theorem jwq(ha:MT X O a ta):MW X O (.BoolOp .Or [a] pos) ta:=jsf ha
theorem jwp{rest:List Expr}(ha:MT X O a ta)(hb:MW X O (.BoolOp .Or (b::rest) pos) tb):MW X O (.BoolOp .Or (a::b::rest) pos) (mOr ta tb):=by
 rintro wh pins s σ H Q I ⟨ρz,Sz,Hz,F,ρ,S,δ,Ω,R,r,Ω',hf,k⟩;refine jw2 ha hb wh pins s σ H Q I ?_;rcases MS.b_inv hf with ⟨x,Ω1,e1,hf⟩|⟨x,e1,rfl⟩
 ·refine⟨ρz,Sz,Hz,F,ρ,S,δ,Ω,R,.ok x,Ω1,e1,fun ρ1 S1 H1 R1 l1 v1=>?_⟩
  cases x with
  | true=>cases hf;exact iteT (k ρ1 S1 H1 R1 l1 v1)
  | false =>
   refine iteF ⟨ρz,Sz,Hz,F,ρ1,S1,δ,Ω1,R1,r,Ω',hf,?_⟩
   cases r with
   | ok d=>exact fun ρ2 S2 H2 R2 l2 v2=>k ρ2 S2 H2 R2 (l1.trans l2) (v1.trans v2)
   | error y=>trivial
 ·exact⟨ρz,Sz,Hz,F,ρ,S,δ,Ω,R,.error x,_,e1,trivial⟩
end
structure RT(ρz:Rho)(Sz:Addr->Bool)(Hz:Hp)(F:Addr->Bool)(K:W.Frag)(mg:Str->Option Value)(ρ:Rho)(S:Addr->Bool)(H:Hp)(Ω:Sto):Prop where
 rho:RLe ρz ρ
 same:∀ b o,Sz b=false->Hz b=some o->H b=some o
 old:∀ b,Sz b=true->S b=true
 new:∀ b,S b=true->Sz b=true\/Hz b=none
 ff:∀ b,F b=true->S b=false
 sto:StoOk ρ S K mg H (hid H (un F S)) Ω
section
variable {ρz ρ:Rho}{Sz S F:Addr->Bool}{Hz H H':Hp}{K:W.Frag}{mg:Str->Option Value}{O O':List Nat}{σ σ':St}{δ δ':DSt}{Ω:Sto}
theorem jf2{σ:St}{O:List Nat}{F:Addr->Bool}:∀ b,F b=true->fob F σ O b=true:=fun b h=>fob_t.mpr (.inl h)
theorem RM.rt(R:RM ρz Sz Hz F K mg O ρ S H σ δ Ω):RT ρz Sz Hz F K mg ρ S H Ω :=
 ⟨R.rho,R.same,R.old,R.new,R.ff,R.sto.mono (fun _ _=>rfl) (jfe jf2) (jxf R.sto.tv (jfe jf2))⟩
theorem RM.base_some(R:RM ρz Sz Hz F K mg O ρ S H σ δ Ω){b:Addr}{o:HO}(h:H b=some o)(hn:¬ ∃ i∈O,σ[i]? = some (some (.ref b))):hid H (fob nof σ O) b=some o :=
 hid_some.mpr ⟨by cases e:fob nof σ O b with
  | false=>rfl
  | true=>rcases fob_t.mp e with q|q;cases q;exact absurd q hn,h⟩
theorem RM.base_S(R:RM ρz Sz Hz F K mg O ρ S H σ δ Ω){b:Addr}(hb:S b=true):¬ ∃ i∈O,σ[i]? = some (some (.ref b)):=by
 rintro⟨i,hi,q⟩;obtain⟨a,xs,ds,q1,q2,q3,q4,q5⟩:=R.rs.own i hi;rw[q] at q2;cases q2
 rw[(un_f.mp q4.2).2] at hb;cases hb
theorem RM.base_0(R:RM ρz Sz Hz F K mg O ρ S H σ δ Ω){b:Addr}{o:HO}(hb:Hz b=some o):¬ ∃ i∈O,σ[i]? = some (some (.ref b)):=by
 rintro⟨i,hi,q⟩;rw[R.own0 i hi b q] at hb;cases hb
theorem RM.no_tup(R:RM ρz Sz Hz F K mg O ρ S H σ δ Ω)(s:Same (hid H (fob nof σ O)) H'){b:Addr}{xs:List V}(hb:un F S b=true):H' b≠some (.tup xs):=fun q=>by
 cases e:H b with
 | none=>exact R.rs.fin b hb e
 | some o =>
  have:=s b o (R.base_some e fun ⟨i,hi,y⟩=>by
   obtain⟨a,xs,ds,q1,q2,q3,q4,q5⟩:=R.rs.own i hi;rw[y] at q2;cases q2
   rw[q4.2] at hb;cases hb)
  rw[q] at this;cases this;have:=(hid_some.mp (R.sto.tv b xs e)).1;rw[jf2 b hb] at this;cases this
theorem RM.next(R:RM ρz Sz Hz F K mg O ρ S H σ δ Ω)(R':RS ρ K (hid H (fob nof σ O)) H' (un F S) O' σ' δ')(v:Same (hid H (fob (un F S) σ O)) (hid H' (fob (un F S) σ' O'))):RM ρz Sz Hz F K mg O' ρ S H' σ' δ' Ω:=by
 refine⟨R'.rebase,R.rho,fun b o h1 h2=>R'.same b o (R.base_some (R.same b o h1 h2) (R.base_0 h2)),R.old,R.new,fun i hi a q=>?_,R.ff,R.sto.mono (fun b hb=>?_) v fun b xs q=>hid_some.mpr ⟨?_,q⟩⟩
 ·obtain⟨a',xs,ds,q1,q2,q3,q4,q5⟩:=R'.own i hi;rw[q] at q2;cases q2
  have h0:=q4.1
  cases e:H a with
  | none=>exact R.fresh00 e
  | some o =>
   by_cases hn:∃ i∈O,σ[i]? = some (some (.ref a))
   ·obtain⟨j,hj,z⟩:=hn;exact R.own0 j hj a z
   ·rw[R.base_some e hn] at h0;cases h0
 ·cases e:H b with
  | none=>exact absurd e (R.sto.fin b hb)
  | some o=>exact R'.same b o (R.base_some e (R.base_S hb))
 ·cases z:fob (un F S) σ' O' b with
  | false=>rfl
  | true =>
   rcases fob_t.mp z with z|⟨i,hi,z⟩
   ·exact absurd q (R.no_tup R'.same z)
   ·obtain⟨a,xs,ds,q1,q2,q3,q4,q5⟩:=R'.own i hi;rw[z] at q2;cases q2
    rw[q3] at q;cases q
theorem RM.left(R:RM ρz Sz Hz F K mg O ρ S H σ δ Ω)(s:Same (hid H (fob nof σ O)) H'):RT ρz Sz Hz F K mg ρ S H' Ω:=by
 refine⟨R.rho,fun b o h1 h2=>s b o (R.base_some (R.same b o h1 h2) (R.base_0 h2)),R.old,R.new,R.ff,R.sto.mono (fun b hb=>?_) (fun b o q=>?_) fun b xs q=>hid_some.mpr ⟨?_,q⟩⟩
 ·cases e:H b with
  | none=>exact absurd e (R.sto.fin b hb)
  | some o=>exact s b o (R.base_some e (R.base_S hb))
 ·obtain⟨q1,q2⟩:=hid_some.mp q;refine hid_some.mpr ⟨?_,s b o (R.base_some q2 fun hn=>?_)⟩
  ·cases e:un F S b with
   | false=>rfl
   | true=>rw[jf2 b e] at q1;cases q1
  ·rw[fob_t.mpr (.inr hn)] at q1;cases q1
 ·cases z:un F S b with
  | false=>rfl
  | true=>exact absurd q (R.no_tup s z)
end
noncomputable def OkE(K:W.Frag)(mg:Str->Option Value)(O' B:List Nat)(ρz:Rho)(Sz:Addr->Bool)(Hz:Hp)(F:Addr->Bool)(ρ:Rho)(Hv:Hp)(Dn:Ends):Except XD Out->Sto->Prop
 | .ok (.nx δ'),Ω'=>∀ ρ' S' σ' H',RM ρz Sz Hz F K mg O' ρ' S' H' σ' δ' Ω'->RLe ρ ρ'->Same Hv (hid H' (fob (un F S') σ' O'))->Dn.nx σ' H'
 | .ok (.rt d),Ω'=>∀ v ρ' S' H',RT ρz Sz Hz F K mg ρ' S' H' Ω'->Rep ρ' K (hid H' (un F S')) d v->Dn.rt v H'
 | .ok (.bk δ'),Ω'=>∀ ρ' S' σ' H',RM ρz Sz Hz F K mg B ρ' S' H' σ' δ' Ω'->RLe ρ ρ'->Same Hv (hid H' (fob (un F S') σ' B))->Dn.bk σ' H'
 | .ok (.ct δ'),Ω'=>∀ ρ' S' σ' H',RM ρz Sz Hz F K mg B ρ' S' H' σ' δ' Ω'->RLe ρ ρ'->Same Hv (hid H' (fob (un F S') σ' B))->Dn.ct σ' H'
 | .error _,_=>True
theorem OkE.back{K:W.Frag}{mg:Str->Option Value}{O' B:List Nat}{ρz ρ ρ':Rho}{Sz:Addr->Bool}{Hz:Hp}{F:Addr->Bool}{Hv Hv':Hp}{Dn:Ends}{r:Except XD Out}{Ω':Sto}(l:RLe ρ ρ')(e:Same Hv Hv')(h:OkE K mg O' B ρz Sz Hz F ρ Hv Dn r Ω') :
  OkE K mg O' B ρz Sz Hz F ρ' Hv' Dn r Ω':=by
 cases r with
 | error x=>trivial
 | ok o =>
  cases o with
  | nx δ'=>exact fun ρ1 S1 σ1 H1 R l1 v1=>h ρ1 S1 σ1 H1 R (l.trans l1) (e.trans v1)
  | bk δ'=>exact fun ρ1 S1 σ1 H1 R l1 v1=>h ρ1 S1 σ1 H1 R (l.trans l1) (e.trans v1)
  | ct δ'=>exact fun ρ1 S1 σ1 H1 R l1 v1=>h ρ1 S1 σ1 H1 R (l.trans l1) (e.trans v1)
  | rt d=>exact h
inductive sE(K:W.Frag)(mg:Str->Option Value)(O O' B:List Nat)(g:DSt->MS Out)(Dn:Ends)(σ:St)(H:Hp):Prop
 | mk (ρz:Rho) (Sz:Addr->Bool) (Hz:Hp) (F:Addr->Bool) (ρ:Rho) (S:Addr->Bool) (δ:DSt) (Ω:Sto) (R:RM ρz Sz Hz F K mg O ρ S H σ δ Ω) (r:Except XD Out) (Ω':Sto) (hf:g δ Ω=some (r,Ω')) (k:OkE K mg O' B ρz Sz Hz F ρ (hid H (fob (un F S) σ O)) Dn r Ω')
noncomputable def MSt(X:Cx)(O O' B:List Nat)(st:Stmt)(g:DSt->MS Out):Prop:=PS X st (sE X.K X.mg O O' B g)
noncomputable def MSs(X:Cx)(O O' B:List Nat)(st:List Stmt)(g:DSt->MS Out):Prop:=PSs X st (sE X.K X.mg O O' B g)
noncomputable def eNx:DSt->MS Out:=fun δ=>MS.p (.nx δ)
noncomputable def eSeq(g1 g2:DSt->MS Out):DSt->MS Out:=fun δ=>(g1 δ).b fun o=>match o with
 | .nx δ'=>g2 δ'
 | o=>MS.p o
noncomputable def eSet(i:Nat)(f:DSt->MS D):DSt->MS Out:=fun δ=>(f δ).b fun d=>MS.p (.nx (δ.set i (some d)))
noncomputable def eRet(f:DSt->MS D):DSt->MS Out:=fun δ=>(f δ).b fun d=>MS.p (.rt d)
noncomputable def jmt(f:DSt->MS D):DSt->MS Out:=fun δ=>(f δ).b fun _=>MS.p (.nx δ)
noncomputable def eIf(t:DSt->MS Bool)(g1 g2:DSt->MS Out):DSt->MS Out:=fun δ=>(t δ).b fun b=>if b=true then g1 δ else g2 δ
noncomputable def putO(cs:List Str)(f:Str)(x d:D):MS Unit:=fun Ω=>match x with
 | .obj i=>match Ω[i]? with
  | some (.ins c fs)=>if (cs.contains c&&decide (fs.length<1000))=true then some (.ok (),Ω.set i (.ins c (putD f d fs))) else none
  | _=>none
 | _=>none
noncomputable def ePut(cs:List Str)(f:Str)(fo fv:DSt->MS D):DSt->MS Out:=fun δ=>(fv δ).b fun d=>(fo δ).b fun x=>(putO cs f x d).b fun _=>MS.p (.nx δ)
noncomputable def forE(g:DSt->MS Out)(tg:D->DSt->Option DSt):List D->DSt->MS Out
 | [],δ=>MS.p (.nx δ)
 | d::ds,δ=>match tg d δ with
  | none=>fun _=>none
  | some δ1=>(g δ1).b fun o=>match o with
   | .nx δ'=>forE g tg ds δ'
   | .ct δ'=>forE g tg ds δ'
   | .bk δ'=>MS.p (.nx δ')
   | .rt v=>MS.p (.rt v)
noncomputable def eFor(fi:DSt->MS (List D))(tg:D->DSt->Option DSt)(g:DSt->MS Out):DSt->MS Out:=fun δ=>(fi δ).b fun ds=>forE g tg ds δ
section
variable {X:Cx}{O O' O'' B:List Nat}{c e:Expr}{fa:DSt->MS D}{pos:Pos}{st:Stmt}{rest:List Stmt}{g g1 g2:DSt->MS Out}{tc:DSt->MS Bool}
theorem jc0{h:DSt->M Out}(hd:DS X O O' B E0 st h):MSt X O O' B st (lF h):=by
 rintro pins s σ H Dn I ⟨ρz,Sz,Hz,F,ρ,S,δ,Ω,R,r,Ω',hf,k⟩;obtain⟨hg,rfl⟩:=MS.l_inv hf;refine hd pins s σ H Dn I ⟨ρ,_,un F S,δ,r,R.rs,hg,?_⟩
 cases r with
 | error x=>exact fun c dx H' _ z=>z.elim
 | ok o =>
  cases o with
  | nx δ'=>exact fun σ' H' v R'=>k ρ S σ' H' (R.next R' v) (RLe.refl _) v
  | bk δ'=>exact fun σ' H' v R'=>k ρ S σ' H' (R.next R' v) (RLe.refl _) v
  | ct δ'=>exact fun σ' H' v R'=>k ρ S σ' H' (R.next R' v) (RLe.refl _) v
  | rt d=>exact fun v H' s' rv=>k v ρ S H' (R.left s') rv
theorem jjd:MSs X O O B [] eNx:=by
 rintro pins s σ H Dn I ⟨ρz,Sz,Hz,F,ρ,S,δ,Ω,R,r,Ω',hf,k⟩;cases hf;exact jpe pins s σ H Dn I (k ρ S σ H R (RLe.refl _) (Same.refl _))
theorem jbv(h1:MSt X O O' B st g1)(h2:MSs X O' O'' B rest g2):MSs X O O'' B (st::rest) (eSeq g1 g2):=by
 rintro pins s σ H Dn I ⟨ρz,Sz,Hz,F,ρ,S,δ,Ω,R,r,Ω',hf,k⟩;refine jji h1 h2 pins s σ H Dn I ?_;rcases MS.b_inv hf with ⟨o,Ω1,e1,hf⟩|⟨x,e1,rfl⟩
 ·refine⟨ρz,Sz,Hz,F,ρ,S,δ,Ω,R,.ok o,Ω1,e1,?_⟩
  cases o with
  | nx δ'=>exact fun ρ1 S1 σ1 H1 R1 l1 v1=>⟨ρz,Sz,Hz,F,ρ1,S1,δ',Ω1,R1,r,Ω',hf,k.back l1 v1⟩
  | rt d=>cases hf;exact k
  | bk δ'=>cases hf;exact k
  | ct δ'=>cases hf;exact k
 ·exact⟨ρz,Sz,Hz,F,ρ,S,δ,Ω,R,.error x,_,e1,trivial⟩
theorem jgi(h1:MSt X O O' B st g):MSs X O O' B [st] g:=fun pins s σ H Dn I h=>jjj h1 pins s σ H Dn I h
theorem jr3(he:ME X O e fa):MSt X O O' B (.Return (some e) pos) (eRet fa):=by
 rintro pins s σ H Dn I ⟨ρz,Sz,Hz,F,ρ,S,δ,Ω,R,r,Ω',hg,k⟩;refine jsd he pins s σ H Dn I ?_;rcases MS.b_inv hg with ⟨d,Ω1,e1,hg⟩|⟨x,e1,rfl⟩
 ·cases hg;exact⟨ρz,Sz,Hz,F,ρ,S,δ,Ω,R,.ok d,_,e1,fun v ρ1 S1 H1 R1 l1 v1 r1=>k v ρ1 S1 H1 R1.rt (r1.mono (jfe jf2))⟩
 ·exact⟨ρz,Sz,Hz,F,ρ,S,δ,Ω,R,.error x,_,e1,trivial⟩
theorem jwm{s1 s2:List Stmt}(hc:MT X O c tc)(h1:MSs X O O' B s1 g1)(h2:MSs X O O' B s2 g2):MSt X O O' B (.If c s1 s2 pos) (eIf tc g1 g2):=by
 rintro pins s σ H Dn I ⟨ρz,Sz,Hz,F,ρ,S,δ,Ω,R,r,Ω',hg,k⟩;refine jug hc h1 h2 pins s σ H Dn I ?_;rcases MS.b_inv hg with ⟨z,Ω1,e1,hg⟩|⟨x,e1,rfl⟩
 ·refine⟨ρz,Sz,Hz,F,ρ,S,δ,Ω,R,.ok z,_,e1,fun ρ1 S1 H1 R1 l1 v1=>?_⟩
  cases z with
  | true=>exact iteT ⟨ρz,Sz,Hz,F,ρ1,S1,δ,Ω1,R1,r,Ω',hg,k.back l1 v1⟩
  | false=>exact iteF ⟨ρz,Sz,Hz,F,ρ1,S1,δ,Ω1,R1,r,Ω',hg,k.back l1 v1⟩
 ·exact⟨ρz,Sz,Hz,F,ρ,S,δ,Ω,R,.error x,_,e1,trivial⟩
end
section
variable {ρz ρ ρ':Rho}{Sz S S' F:Addr->Bool}{Hz H H1 H':Hp}{K:W.Frag}{mg:Str->Option Value}{O:List Nat}{σ:St}{δ:DSt}{Ω Ω':Sto}
theorem RS.updF{a:Addr}{o:HO}(R:RS ρ K H1 H F O σ δ)(h:F a=true):RS ρ K (hid (upd H a o) (fob nof σ O)) (upd H a o) F O σ δ:=by
 have hh:hid (upd H a o) (fob F σ O)=hid H (fob F σ O):=jgf (jf2 a h);refine⟨R.len,jam,fun b hb=>jgy (R.fin b hb),fun i d hd hi=>by rw[hh];exact R.val i d hd hi,fun i hi=>?_,R.nd⟩;obtain⟨l,xs,ds,q1,q2,q3,q4,q5⟩:=R.own i hi;have hl:l≠a:=by rintro rfl;rw[q4.2] at h;cases h
 refine⟨l,xs,ds,q1,q2,by rw[jag hl];exact q3,⟨?_,q4.2⟩,by rw[hh];exact q5⟩;unfold hid;rw[if_pos (fob_t.mpr (.inr ⟨i,hi,q2⟩))]
theorem je2:un (fob F σ O) S=fob (un F S) σ O:=by
 funext b
 unfold un fob;simp only;cases F b<;>cases S b<;>cases (ownA σ O).contains b<;>rfl
theorem RM.call(R:RM ρz Sz Hz F K mg O ρ S H σ δ Ω)(l:RLe ρ ρ')(sm:∀ b o,S b=false->H b=some o->H' b=some o)(old:∀ b,S b=true->S' b=true)(new:∀ b,S' b=true->S b=true\/H b=none)
  (ff:∀ b,fob F σ O b=true->S' b=false) (sto:StoOk ρ' S' K mg H' (hid H' (un (fob F σ O) S')) Ω') :
  RM ρz Sz Hz F K mg O ρ' S' H' σ δ Ω'/\Same (hid H (fob (un F S) σ O)) (hid H' (fob (un F S') σ O)):=by
 have keepS:∀ b o,S b=false->H b=some o->S' b=false:=fun b o h1 h2=>by
  cases e:S' b with
  | false=>rfl
  | true =>
   rcases new b e with q|q
   ·rw[q] at h1;cases h1
   ·rw[q] at h2;cases h2
 have vis:Same (hid H (fob (un F S) σ O)) (hid H' (fob (un F S') σ O)):=fun b o q=>by
  obtain⟨q1,q2⟩:=hid_some.mp q;have hu:un F S b=false:=by
   cases e:un F S b with
   | false=>rfl
   | true=>rw[jf2 b e] at q1;cases q1
  obtain⟨h1,h2⟩:=un_f.mp hu;refine hid_some.mpr ⟨?_,sm b o h2 q2⟩
  cases e:fob (un F S') σ O b with
  | false=>rfl
  | true =>
   rcases fob_t.mp e with z|z
   ·rcases un_t.mp z with z|z
    ·rw[h1] at z;cases z
    ·rw[keepS b o h2 q2] at z;cases z
   ·rw[fob_t.mpr (.inr z)] at q1;cases q1
 have rs:RS ρ' K (hid H' (fob nof σ O)) H' (un F S') O σ δ:=by
  refine⟨R.rs.len,jam,fun b hb=>?_,fun i d hd hi=>?_,fun i hi=>?_,R.rs.nd⟩
  ·rcases un_t.mp hb with q|q
   ·have h1:=R.rs.fin b (un_t.mpr (.inl q));intro z
    cases e:H b with
    | none=>exact h1 e
    | some o=>rw[sm b o (R.ff b q) e] at z;cases z
   ·exact sto.fin b q
  ·obtain⟨v,q1,q2⟩:=R.rs.val i d hd hi;exact⟨v,q1,(q2.rho l).mono vis⟩
  ·obtain⟨a,xs,ds,q1,q2,q3,q4,q5⟩:=R.rs.own i hi;have hS:=(un_f.mp q4.2).2;refine⟨a,xs,ds,q1,q2,sm a _ hS q3,⟨?_,un_f.mpr ⟨(un_f.mp q4.2).1,keepS a _ hS q3⟩⟩,(q5.rho l).mono vis⟩;unfold hid;rw[if_pos (fob_t.mpr (.inr ⟨i,hi,q2⟩))]
 refine⟨⟨rs,R.rho.trans l,fun b o h1 h2=>?_,fun b hb=>old b (R.old b hb),fun b hb=>?_,R.own0,fun b hb=>ff b (fob_t.mpr (.inl hb)),by rw[je2] at sto;exact sto⟩,vis⟩
 ·have h3:=R.same b o h1 h2;refine sm b o ?_ h3
  cases e:S b with
  | false=>rfl
  | true =>
   rcases R.new b e with q|q
   ·rw[q] at h1;cases h1
   ·rw[q] at h2;cases h2
 ·rcases new b hb with q|q
  ·exact R.new b q
  ·exact .inr (R.fresh00 q)
noncomputable def addR(ρ:Rho)(n:Nat)(x:Addr):Rho:=fun i=>if i=n then some x else ρ i
noncomputable def addS(S:Addr->Bool)(x dx:Addr):Addr->Bool:=fun b=>S b || b == x || b == dx
theorem addS_t{S:Addr->Bool}{x dx b:Addr}:addS S x dx b=true↔S b=true\/b=x\/b=dx:=by
 unfold addS;simp only[Bool.or_eq_true,beq_iff_eq,or_assoc]
end
inductive spE(K:W.Frag)(mg:Str->Option Value)(n:Nat)(m:List D->MS D)(vs:List V)(H:Hp)(Q:VK)(E:XK):Prop
 | mk (hn:vs.length=n) (ρ:Rho) (S F:Addr->Bool) (ds:List D) (Ω:Sto) (hF:∀ b,F b=true->H b≠none) (hS:∀ b,F b=true->S b=false) (hr:Reps ρ K (hid H (un F S)) ds vs) (hs:StoOk ρ S K mg H (hid H (un F S)) Ω) (r:Except XD D) (Ω':Sto) (hf:m ds Ω=some (r,Ω')) (k:match (generalizing:=false) r with
  | .ok d=>∀ v ρ' S' H',RLe ρ ρ'->(∀ b o,S b=false->H b=some o->H' b=some o)->(∀ b,S b=true->S' b=true)->(∀ b,S' b=true->S b=true\/H b=none)->(∀ b,F b=true->S' b=false)->StoOk ρ' S' K mg H' (hid H' (un F S')) Ω'->Rep ρ' K (hid H' (un F S')) d v->Q v H'
  | .error _=>True)
inductive MetX(P:Program)(w:World)(K:W.Frag)(mg:Str->Option Value)(base:Heap)(k:Nat)(c x:Str)(n:Nat)(sp:Sp):Prop
 | mk (C f:Addr) (fd:FuncData) (ps:List Str) (h1:ps.length=n) (h2:mg c=some (.ref C)) (h3:Cls K C) (h4:Meth K C x f) (h5:Binds K fd ps []) (h6:FnOk P w K mg base CX0 k f fd ps sp)
inductive IniX(P:Program)(w:World)(K:W.Frag)(mg:Str->Option Value)(base:Heap)(k:Nat)(c:Str)(n:Nat)(sp:Sp):Prop
 | mk (C f:Addr) (fd:FuncData) (ps:List Str) (h1:ps.length=n) (h2:mg c=some (.ref C)) (h3:Mk K C f) (h4:Binds K fd ps []) (h5:FnOk P w K mg base CX0 k f fd ps sp)
structure CalE(P:Program)(w:World)(K:W.Frag)(mg:Str->Option Value)(base:Heap)(k:Nat)(x:Str)(n:Nat)(m:List D->MS D):Prop where
 ex:CalX P w K mg base k x n (spE K mg n m)
 ar:∀ ds Ω r,m ds Ω=some r->ds.length=n
structure MetE(P:Program)(w:World)(K:W.Frag)(mg:Str->Option Value)(base:Heap)(k:Nat)(c x:Str)(n:Nat)(m:List D->MS D):Prop where
 ex:MetX P w K mg base k c x n (spE K mg n m)
 ar:∀ ds Ω r,m ds Ω=some r->ds.length=n
structure IniE(P:Program)(w:World)(K:W.Frag)(mg:Str->Option Value)(base:Heap)(k:Nat)(c:Str)(n:Nat)(m:List D->MS D):Prop where
 ex:IniX P w K mg base k c n (spE K mg n m)
 ar:∀ ds Ω r,m ds Ω=some r->ds.length=n
noncomputable def outE:Out->MS D
 | .rt d=>MS.p d
 | .nx _=>MS.p .non
 | _=>fun _=>none
noncomputable def mirE(n N:Nat)(g:DSt->MS Out):List D->MS D:=fun ds=>if ds.length=n then (g (startD N ds)).b outE else fun _=>none
theorem jlh{n N:Nat}{g:DSt->MS Out}:∀ ds Ω r,mirE n N g ds Ω=some r->ds.length=n:=fun ds Ω r h=>by
 unfold mirE at h
 split at h
 ·assumption
 ·cases h
section
variable {P:Program}{w:World}{K:W.Frag}{mg:Str->Option Value}{base:Heap}
theorem fn_E{x q:Str}{st:Stmt}{N ps:List Str}{k:Nat}{O':List Nat}{g:DSt->MS Out}{f:Addr}{fd:FuncData}(F:Fun K x q st f fd)(Sc:FnScope N ps (jac st))
  (hbody:∀ (f:Addr) (cdv:Value) (A:Around) (outer:List Env) (s:Shared) (H:Hp) (E:XK),Room k (A.deeper (PyProof.Rows.envOfC q (jac st) s.heap.objs.size f cdv)) ->
   MSs (cxOf CX0 P w K mg base N q (jac st) f cdv A outer s H E).nox [] O' [] (jai st) g):FnOk P w K mg base CX0 (k+1) f fd ps (spE K mg ps.length (mirE ps.length N.length g)):=by
 refine F.ok Sc (fun vs H Q E h=>h.1) fun cdv A outer s H vs Q E hr h=>?_
 obtain⟨hl,ρ,S,F',ds,Ω,fin,ff,rp,sto,r,Ω',hmr,k0⟩:=h;refine⟨_,hbody f cdv A outer s H E hr,?_⟩;have hpl:ps.length<=N.length:=by have:=congrArg List.length Sc.pre;rw[List.length_take] at this;omega
 have hdl:ds.length=ps.length:=by rw[<- rp.length];exact hl
 unfold mirE at hmr;rw[if_pos hdl] at hmr;have R:RM ρ S H F' K mg [] ρ S H (L2.start N vs) (startD N.length ds) Ω:=by
  refine⟨⟨?_,jam,fun b hb=>?_,fun i d hd _=>?_,fun i hi=>absurd hi (by simp),fun i hi=>absurd hi (by simp)⟩,RLe.refl _,fun b o _ h=>h,fun b h=>h,fun b h=>.inl h,fun i hi=>absurd hi (by simp),ff,by rw[jch];exact sto⟩
  ·simp[L2.start,startD,rp.length]
  ·rcases un_t.mp hb with z|z
   ·exact fin b z
   ·exact sto.fin b z
  ·obtain⟨v,e,rv⟩:=rp.get (jgn hd);exact⟨v,jh1 e,by rw[jch];exact rv⟩
 rcases MS.b_inv hmr with ⟨o,Ω1,e1,hmr⟩|⟨y,e1,rfl⟩
 ·refine⟨ρ,S,H,F',ρ,S,_,Ω,R,.ok o,Ω1,e1,?_⟩
  cases o with
  | rt d =>
   cases hmr;exact fun v ρ' S' H' T rv=>k0 v ρ' S' H' T.rho T.same T.old T.new T.ff T.sto rv
  | nx δ =>
   cases hmr;exact fun ρ' S' σ' H' R' _ _=>k0 .non ρ' S' H' R'.rt.rho R'.rt.same R'.rt.old R'.rt.new R'.rt.ff R'.rt.sto (rep_non.mpr rfl)
  | bk δ=>cases hmr
  | ct δ=>cases hmr
 ·exact⟨ρ,S,H,F',ρ,S,_,Ω,R,.error y,_,e1,trivial⟩
theorem jnq{x:Str}{st:Stmt}{N ps:List Str}{k:Nat}{O':List Nat}{g:DSt->MS Out}(hf:jbq K mg x st ps)(S:FnScope N ps (jac st))
  (hbody:∀ (f:Addr) (cdv:Value) (A:Around) (outer:List Env) (s:Shared) (H:Hp) (E:XK),Room k (A.deeper (PyProof.Rows.envOfC x (jac st) s.heap.objs.size f cdv)) ->
   MSs (cxOf CX0 P w K mg base N x (jac st) f cdv A outer s H E).nox [] O' [] (jai st) g):CalE P w K mg base (k+1) x ps.length (mirE ps.length N.length g):=by
 obtain⟨f,fd,hm,F,hb⟩:=hf;exact⟨⟨f,fd,ps,rfl,hm,F.kp,hb,fn_E F S hbody⟩,jlh⟩
structure MetAt(K:W.Frag)(mg:Str->Option Value)(c x q:Str)(st:Stmt)(ps:List Str):Prop where
 ex:∃ C f fd,mg c=some (.ref C)/\Cls K C/\Meth K C x f/\Fun K x q st f fd/\Binds K fd ps []
structure IniAt(K:W.Frag)(mg:Str->Option Value)(c q:Str)(st:Stmt)(ps:List Str):Prop where
 ex:∃ C f fd,mg c=some (.ref C)/\Mk K C f/\Fun K "__init__" q st f fd/\Binds K fd ps []
theorem jto{m:List D->MS D}{H:Hp}{a:Addr}{ns:List Int}{Ω':Sto}(hS:SqL K H a (ns.map V.int))(h:m [.lst (ns.map .int)] []=some (.ok (.bl true),Ω')):spE K mg 1 m [.ref a] H (fun v _=>v=.bl true) fun _ _ _=>False:=by
 refine⟨rfl,fun _=>none,fun _=>false,fun _=>false,[.lst (ns.map .int)],[],(fun b hb=>by cases hb),(fun b hb=>by cases hb),Reps.cons (rep_lst.mpr ⟨a,_,rfl,?_,reps_ints.mpr rfl⟩) Reps.nil,⟨fun i so hi=>by simp at hi,fun i j a h=>(nomatch h),fun i _=>rfl,(fun b hb=>by cases hb),fun _ _ q=>q⟩,_,_,h,fun v ρ' S' H' _ _ _ _ _ _ r=>rep_bl.mp r⟩;have:hid H (un (fun _=>false) fun _=>false)=H:=by funext b;rfl
 rw[this];exact hS
end
noncomputable def jdm(m:List D->MS D)(fl:DSt->MS (List D)):DSt->MS D:=fun δ=>(fl δ).b m
noncomputable def jwd(m:List D->M D)(fl:DSt->MS (List D)):DSt->MS D:=fun δ=>(fl δ).b fun ds=>MS.l (m ds)
noncomputable def jwl(c x:Str)(m:List D->MS D)(i:Nat)(fl:DSt->MS (List D))(δ:DSt):MS D:=fun Ω=>match Ω[i]? with
 | some (.ins c' fs)=>if c'=c/\fs.lookup x=none then ((fl δ).b fun ds=>m (.obj i::ds)) Ω else none
 | _=>none
noncomputable def jyr(c x:Str)(m:List D->MS D)(fo:DSt->MS D)(fl:DSt->MS (List D)):DSt->MS D:=fun δ=>(fo δ).b fun o=>match o with
 | .obj i=>jwl c x m i fl δ
 | _=>fun _=>none
noncomputable def jwf(c:Str)(m:List D->MS D)(ds:List D):MS D:=fun Ω=>((m (.obj Ω.length::ds)).b fun d=>match d with
 | .non=>MS.p (.obj Ω.length)
 | _=>fun _=>none) (Ω++[.ins c []])
noncomputable def jyq(c:Str)(m:List D->MS D)(fl:DSt->MS (List D)):DSt->MS D:=fun δ=>(fl δ).b fun ds=>jwf c m ds
section
variable {X:Cx}{O:List Nat}{b e:Expr}{es:List Expr}{fl:DSt->MS (List D)}{pos p:Pos}{x:Str}{k n:Nat}
variable {ρz ρ:Rho}{Sz S F:Addr->Bool}{Hz H:Hp}{σ:St}{δ:DSt}{Ω Ω':Sto}
theorem jpt{m:List D->MS D}{ds:List D}{vs:List V}{r:Except XD D}{Q:VK}{E:XK}(R:RM ρz Sz Hz F X.K X.mg O ρ S H σ δ Ω)(hl:ds.length=n)(hr:Reps ρ X.K (hid H (fob (un F S) σ O)) ds vs)(hm:m ds Ω=some (r,Ω'))
  (k:match (generalizing:=false) r with
   | .ok d=>∀ v ρ' S' H',RM ρz Sz Hz F X.K X.mg O ρ' S' H' σ δ Ω'->RLe ρ ρ'->Same (hid H (fob (un F S) σ O)) (hid H' (fob (un F S') σ O))->Rep ρ' X.K (hid H' (fob (un F S') σ O)) d v->Q v H'
   | .error _=>True):spE X.K X.mg n m vs H Q E:=by
 refine⟨by rw[hr.length];exact hl,ρ,S,fob F σ O,ds,Ω,fun b hb=>?_,fun b hb=>?_,by rw[je2];exact hr,by rw[je2];exact R.sto,r,Ω',hm,?_⟩
 ·intro z;have:=R.fresh z;rw[<- je2,un_t.mpr (.inl hb)] at this;cases this
 ·rcases fob_t.mp hb with z|z
  ·exact R.ff b z
  ·cases e:S b with
   | false=>rfl
   | true=>exact absurd z (R.base_S e)
 ·cases r with
  | error x=>trivial
  | ok d =>
   intro v ρ' S' H' l sm old new ff sto rv;obtain⟨t1,t2⟩:=R.call l sm old new ff sto;rw[je2] at rv;exact k v ρ' S' H' t1 l t2 rv
theorem jjc{m:List D->MS D}(C:CalE X.prog X.w X.K X.mg X.base k x n m)(hr:Room k X.A)(ha:MA X O (e::es) fl)(hg:autoParam (Gl X x) zau2._auto_1)(hdb:autoParam ((x == ("__debug__":Str))=false) zau1._auto_1)(he:autoParam (starEach (e::es) X.env=(false,eval e X.env)::starEach es X.env) zau2._auto_1)
  (hpl:autoParam ((backTo pos (starEach es X.env)).any (·.1)=false) zau2._auto_1):ME X O (.Call (.Name x p) (e::es) [] pos) (jdm m fl):=by
 obtain⟨f,fd,ps,hl,hm,hk,hb,G⟩:=C.ex;rintro pins s σ H Q I ⟨ρz,Sz,Hz,F,ρ,S,δ,Ω,R,r,Ω',hf,k⟩;refine jln G hr hg hm hk hb .nil (fun _ _ _ _ _ _ _ z=>z.elim) ha hdb he hpl pins s σ H Q I (E:=E0) ?_;rcases MS.b_inv hf with ⟨ds,Ω1,e1,hf⟩|⟨y,e1,rfl⟩
 ·refine⟨ρz,Sz,Hz,F,ρ,S,δ,Ω,R,.ok ds,Ω1,e1,fun vs ρ1 S1 H1 R1 l1 v1 r1=>?_⟩;show spE X.K X.mg n m (vs++[]) H1 Q E0;rw[List.append_nil];refine jpt R1 (C.ar ds Ω1 _ hf) r1 hf ?_
  cases r with
  | error y=>trivial
  | ok d=>exact fun v ρ2 S2 H2 R2 l2 v2 r2=>k v ρ2 S2 H2 R2 (l1.trans l2) (v1.trans v2) r2
 ·exact⟨ρz,Sz,Hz,F,ρ,S,δ,Ω,R,.error y,_,e1,trivial⟩
end
inductive tEI(K:W.Frag)(mg:Str->Option Value)(O:List Nat)(f:DSt->MS (List D))(σ:St)(H:Hp)(Rk:It->Hp->Prop):Prop
 | mk (ρz:Rho) (Sz:Addr->Bool) (Hz:Hp) (F:Addr->Bool) (ρ:Rho) (S:Addr->Bool) (δ:DSt) (Ω:Sto) (R:RM ρz Sz Hz F K mg O ρ S H σ δ Ω) (r:Except XD (List D)) (Ω':Sto) (hf:f δ Ω=some (r,Ω')) (k:match (generalizing:=false) r with
  | .ok ds=>∀ J ρ' S' H',RM ρz Sz Hz F K mg O ρ' S' H' σ δ Ω'->RLe ρ ρ'->Same (hid H (fob (un F S) σ O)) (hid H' (fob (un F S') σ O))->ItD ρ' K J ds (hid H' (fob (un F S') σ O))->Rk J H'
  | .error _=>True)
noncomputable def MI(X:Cx)(O:List Nat)(tg iter:Expr)(f:DSt->MS (List D)):Prop:=PI X tg iter (tEI X.K X.mg O f)
section
variable {X:Cx}{O:List Nat}{c iter tg:Expr}{f:Str}
theorem jty{f:DSt->M (List D)}(h:DI X O E0 tg iter f):MI X O tg iter (lF f):=by
 rintro pins s σ H Q I ⟨ρz,Sz,Hz,F,ρ,S,δ,Ω,R,r,Ω',hf,k⟩;obtain⟨hg,rfl⟩:=MS.l_inv hf;refine h pins s σ H Q I ⟨ρ,_,un F S,δ,r,R.rs,hg,?_⟩
 cases r with
 | ok d=>exact fun J H' s' it=>k J ρ S H' (R.mono s') (RLe.refl _) (jas s') it
 | error x=>exact fun c dx H' _ z=>z.elim
end
noncomputable def jsz(st:Stmt)(j:Nat):Stmt:=match st with
 | .ClassDef _ _ _ b _ _ _ _ _ _ _=>b.getD j (.Pass ⟨0,0,0,0⟩)
 | _=>.Pass ⟨0,0,0,0⟩
structure ClsAt(K:W.Frag)(mg:Str->Option Value)(c:Str)(fs:List Str):Prop where
 ok:∀ C,mg c=some (.ref C)->Cls K C/\∀ f∈fs,jrn K C f
section
end
noncomputable def mB(f:DSt->MS D):DSt->MS Bool:=fun δ=>(f δ).b fun d=>match d with
 | .bl k=>MS.p k
 | _=>fun _=>none
section
variable {X:Cx}{O:List Nat}{a b:Expr}{fa fb:DSt->MS D}{pos:Pos}
theorem jwn{op:CmpOp}{g:D->D->Option D}{r:R2}(ho:OpR X (compareOp op) r)(hg:OpD X.K g r)(ha:ME X O a fa)(hb:ME X O b fb)(hm:behindInMarks op b=false):MT X O (.Compare a [op] [b] pos) (mB (m2 g fa fb)):=by
 rintro pins s σ H Q I ⟨ρz,Sz,Hz,F,ρ,S,δ,Ω,R,rr,Ω',hf,k⟩;refine jpf ho ha hb hm pins s σ H Q I (jtt (r:=r) hg ?_);rcases MS.b_inv hf with ⟨x,Ω1,e1,hf⟩|⟨x,e1,rfl⟩
 ·cases x with
  | bl kk=>cases hf;exact⟨ρz,Sz,Hz,F,ρ,S,δ,Ω,R,.ok (.bl kk),_,e1,fun v ρ' S' H' R' l sm rv=>⟨kk,rep_bl.mp rv,k ρ' S' H' R' l sm⟩⟩
  | _=>cases hf
 ·exact⟨ρz,Sz,Hz,F,ρ,S,δ,Ω,R,.error x,Ω',e1,k⟩
end
noncomputable def spA(K:W.Frag)(n:Nat)(m:List D->MS D):Sp:=fun vs H Q E=>∀ mg,spE K mg n m vs H Q E
section
variable {δ:DSt}{fa fb:DSt->M D}{fl:DSt->M (List D)}{g:D->D->Option D}{u:D->Option D}{k:List D->Option D}{ta tb:DSt->M Bool}{g1 g2:DSt->M Out}{m:List D->M D}{ki:List D->Option (List D)}{fi:DSt->M (List D)}{tg:D->DSt->Option DSt}
@[simp] theorem jya(i:Nat):fVar i δ=M.o (δ[i]?).join:=rfl
@[simp] theorem e_C(d:D):fC d δ=M.p d:=rfl
@[simp] theorem e_2:f2 g fa fb δ=(fa δ).b fun x=>(fb δ).b fun y=>M.o (g x y):=rfl
@[simp] theorem e_1:f1 u fa δ=(fa δ).b fun x=>M.o (u x):=rfl
noncomputable def asB:Option D->M Bool
 | some (.bl b)=>M.p b
 | _=>none
@[simp] theorem ju7(b:Bool):asB (some (.bl b))=M.p b:=rfl
@[simp] theorem e_t2:t2 g fa fb δ=(fa δ).b fun x=>(fb δ).b fun y=>asB (g x y):=rfl
@[simp] theorem jx6:fNil δ=M.p []:=rfl
@[simp] theorem jvl:jad fa fl δ=(fa δ).b fun x=>(fl δ).b fun xs=>M.p (x::xs):=rfl
@[simp] theorem e_L:fL k fl δ=(fl δ).b fun xs=>M.o (k xs):=rfl
@[simp] theorem jvj:jav m fl δ=(fl δ).b m:=rfl
@[simp] theorem jx7:gNot (.bl b)=some (.bl !b):=rfl
@[simp] theorem jvt:tNot ta δ=(ta δ).b fun x=>M.p !x:=rfl
@[simp] theorem jvs:tAnd ta tb δ=(ta δ).b fun x=>if x=true then tb δ else M.p false:=rfl
@[simp] theorem jx8:tOr ta tb δ=(ta δ).b fun x=>if x=true then M.p true else tb δ:=rfl
@[simp] theorem e_if:fIf ta fa fb δ=(ta δ).b fun x=>if x=true then fa δ else fb δ:=rfl
noncomputable def andB(b:D)(r:M D):M D:=match b with
 | .bl true=>r
 | .bl false=>M.p (.bl false)
 | _=>none
noncomputable def orB(b:D)(r:M D):M D:=match b with
 | .bl true=>M.p (.bl true)
 | .bl false=>r
 | _=>none
@[simp] theorem andB_t(r:M D):andB (.bl true) r=r:=rfl
@[simp] theorem andB_f(r:M D):andB (.bl false) r=M.p (.bl false):=rfl
@[simp] theorem orB_t(r:M D):orB (.bl true) r=M.p (.bl true):=rfl
@[simp] theorem orB_f(r:M D):orB (.bl false) r=r:=rfl
@[simp] theorem jx4:fAnd fa fb δ=(fa δ).b fun x=>andB x (fb δ):=rfl
@[simp] theorem e_or:fOr fa fb δ=(fa δ).b fun x=>orB x (fb δ):=rfl
@[simp] theorem jx9:tTru fa δ=(fa δ).b fun x=>M.o (truD x):=rfl
@[simp] theorem jxd(b:Bool):truD (.bl b)=some b:=rfl
@[simp] theorem jzg:truD .non=some false:=rfl
@[simp] theorem e_nx:gNx δ=M.p (.nx δ):=rfl
noncomputable def seqO(g2:DSt->M Out):Out->M Out
 | .nx δ'=>g2 δ'
 | o=>M.p o
@[simp] theorem jpq(δ':DSt):seqO g2 (.nx δ')=g2 δ':=rfl
@[simp] theorem jpr(d:D):seqO g2 (.rt d)=M.p (.rt d):=rfl
@[simp] theorem jy3(δ':DSt):seqO g2 (.bk δ')=M.p (.bk δ'):=rfl
@[simp] theorem jy4(δ':DSt):seqO g2 (.ct δ')=M.p (.ct δ'):=rfl
@[simp] theorem js9:gSeq g1 g2 δ=(g1 δ).b (seqO g2):=by
 show (g1 δ).b _=_;congr 1
@[simp] theorem jvr(i:Nat):gSet i fa δ=(fa δ).b fun d=>M.p (.nx (δ.set i (some d))):=rfl
@[simp] theorem jvq:gRet fa δ=(fa δ).b fun d=>M.p (.rt d):=rfl
@[simp] theorem e_drop:jyc fa δ=(fa δ).b fun _=>M.p (.nx δ):=rfl
@[simp] theorem jvn:gIf ta g1 g2 δ=(ta δ).b fun b=>if b=true then g1 δ else g2 δ:=rfl
@[simp] theorem e_brk:gBrk δ=M.p (.bk δ):=rfl
@[simp] theorem e_cnt:gCnt δ=M.p (.ct δ):=rfl
noncomputable def appO(i:Nat)(δ:DSt)(d:D):Option D->M Out
 | some (.lst ds)=>if ds.length<sizeLine then M.p (.nx (δ.set i (some (.lst (ds++[d]))))) else none
 | _=>none
theorem jqb{i:Nat}{δ:DSt}{d:D}{ds:List D}(h:ds.length<sizeLine):appO i δ d (some (.lst ds))=M.p (.nx (δ.set i (some (.lst (ds++[d]))))):=if_pos h
@[simp] theorem jvi(i:Nat):gApp i fa δ=(fa δ).b fun d=>appO i δ d (δ[i]?).join:=rfl
@[simp] theorem jvm:gFor fi tg g1 δ=(fi δ).b fun ds=>forD g1 tg ds δ:=rfl
@[simp] theorem js8:jfb ki fl δ=(fl δ).b fun ds=>M.o (ki ds):=rfl
@[simp] theorem jvo:jif fa δ=(fa δ).b fun d=>M.o (seqD d):=rfl
@[simp] theorem e_yes:tYes δ=M.p true:=rfl
@[simp] theorem jqg(d:D):outD (.rt d)=M.p d:=rfl
@[simp] theorem jxu(δ:DSt):outD (.nx δ)=M.p .non:=rfl
theorem jio(N:Nat)(x0:D):mir 1 N g1 [x0]=(g1 (some x0::List.replicate (N-1) none)).b outD:=rfl
theorem jfd(N:Nat)(x0 x1:D):mir 2 N g1 [x0,x1]=(g1 (some x0::some x1::List.replicate (N-2) none)).b outD:=rfl
theorem jmb(N:Nat)(x0 x1 x2:D):mir 3 N g1 [x0,x1,x2]=(g1 (some x0::some x1::some x2::List.replicate (N-3) none)).b outD:=rfl
theorem jvp(N:Nat)(x0 x1 x2 x3:D):mir 4 N g1 [x0,x1,x2,x3]=(g1 (some x0::some x1::some x2::some x3::List.replicate (N-4) none)).b outD:=rfl
@[simp] theorem b_none{α β:Type}(f:α->M β):M.b none f=none:=rfl
@[simp] theorem jss{α β γ:Type}(m:M α)(f:α->M β)(h:β->M γ):(m.b f).b h=m.b fun a=>(f a).b h:=by
 cases m with
 | none=>rfl
 | some e=>cases e<;>rfl
@[simp] theorem jvk{own:Nat}{caps:List (Str×Nat)}{tc:DSt->M Bool}:jep own caps fi tg tc fa δ=(fi δ).b fun ds=>M.o ((jdk tg tc fa ds (jes own caps δ)).bind jb9):=rfl
end
@[simp] theorem lt_int(i j:Int):gLt (.int i) (.int j)=some (.bl (decide (i<j))):=rfl
@[simp] theorem le_int(i j:Int):gLe (.int i) (.int j)=some (.bl (decide (i<=j))):=rfl
@[simp] theorem jvy(i j:Int):gGt (.int i) (.int j)=some (.bl (decide (j<i))):=rfl
@[simp] theorem jvx(i j:Int):gGe (.int i) (.int j)=some (.bl (decide (j<=i))):=rfl
@[simp] theorem add_int(i j:Int):gAdd (.int i) (.int j)=some (.int (i+j)):=rfl
@[simp] theorem sub_int(i j:Int):gSub (.int i) (.int j)=some (.int (i-j)):=rfl
@[simp] theorem jt3(i:Int):gNeg (.int i)=some (.int (-i)):=rfl
theorem ja8{i j:Int}(h:0<j):gMod (.int i) (.int j)=some (.int (i % j)):=if_pos h
noncomputable def Bt(k:Nat)(i:Int):Prop:=i.natAbs<2 ^ k
theorem Bt.mono{a b:Nat}{i:Int}(h:Bt a i)(hab:a<=b):Bt b i:=zcx h (Nat.pow_le_pow_right (by decide) hab)
theorem Bt.mul{a b:Nat}{i j:Int}(h:Bt a i)(k:Bt b j):Bt (a+b) (i*j):=by
 unfold Bt at *;rw[Int.natAbs_mul,Nat.pow_add];exact Nat.mul_lt_mul'' h k
theorem Bt.add{a:Nat}{i j:Int}(h:Bt a i)(k:Bt a j):Bt (a+1) (i+j):=by
 unfold Bt at *;rw[Nat.pow_succ];omega
theorem Bt.sub{a:Nat}{i j:Int}(h:Bt a i)(k:Bt a j):Bt (a+1) (i-j):=by
 unfold Bt at *;rw[Nat.pow_succ];omega
theorem Bt.neg{a:Nat}{i:Int}(h:Bt a i):Bt a (-i):=by unfold Bt at *;omega
theorem Bt.big{k:Nat}{i:Int}(h:Bt k i)(hk:k<=100000):jfc i=true:=by
 have h':=zcx h (Nat.pow_le_pow_right (by decide:2 > 0) hk);rw[<- jnf] at h';unfold jfc BIG;rw[Bool.and_eq_true,decide_eq_true_eq,decide_eq_true_eq];omega
theorem jwo{a b:Nat}{i j:Int}(h:Bt a i)(k:Bt b j)(ha:autoParam (a<=100000) zau1._auto_1)(hb:autoParam (b<=100000) zau1._auto_1):gMul (.int i) (.int j)=some (.int (i*j)):=by
 have:(jfc i&&jfc j)=true:=by rw[h.big ha,k.big hb];rfl
 exact if_pos this
theorem jbu{i j:Int}(h:0<j)(h2:j<2 ^ 200):jeq (.int i) (.int j)=some (.int (i / j)):=by
 refine if_pos ⟨h,?_⟩;unfold DIVB;have:(2 ^ 200:Nat)<=2 ^ 9000:=Nat.pow_le_pow_right (by decide) (by decide);rw[<- jng] at this;omega
theorem jpa{i:Int}{j:Int}(h:0<=j/\j<=1000/\-(2 ^ 60)<i/\i<2 ^ 60):gPow (.int i) (.int j)=some (.int (i ^ j.toNat)):=if_pos h
theorem atI_get{α:Type}{xs:List α}{j:Nat}{v:α}(h:xs[j]? = some v):atI xs (j:Int)=some v:=by
 have hj:=(zbb.mp h).1;unfold atI ixN;rw[if_pos (by omega),if_pos (by omega)];simpa using h
@[simp] theorem ix_t(ds:List D)(i:Int):gIx (.tup ds) (.int i)=atI ds i:=rfl
@[simp] theorem ix_l(ds:List D)(i:Int):gIx (.lst ds) (.int i)=atI ds i:=rfl
@[simp] theorem at0{α:Type}(x:α)(xs:List α):atI (x::xs) 0=some x:=by
 have:=atI_get (xs:=x::xs) (j:=0) (v:=x) rfl;simpa using this
@[simp] theorem at1{α:Type}(x y:α)(xs:List α):atI (x::y::xs) 1=some y:=by
 have:=atI_get (xs:=x::y::xs) (j:=1) (v:=y) rfl;simpa using this
@[simp] theorem at2{α:Type}(x y z:α)(xs:List α):atI (x::y::z::xs) 2=some z:=by
 have:=atI_get (xs:=x::y::z::xs) (j:=2) (v:=z) rfl;simpa using this
@[simp] theorem at3{α:Type}(x y z w:α)(xs:List α):atI (x::y::z::w::xs) 3=some w:=by
 have:=atI_get (xs:=x::y::z::w::xs) (j:=3) (v:=w) rfl;simpa using this
@[simp] theorem jyk(ds:List D):kLen [.lst ds]=some (.int ds.length):=rfl
@[simp] theorem jyl(ds:List D):kLen [.tup ds]=some (.int ds.length):=rfl
@[simp] theorem jut(ds:List D):kTuple [.lst ds]=some (.tup ds):=rfl
@[simp] theorem jwb(ds:List D):kList [.lst ds]=some (.lst ds):=rfl
@[simp] theorem jw5(j:Int):jbt [.int j]=some (jbe 0 j.toNat):=rfl
@[simp] theorem jw6(i j:Int):jbt [.int i,.int j]=some (jbe i (j-i).toNat):=rfl
@[simp] theorem enum_l(xs:List D):je4 [.lst xs]=some (jcw 0 xs):=rfl
@[simp] theorem jw9(ds:List D):seqD (.lst ds)=some ds:=rfl
@[simp] theorem jy7(ds:List D):seqD (.tup ds)=some ds:=rfl
@[simp] theorem kmin(i j:Int):kMin [.int i,.int j]=some (.int (if j<i then j else i)):=rfl
@[simp] theorem jyi(b:Bool):kInt [.bl b]=some (.int (if b then 1 else 0)):=rfl
@[simp] theorem jzh(x y:D):jf1 [x,y]=some (.tup [x,y]):=rfl
@[simp] theorem jzi(x y z:D):jf1 [x,y,z]=some (.tup [x,y,z]):=rfl
@[simp] theorem tupD4(x y z w:D):jf1 [x,y,z,w]=some (.tup [x,y,z,w]):=rfl
@[simp] theorem jym:jb9 []=some (.lst []):=rfl
@[simp] theorem jyn(x:D):jb9 [x]=some (.lst [x]):=rfl
@[simp] theorem jyo(x y:D):jb9 [x,y]=some (.lst [x,y]):=rfl
@[simp] theorem jyp(x y z:D):jb9 [x,y,z]=some (.lst [x,y,z]):=rfl
theorem jtr{ds:List D}(h:ds.length<=sizeLine):jb9 ds=some (.lst ds):=if_pos h
@[simp] theorem jvu(i j:Int):gEq (.int i) (.int j)=some (.bl (i == j)):=rfl
@[simp] theorem jwr(i j:Int):gNe (.int i) (.int j)=some (.bl !(i == j)):=rfl
@[simp] theorem eq_bl(i j:Bool):gEq (.bl i) (.bl j)=some (.bl (i == j)):=rfl
theorem jtb{d:D}(h1:okD d=true)(h2:depD d<=20):gEq d d=some (.bl true):=by
 unfold gEq;rw[if_pos (by rw[h1,decide_eq_true h2];rfl),jg6 d h1]
theorem jrc(ns:List Int):kSum [.lst (ns.map .int)]=some (.int ns.sum):=by
 show (match seqD (.lst (ns.map D.int)) with|some ds=>(jig ds).map fun (ns:List Int)=>D.int ns.sum|none=>none)=_;rw[jw9];dsimp only;rw[job];rfl
@[simp] theorem jle(i:Int):kIsi [.int i,.ty "int"]=some (.bl true):=rfl
@[simp] theorem jj6(i:Int):kIsi [.int i,.ty "bool"]=some (.bl false):=rfl
@[simp] theorem jld(i:Bool):kIsi [.bl i,.ty "bool"]=some (.bl true):=rfl
@[simp] theorem jqo(i:List D):kIsi [.tup i,.ty "tuple"]=some (.bl true):=rfl
theorem jlx:∀ (xs ys:List D),zipD xs ys=(xs.zip ys).map fun p=>.tup [p.1,p.2]
 | [],_=>by simp[zipD]
 | _::_,[]=>by simp[zipD]
 | x::xs,y::ys=>by simp[zipD,jlx xs ys]
theorem jn5{g:DSt->M Out}{tg:D->DSt->Option DSt}(I:List D->DSt->Prop)(h:∀ d ds δ,I (d::ds) δ->∃ δ1,tg d δ=some δ1/\∃ δ2,(g δ1=some (.ok (.nx δ2))\/g δ1=some (.ok (.ct δ2)))/\I ds δ2) :
  ∀ (ds:List D) (δ:DSt),I ds δ->∃ δ',forD g tg ds δ=some (.ok (.nx δ'))/\I [] δ'
 | [],δ,hi=>⟨δ,rfl,hi⟩
 | d::ds,δ,hi=>by
  obtain⟨δ1,e1,δ2,e2,i2⟩:=h d ds δ hi;obtain⟨δ',e3,i3⟩:=jn5 I h ds δ2 i2;refine⟨δ',?_,i3⟩;unfold forD;rw[e1];dsimp only;rcases e2 with e2|e2<;>(rw[e2];exact e3)
@[simp] theorem jxv(i:Nat)(d:D)(δ:DSt):gName i d δ=some (δ.set i (some d)):=rfl
@[simp] theorem jxw(i j:Nat)(x y:D)(δ:DSt):jdg i j (.tup [x,y]) δ=some ((δ.set i (some x)).set j (some y)):=rfl
noncomputable def getS:M D->Str
 | some (.ok (.str i))=>i
 | _=>Str.empty
theorem jja{g:DSt->M Out}{tg:D->DSt->Option DSt}(ds:List D)(I:Nat->DSt->Prop)
  (h:∀ (j:Nat) (hj:j<ds.length) (δ:DSt),I j δ->∃ δ1,tg ds[j] δ=some δ1/\∃ δ2,(g δ1=some (.ok (.nx δ2))\/g δ1=some (.ok (.ct δ2)))/\I (j+1) δ2) (δ:DSt) (h0:I 0 δ) :
  ∃ δ',forD g tg ds δ=some (.ok (.nx δ'))/\I ds.length δ':=by
 obtain⟨δ',e,j,hd,hj,hi⟩:=jn5 (g:=g) (tg:=tg) (fun rem δ=>∃ j,rem=ds.drop j/\j<=ds.length/\I j δ) (fun d rem δ ⟨j,hr,hj,hi⟩=>by
  have hlt:j<ds.length:=by
   by_cases q:j<ds.length
   ·exact q
   ·rw[List.drop_eq_nil_of_le (by omega)] at hr;cases hr
  rw[List.drop_eq_getElem_cons hlt] at hr;obtain⟨rfl,rfl⟩:=List.cons.inj hr;obtain⟨δ1,e1,δ2,e2,i2⟩:=h j hlt δ hi;exact⟨δ1,e1,δ2,e2,j+1,rfl,hlt,i2⟩) ds δ ⟨0,rfl,Nat.zero_le _,h0⟩
 refine⟨δ',e,?_⟩;have:j=ds.length:=by
  have:=congrArg List.length hd;simp at this;omega
 rw[<- this];exact hi
@[simp] theorem ju5(lo:Int)(n:Nat):(jbe lo n).length=n:=by simp[jbe]
@[simp] theorem ju4(lo:Int)(n j:Nat)(h:j<(jbe lo n).length):(jbe lo n)[j]=.int (lo+j):=by simp[jbe]
theorem jm7(n:Nat)(F:D->D):(jbe 0 n).map F=(List.range n).map fun j=>F (.int (j:Nat)):=by
 unfold jbe;rw[List.map_map];apply List.map_congr_left;intro a _;simp
section
variable {δ:DSt}{fa:DSt->M D}{g:D->D->Option D}{k:List D->Option D}
@[simp] theorem jx5(i:Nat):gAug i g fa δ=(M.o (δ[i]?).join).b fun x=>(fa δ).b fun y=>(M.o (g x y)).b fun d=>M.p (.nx (δ.set i (some d))):=rfl
@[simp] theorem jsx(i j:Int):gCat (.int i) (.int j)=some (.int (i+j)):=rfl
theorem jby{a b:Nat}{i j:Int}(h:Bt a i)(k:Bt b j)(ha:autoParam (a<=100000) zau1._auto_1)(hb:autoParam (b<=100000) zau1._auto_1):jbk (.int i) (.int j)=some (.int (i*j)):=jwo h k ha hb
@[simp] theorem e_asg(h:D->DSt->Option DSt):gAsg h fa δ=(fa δ).b fun d=>match h d δ with
 | some δ'=>M.p (.nx δ')
 | none=>none:=rfl
@[simp] theorem e_tup3(i j l:Nat)(x y z:D):jyd i j l (.tup [x,y,z]) δ=some (((δ.set i (some x)).set j (some y)).set l (some z)):=rfl
@[simp] theorem jtj(b:Bool):jmw [.bl b]=some (.int (if b then 1 else 0)):=rfl
theorem jnl:∀ bs:List Bool,blsD (bs.map .bl)=some bs
 | []=>rfl
 | b::bs=>by rw[List.map_cons];unfold blsD;rw[jnl bs];rfl
theorem jsp(bs:List Bool):kAll [.lst (bs.map .bl)]=some (.bl (bs.all id)):=by
 show (blsD (bs.map D.bl)).map (fun ns=>D.bl (ns.all id))=_;rw[jnl];rfl
theorem jnz{c:DSt}{fe:DSt->M D}{α:Type}{K:α->D×D}{F:α->D}(ps:List α)(x y:Option D)(h:∀ p∈ps,fe (some (K p).1::some (K p).2::c)=some (.ok (F p))):jdk (jdg 0 1) tYes fe (ps.map fun p=>.tup [(K p).1,(K p).2]) (x::y::c)=some (ps.map F):=by
 induction ps generalizing x y with
 | nil=>rfl
 | cons p ps ih =>
  rw[List.map_cons];unfold jdk;have e1:jdg 0 1 (.tup [(K p).1,(K p).2]) (x::y::c)=some (some (K p).1::some (K p).2::c):=rfl;rw[e1];dsimp only [tYes,M.p];rw[h p zaa];dsimp only;rw[ih (some (K p).1) (some (K p).2) fun e he=>h e (zaw _ he)];rfl
theorem jdq{c:DSt}{fe:DSt->M D}{α:Type}{K:α->D}{F:α->D}(ps:List α)(x:Option D)(h:∀ p∈ps,fe (some (K p)::c)=some (.ok (F p))):jdk (gName 0) tYes fe (ps.map K) (x::c)=some (ps.map F):=by
 induction ps generalizing x with
 | nil=>rfl
 | cons p ps ih =>
  rw[List.map_cons];unfold jdk;have e1:gName 0 (K p) (x::c)=some (some (K p)::c):=rfl;rw[e1];dsimp only [tYes,M.p];rw[h p zaa];dsimp only;rw[ih (some (K p)) fun e he=>h e (zaw _ he)];rfl
theorem jp8(as bs:List Int):zipD (as.map .int) (bs.map .int)=(as.zip bs).map fun p=>.tup [.int p.1,.int p.2]:=by
 rw[jlx,List.zip_map,List.map_map];rfl
end
noncomputable def jsu{α β:Type}(r:Option (Except XD α×Sto))(f:α->MS β):Option (Except XD β×Sto):=match r with
 | none=>none
 | some (.error x,Ω')=>some (.error x,Ω')
 | some (.ok a,Ω')=>f a Ω'
section
variable {α β:Type}{Ω Ω':Sto}{δ:DSt}{fa fb fo:DSt->MS D}{fl:DSt->MS (List D)}{ta:DSt->MS Bool}{g1 g2:DSt->MS Out}{g:D->D->Option D}
@[simp] theorem s_b(m:MS α)(f:α->MS β):(m.b f) Ω=jsu (m Ω) f:=by
 unfold MS.b jsu
 cases m Ω with
 | none=>rfl
 | some p=>obtain⟨q,Ω1⟩:=p;cases q<;>rfl
@[simp] theorem s_bok(a:α)(f:α->MS β):jsu (some (.ok a,Ω')) f=f a Ω':=rfl
@[simp] theorem s_p(a:α):MS.p a Ω=some (.ok a,Ω):=rfl
@[simp] theorem s_lp(a:α):MS.l (M.p a) Ω=some (.ok a,Ω):=rfl
@[simp] theorem s_lok(a:α):MS.l (some (.ok a):M α) Ω=some (.ok a,Ω):=rfl
@[simp] theorem s_o(a:α):MS.o (some a) Ω=some (.ok a,Ω):=rfl
@[simp] theorem s_lF(f:DSt->M α):lF f δ=MS.l (f δ):=rfl
@[simp] theorem s_get(cs:List Str)(f:Str):mGet cs f fa δ=(fa δ).b fun x=>getO cs f x:=rfl
@[simp] theorem s_cons:jlf fa fl δ=(fa δ).b fun x=>(fl δ).b fun xs=>MS.p (x::xs):=rfl
@[simp] theorem s_2:m2 g fa fb δ=(fa δ).b fun x=>(fb δ).b fun y=>MS.o (g x y):=rfl
@[simp] theorem s_L(k:List D->Option D):mL k fl δ=(fl δ).b fun xs=>MS.o (k xs):=rfl
@[simp] theorem jy2(m:List D->M D):jwd m fl δ=(fl δ).b fun ds=>MS.l (m ds):=rfl
@[simp] theorem s_call(m:List D->MS D):jdm m fl δ=(fl δ).b m:=rfl
@[simp] theorem s_set(i:Nat):eSet i fa δ=(fa δ).b fun d=>MS.p (.nx (δ.set i (some d))):=rfl
@[simp] theorem s_ret:eRet fa δ=(fa δ).b fun d=>MS.p (.rt d):=rfl
@[simp] theorem s_drop:jmt fa δ=(fa δ).b fun _=>MS.p (.nx δ):=rfl
@[simp] theorem s_put(cs:List Str)(f:Str):ePut cs f fo fa δ=(fa δ).b fun d=>(fo δ).b fun x=>(putO cs f x d).b fun _=>MS.p (.nx δ):=rfl
@[simp] theorem s_if:eIf ta g1 g2 δ=(ta δ).b fun b=>if b=true then g1 δ else g2 δ:=rfl
@[simp] theorem s_nx:eNx δ=MS.p (.nx δ):=rfl
@[simp] theorem s_not:mNot ta δ=(ta δ).b fun x=>MS.p !x:=rfl
@[simp] theorem s_tru:mTru fa δ=(fa δ).b fun x=>MS.o (truD x):=rfl
noncomputable def asBS:D->MS Bool
 | .bl k=>MS.p k
 | _=>fun _=>none
@[simp] theorem jx0(k:Bool):asBS (.bl k)=MS.p k:=rfl
@[simp] theorem s_B:mB fa δ=(fa δ).b asBS:=by
 show (fa δ).b _=_;congr 1
noncomputable def seqS(g2:DSt->MS Out):Out->MS Out
 | .nx δ'=>g2 δ'
 | o=>MS.p o
@[simp] theorem jy5(δ':DSt):seqS g2 (.nx δ')=g2 δ':=rfl
@[simp] theorem jy6(d:D):seqS g2 (.rt d)=MS.p (.rt d):=rfl
@[simp] theorem s_seq:eSeq g1 g2 δ=(g1 δ).b (seqS g2):=by
 show (g1 δ).b _=_;congr 1
@[simp] theorem jxy(d:D):outE (.rt d)=MS.p d:=rfl
@[simp] theorem jxx(δ:DSt):outE (.nx δ)=MS.p .non:=rfl
@[simp] theorem s_meth(c x:Str)(m:List D->MS D):jyr c x m fo fl δ=(fo δ).b fun o=>match o with
 | .obj i=>jwl c x m i fl δ
 | _=>fun _=>none:=rfl
@[simp] theorem s_make(c:Str)(m:List D->MS D):jyq c m fl δ=(fl δ).b fun ds=>jwf c m ds:=rfl
@[simp] theorem s_for(fi:DSt->MS (List D))(tg:D->DSt->Option DSt):eFor fi tg g1 δ=(fi δ).b fun ds=>forE g1 tg ds δ:=rfl
end
section
end
theorem jul(own:Nat)(caps:List (Str×Nat))(δ:DSt):jes own caps δ=List.replicate own none++caps.map fun p=>(δ[p.2]?).join:=rfl
theorem jxt(xs ys:List D):jd9 [.tup xs,.tup ys]=some (zipD xs ys):=rfl
theorem jxs(xs ys:List D):jd9 [.tup xs,.lst ys]=some (zipD xs ys):=rfl
theorem jxr(xs ys:List D):jd9 [.lst xs,.tup ys]=some (zipD xs ys):=rfl
theorem jxq(xs ys:List D):jd9 [.lst xs,.lst ys]=some (zipD xs ys):=rfl
theorem jys(i j:Bool):gNe (.bl i) (.bl j)=some (.bl !(i == j)):=rfl
theorem jt2{d:D}(h1:okD d=true)(h2:depD d<=20):gNe d d=some (.bl false):=by
 unfold gNe;rw[if_pos (by rw[h1,decide_eq_true h2];rfl),jg6 d h1];rfl
theorem je9{α:Type}{f:α->D}:∀ {xs:List α},(∀ x∈xs,okD (f x)=true)->okDs (xs.map f)=true
 | [],_=>by rw[List.map_nil];unfold okDs;rfl
 | x::xs,h=>by rw[List.map_cons];unfold okDs;rw[h x zaa,je9 fun y hy=>h y (zaw _ hy)];rfl
theorem jdr{α:Type}{f:α->D}{k:Nat}:∀ {xs:List α},(∀ x∈xs,depD (f x)<=k)->depDs (xs.map f)<=k
 | [],_=>by rw[List.map_nil];unfold depDs;omega
 | x::xs,h=>by
  rw[List.map_cons];unfold depDs
  have h1:=h x zaa;have h2:=jdr (f:=f) (k:=k) (xs:=xs) fun y hy=>h y (zaw _ hy)
  omega
theorem jca{g1 g2:DSt->M Out}{δ δ':DSt}(h:g1 δ=some (.ok (.nx δ'))):gSeq g1 g2 δ=g2 δ':=by rw[js9,h,M.b_ok,jpq]
theorem w_rt{g1 g2:DSt->M Out}{δ:DSt}{d:D}(h:g1 δ=some (.ok (.rt d))):gSeq g1 g2 δ=some (.ok (.rt d)):=by rw[js9,h,M.b_ok,jpr];rfl
theorem w_if{t:DSt->M Bool}{g1 g2:DSt->M Out}{δ:DSt}{b:Bool}(h:t δ=some (.ok b)):gIf t g1 g2 δ=if b=true then g1 δ else g2 δ:=by rw[jvn,h,M.b_ok]
theorem jsj{t:DSt->M Bool}{g1 g2:DSt->M Out}{δ:DSt}(h:t δ=some (.ok false)):gSeq (gIf t g1 gNx) g2 δ=g2 δ:=jca (by rw[w_if h,if_neg (by decide)];rfl)
theorem jjl{t:DSt->M Bool}{g1:DSt->M Out}{δ:DSt}(h:t δ=some (.ok false)):gIf t g1 gNx δ=some (.ok (.nx δ)):=by rw[w_if h,if_neg (by decide)];rfl
theorem jdp{fa:DSt->M D}{δ:DSt}{d:D}(hd:fa δ=some (.ok d)):gRet fa δ=some (.ok (.rt d)):=by rw[jvq,hd,M.b_ok];rfl
theorem jeb{fa:DSt->M D}{δ:DSt}{d:D}(i:Nat)(hd:fa δ=some (.ok d)):gSet i fa δ=some (.ok (.nx (δ.set i (some d)))):=by rw[jvr,hd,M.b_ok];rfl
theorem jlv{fi:DSt->M (List D)}{tg:D->DSt->Option DSt}{g:DSt->M Out}{δ:DSt}{ds:List D}(h:fi δ=some (.ok ds)):gFor fi tg g δ=forD g tg ds δ:=by rw[jvm,h,M.b_ok]
theorem jrg{fa:DSt->M D}{δ:DSt}{d:D}{ds:List D}(i:Nat)(hd:fa δ=some (.ok d))(hi:δ[i]? = some (some (.lst ds)))(hl:ds.length<=100000):gApp i fa δ=some (.ok (.nx (δ.set i (some (.lst (ds++[d])))))):=by
 rw[jvi,hd,M.b_ok,hi];exact jqb (by have:=sizeLine_eq;omega)
theorem jg7{g:DSt->M Out}{tg:D->DSt->Option DSt}{d:D}{ds:List D}{δ δ1 δ2:DSt}(h1:tg d δ=some δ1)(h2:g δ1=some (.ok (.nx δ2))):forD g tg (d::ds) δ=forD g tg ds δ2:=by
 conv=>lhs;unfold forD
 rw[h1];dsimp only;rw[h2];rfl
theorem jdt{ds:List D}(h:ds.length<=1000):jb9 ds=some (.lst ds):=jtr (Nat.le_trans h (by decide))
noncomputable def stp:=And.intro (@if_true.{1}) <| And.intro (@if_false.{1}) <| And.intro (@Bool.false_eq_true) <| And.intro (@js9) <| And.intro (@jvr) <| And.intro (@e_2) <| And.intro (@e_1) <| And.intro (@e_t2) <| And.intro (@jvq) <| And.intro (@jvn) <| And.intro (@jvm) <| And.intro (@js8) <| And.intro (@jvo) <| And.intro (@jvk) <| And.intro (@jvj) <| And.intro (@jvl) <| And.intro (@jya) <| And.intro (@jx6) <| And.intro (@e_C) <| And.intro (@e_L) <| And.intro (@e_if) <| And.intro (@jx9) <| And.intro (@jvs) <| And.intro (@jx8) <| And.intro (@jvt) <| And.intro (@jx7) <| And.intro (@e_nx) <| And.intro (@jx5) <| And.intro (@jvi) <| And.intro (@jx4) <| And.intro (@e_or) <| And.intro (@M.o_some) <| And.intro (@M.b_p) <| And.intro (@M.b_ok) <| And.intro (@jss) <| And.intro (@jpq) <| And.intro (@jpr) <| And.intro (@jqg) <| And.intro (@ix_t) <| And.intro (@ix_l) <| And.intro (@at0) <| And.intro (@at1) <| And.intro (@at2) <| And.intro (@at3) <| And.intro (@jw9) <| And.intro (@jy7) <| And.intro (@jut) <| And.intro (@jwb) <| And.intro (@jyk) <| And.intro (@jyl) <| And.intro (@jzh) <| And.intro (@jzi) <| And.intro (@jym) <| And.intro (@jyn) <| And.intro (@jyo) <| And.intro (@jyp) <| And.intro (@jsx) <| And.intro (@sub_int) <| And.intro (@jt3) <| And.intro (@jvu) <| And.intro (@jwr) <| And.intro (@jys) <| And.intro (@lt_int) <| And.intro (@le_int) <| And.intro (@jvy) <| And.intro (@jvx) <| And.intro (@ju7) <| And.intro (@jxd) <| And.intro (@jw5) <| And.intro (@jw6) <| And.intro (@Int.toNat_natCast) <| And.intro (@jp8) <| And.intro (@jul) <| And.intro (@jxt) <| And.intro (@jxs) <| And.intro (@jxr) <| And.intro (@jxq) <| And.intro (@jle) <| And.intro (@jj6) <| And.intro (@jld) <| And.intro (@jtj) <| And.intro (@List.replicate_succ.{0}) <| And.intro (@List.replicate_zero.{0}) <| And.intro (@List.set_cons_succ.{0}) <| And.intro (@List.set_cons_zero.{0}) <| And.intro (@List.getElem?_cons_zero.{0}) <| And.intro (@List.getElem?_cons_succ.{0}) <| And.intro (@Option.join_some.{0}) <| And.intro (@List.map_nil.{0,0}) <| And.intro (@List.map_cons.{0,0}) <| And.intro (@List.append_nil.{0}) <| And.intro (@List.cons_append.{0}) <| And.intro (@List.nil_append.{0}) <| And.intro (@Option.bind_some.{0,0}) <| True.intro
theorem ju6{α:Type}(xs:List α)(f:α->Bool):kAll [.lst (xs.map fun x=>.bl (f x))]=some (.bl (xs.all f)):=by
 have:(xs.map fun x=>D.bl (f x))=(xs.map f).map .bl:=by rw[List.map_map];rfl
 rw[this,jsp,List.all_map];rfl
theorem jlu{α:Type}(xs:List α)(f:α->Int):kSum [.lst (xs.map fun x=>.int (f x))]=some (.int (xs.map f).sum):=by
 have:(xs.map fun x=>D.int (f x))=(xs.map f).map .int:=by rw[List.map_map];rfl
 rw[this,jrc]
theorem jf7{α β:Type}(f:α->D)(g:β->D)(as:List α)(bs:List β):zipD (as.map f) (bs.map g)=(as.zip bs).map fun p=>.tup [f p.1,g p.2]:=by
 rw[jlx,List.zip_map,List.map_map];rfl
theorem jve{k:Nat}{a g:Int}(h:Bt k a)(hg:0<g):Bt k (a / g):=by
 have h1:a / g<=(a.natAbs:Int):=Int.ediv_le_of_le_mul hg (by
  have:=Int.mul_le_mul_of_nonneg_left (show (1:Int)<=g by omega) (show (0:Int)<=(a.natAbs:Int) by omega);omega)
 have h2:-(a.natAbs:Int)<=a / g:=Int.le_ediv_of_mul_le hg (by
  have:=Int.mul_le_mul_of_nonneg_left (show (1:Int)<=g by omega) (show (0:Int)<=(a.natAbs:Int) by omega);rw[Int.neg_mul];omega)
 unfold Bt at *;omega
end DL
namespace L2
open PySem PySem.Spec PyProof.Rows
section
end
end L2
namespace DL
open PySem PySem.Spec L2
section
end
end DL
namespace L2
open PySem PySem.Spec PyProof.Rows
section
variable {X:Cx}
theorem jny{elt tg iter:Expr}{ifs:List Expr}{scope:Scope}{pos p0:Pos}{own:List Str}{caps:List (Str×Nat)}{wi:TI}{g:TG}{tc:TT}{te:TE}{use:Option (Value->Sem Unit)}{QS:Value->Shared->Prop}(hc:X.calm=true)(ck:CapsOk X scope caps)
  (hi:PI X tg iter wi) (hg:∀ C s0 H0 ex,PG (jba X scope (own++caps.map (·.1)) C s0 H0 ex) tg g) (ht:∀ C s0 H0 ex,PC0 (jba X scope (own++caps.map (·.1)) C s0 H0 ex) ifs tc)
  (he:∀ C s0 H0 ex,PE (jba X scope (own++caps.map (·.1)) C s0 H0 ex) elt te) (hs:∀ x,foldedSetIterable iter X.env x=pure x)
  {pins:List (Addr×Obj)} {s:Shared} {σ:St} {H:Hp} {Q:VK} (I:Inv X pins σ H s) (h:jrd own.length caps wi g tc te σ H Q)
  (fin:∀ D H5 C s6 r,Inv X pins σ H5 s6->FpOk X pins H5 C->(∃ m,s6.heap.Ns C m)->Q (.ref D) H5->compPost (model X.prog X.w) X.A X.xe use QS (.ref D) C (.ok r) s6) :
  wpAny (model X.prog X.w) X.A (comprehension (.ListComp elt [⟨tg,iter,ifs,0⟩] scope pos) scope X.env p0 (newList []) false (eval iter X.env) use) QS X.xe s:=by
 have hcl:closureFor scope X.env=pure (clOf X.env.cells scope.names []):=jim fun p hp hf=>I.ok.has p.1 (ck.fre p hp hf)
 refine wpAny_comprehension_free rfl hs hcl ck.kind ck.loc (thn (hi pins s σ H _ I h) fun v s1 h1=>thn h1 fun itv s2 h2=>?_);obtain⟨it,fp,tn,J,H2,e,I2,T,st2,f2,hw⟩:=h2;subst e;obtain⟨W,⟨m0,w0⟩,turn⟩:=hw s2.heap.objs.size (I2.hok.fresh (zac _));refine wpAny_newObj_type ?_;have hD:=I2.hok.fresh (zac s2.heap.objs.size);have I3:Inv X pins σ (upd H2 s2.heap.objs.size (.lst [])) { s2 with heap:=s2.heap.push { cls:=.type "list",data:=.seq ([]:List Value).toArray } } :=
  I2.laid (t':=s2.toks) (fun b u e=>zaz _ e) (zac _) ⟨Nat.zero_le _,[],0,.nil,zbz _ rfl⟩
 have hlt:∀ b∈fp,b<s2.heap.objs.size:=fun b hb=>by obtain⟨o,e,_⟩:=T.obj _ _ st2 b hb;exact zbv e
 have f3:∀ b∈fp,FpOk X pins (upd H2 s2.heap.objs.size (.lst [])) b:=fun b hb=>⟨by rw[jag (zcv (hlt b hb))];exact (f2 b hb).1,(f2 b hb).2⟩
 have hlt3:∀ b∈fp,b<(s2.heap.push { cls:=.type "list",data:=.seq ([]:List Value).toArray }).objs.size:=fun b hb=>by rw[Heap.size_push];exact Nat.lt_succ_of_lt (hlt b hb)
 refine wpAny_newFunctionEnv ck.nocell (by intro y hy;simp at hy) (fun h' hns hsb=>?_) ck.kind;generalize hS3:({ s2 with heap:=s2.heap.push { cls:=.type "list",data:=.seq ([]:List Value).toArray } }:Shared)=S3 at I3 hns hsb |-
 have hlt3':∀ b∈fp,b<S3.heap.objs.size:=by rw[<- hS3];exact hlt3
 have I4:=jmd (own:=own) (t':=S3.toks+([]:List (Str×Value)).length) I3 ck f3 hlt3' hns hsb;have st4:tn 0 h':=T.keep _ _ _ st2 fun b hb o e=>hsb.extBut b o (zcv (hlt3' b hb)) (zaz _ (by rw[<- hS3];exact zaz _ e))
 have hsz:s2.heap.objs.size<S3.heap.objs.size:=by rw[<- hS3];show _<(Heap.push _ _).objs.size;rw[Heap.size_push];exact Nat.lt_succ_self _
 generalize hCC:S3.heap.objs.size=C at I4 hsb hns hsz;have loop:codeAny (model X.prog X.w) X.A (.compLoop (.ListComp elt [⟨tg,iter,ifs,0⟩] scope pos) 0 (.ref it) (.ref s2.heap.objs.size) (compEnvC scope (clOf X.env.cells scope.names []) C X.env))
   (compPost (model X.prog X.w) X.A X.xe use QS (.ref s2.heap.objs.size) C) { S3 with heap:=h',toks:=S3.toks+([]:List (Str×Value)).length }:=by
  have xf:∀ {H':Hp},(∀ b∈fp,H' b=none)->∀ b∈fp,FpOk (jba X scope (own++caps.map (·.1)) C S3 (upd H2 s2.heap.objs.size (.lst [])) fp) [] H' b:=fun hn b hb=>by
   refine⟨hn b hb,?_,?_,.inl hb,fun x c e=>(I4.ok.exf b hb).2 x c e,fun p hp=>absurd (show p∈([]:List (Addr×Obj)) from hp) (by simp)⟩
   ·exact (I4.ok.exf b hb).1
   ·exact I4.ok.exfs b hb
  refine jgq (fun n s'=>∃ i σ' H',Inv (jba X scope (own++caps.map (·.1)) C S3 (upd H2 s2.heap.objs.size (.lst [])) fp) [] σ' H' s'/\tn i s'.heap/\(∀ b∈fp,H' b=none)/\W i n σ' H') ?_ m0
   ⟨0,_,_,I4,st4,fun b hb=>(f3 b hb).1,w0⟩
  rintro n s5 ⟨i,σ5,H5,I5,st5,fr5,w5⟩;rcases turn i n σ5 H5 w5 with ⟨stop,qn⟩|⟨go,N,hN,step⟩
  ·refine thn (T.done (jba X scope (own++caps.map (·.1)) C S3 (upd H2 s2.heap.objs.size (.lst [])) fp) rfl rfl rfl hc i [] s5 σ5 H5 NoX I5 (xf fr5) st5 stop) fun r s6 hzz=>?_
   obtain⟨hr,I6⟩:=hzz;subst hr;obtain⟨m6,n6,_⟩:=id I6.loc;have C3:S3.heap.objs.size<=C:=Nat.le_of_eq hCC;have I7:Inv X pins σ H5 s6:=I3.call' (s':=s6) (ch:=fp) I6.os (jsi I6.base C3 (Heap.SameBut.refl _ _)) I6.hok I6.bare fun b hb=>by
    obtain⟨_,q1,_,q3,q4,q5⟩:=f3 b hb;exact⟨q3,q1,q4,q5⟩
   exact fin _ _ _ _ _ I7 (I3.fpOk C3 I6.free) ⟨m6,n6⟩ qn
  ·refine thn (T.item (jba X scope (own++caps.map (·.1)) C S3 (upd H2 s2.heap.objs.size (.lst [])) fp) rfl rfl rfl hc i [] s5 σ5 H5 NoX I5 (xf fr5) st5 go) fun r s6 hzz=>?_
   obtain⟨u,hr,h6⟩:=hzz;subst hr;refine thn h6 fun _ s7 hzz=>?_
   obtain⟨x,H7,I7,r7,y7,st7,fr7⟩:=hzz;have I7':=I7.pinned (xf fr7) (T.obj _ _ st7);refine thn (hg _ _ _ _ _ s7 σ5 H7 x u _ I7' r7 (step x H7 y7)) fun _ s8 hzz=>?_
   obtain⟨σ8,H8,I8,q8⟩:=hzz;refine thn (ht _ _ _ _ _ s8 σ8 H8 _ I8 q8) fun ok s9 hzz=>?_
   obtain⟨H9,I9,q9⟩:=hzz;have again:∀ {s':Shared} {σ':St} {H':Hp},Inv (jba X scope (own++caps.map (·.1)) C S3 (upd H2 s2.heap.objs.size (.lst [])) fp) ([]++jiw fp s7.heap) σ' H' s'->N σ' H'->∃ m,m<n/\∃ i σ' H',Inv (jba X scope (own++caps.map (·.1)) C S3 (upd H2 s2.heap.objs.size (.lst [])) fp) [] σ' H' s'/\tn i s'.heap/\(∀ b∈fp,H' b=none)/\W i m σ' H':=fun {s' σ' H'} Ia na=>by
    obtain⟨m',hm,wa⟩:=hN σ' H' na;refine⟨m',hm,i+1,σ',H',Ia.unpinned,T.keep _ _ _ st7 fun b hb o e=>(Ia.pin (b,o) (zcy _ (zcy _ (jc6 hb e)))).1,fun b hb=>?_,wa⟩;obtain⟨o,e,d⟩:=T.obj _ _ st7 b hb;exact (Ia.pin (b,o) (zcy _ (zcy _ (jc6 hb e)))).2.1
   cases ok with
   | false =>
    rw[if_neg (by decide)] at q9 |-
    exact again I9 q9
   | true =>
    rw[if_pos rfl] at q9 |-
    refine thn (he _ _ _ _ _ s9 σ8 H9 _ I9 q9) fun y s10 hzz=>?_
    obtain⟨vy,H10,I10,r10,ys,hys,hlen,q10⟩:=hzz;refine thn (jhu _ s10 σ8 H10 (.ref s2.heap.objs.size) [vy] (.ref s2.heap.objs.size) [y] (fun _ H'=>N σ8 H') I10 rfl (.cons r10 .nil) ⟨_,ys,vy,rfl,rfl,hys,hlen,q10⟩) fun _ s11 hzz=>?_
    obtain⟨_,H11,I11,_,q11⟩:=hzz;exact again I11 q11
 exact codeAny_compStart_list loop (T.self _ 0 _ _ _ st4 loop)
theorem juh{elt tg iter:Expr}{ifs:List Expr}{scope:Scope}{pos pos' cpos:Pos}{own:List Str}{caps:List (Str×Nat)}{wi:TI}{g:TG}{tc:TT}{te:TE}{i:Nat}{x:Str}(hc:X.calm=true)(ck:CapsOk X scope caps)
  (hi:PI X tg iter wi) (hg:∀ C s0 H0 ex,PG (jba X scope (own++caps.map (·.1)) C s0 H0 ex) tg g) (ht:∀ C s0 H0 ex,PC0 (jba X scope (own++caps.map (·.1)) C s0 H0 ex) ifs tc)
  (he:∀ C s0 H0 ex,PE (jba X scope (own++caps.map (·.1)) C s0 H0 ex) elt te) (hN:X.N.Nodup) (hix:X.N[i]? = some x) (hx:Loc X.env.scope x) (hsw:swapsWith (.ListComp elt [⟨tg,iter,ifs,0⟩] scope cpos) (some (.Name x pos')) pos.line X.env=pure true)
  (hf:X.fn x=true\/X.env.scope.names.lookup x=some .local) (hs:∀ x,foldedSetIterable iter X.env x=pure x) :
  PS X (.Assign [.Name x pos'] (.ListComp elt [⟨tg,iter,ifs,0⟩] scope cpos) pos) (fun Dn σ H=>jrd own.length caps wi g tc te σ H fun v H'=>Dn.nx (σ.set i (some v)) H'):=by
 intro pins s σ H Dn I h;rw[exec_Assign_Name_used _ _ _ _ hsw];refine zay (wpAny_standAt (zay ?_))
 show wpAny _ X.A (do let _ <- comprehension (.ListComp elt [⟨tg,iter,ifs,0⟩] scope cpos) scope X.env _ (newList []) false (eval iter X.env) (some (assign (.Name x pos') X.env))) _ _ s;refine zay (thn (jny (use:=some (assign (.Name x pos') X.env)) (QS:=fun _ s'=>SP X pins Dn .next s') hc ck hi hg ht he hs I h ?_) fun _ s' hq=>zab (zab hq));intro D H5 C s6 r I6 fc ⟨m6,n6⟩ qn;obtain⟨f1,f2,f3,f4,f5,f6⟩:=fc;show wpAny (model X.prog X.w) X.A (assign (.Name x pos') X.env (.ref D)) (fun _ s''=>∃ m,s''.heap.Ns C m/\∀ h',Heap.SameBut C s''.heap h'->SP X pins Dn .next { s'' with heap:=h' }) X.xe s6;refine wpAny_assign_Name (jky I6 hN hix hx (v:=.ref D) rfl (fun s7 I7 hzz=>?_) hf);obtain⟨a,sba,ha⟩:=hzz;have hCa:C≠a:=by
  rcases ha with ha|ha
  ·rw[ha];exact f2
  ·exact fun z=>f5 x a ha z.symm
 refine⟨m6,n6.sameBut sba hCa,fun h8 sb8=>⟨_,H5,I7.turned (fun b o hb e=>(sb8.2 b hb).trans e) f1 f2 f4 f5 f6,qn⟩⟩
end
end L2
namespace DL
open PySem PySem.Spec L2
theorem js1{K:W.Frag}{O:List Nat}{E:XK}{own:Nat}{caps:List (Str×Nat)}{fi:DSt->M (List D)}{h:D->DSt->Option DSt}{tc:DSt->M Bool}{fe:DSt->M D}{σ:St}{H:Hp}{Q:VK}(hcf:ji6 O caps=true)
  (hh:tD K O E (jep own caps fi h tc fe) σ H Q):jrd own caps (tI K O E fi) (tG K [] h) (tB K [] E0 tc) (tD K [] E0 fe) σ H Q:=by
 obtain⟨ρ,Hz,F,δ,r,R,hf,k⟩:=hh;rcases M.b_inv hf with ⟨ds,e1,hf⟩|⟨y,e1,rfl⟩
 ·refine⟨ρ,Hz,F,δ,.ok ds,R,e1,fun J H1 s1 it Dd hD=>?_⟩;obtain⟨dd,hd,rfl⟩:=M.o_inv hf
  cases hcd:jdk h tc fe ds (jes own caps δ) with
  | none=>rw[hcd] at hd;cases hd
  | some tot =>
   rw[hcd] at hd;have hd':jb9 tot=some dd:=hd;unfold jb9 at hd'
   split at hd'
   ·rename_i hz;cases hd';have R1:=R.mono s1;have pf:=R1.fresh hD
    let F':Addr->Bool:=fun b=>fob F σ O b || b == Dd
    have F't:∀ b,F' b=true↔fob F σ O b=true\/b=Dd:=fun b=>by show (_ || _)=true↔_;rw[Bool.or_eq_true,beq_iff_eq]
    have vis:∀ {H2:Hp},Same H1 H2->Same (hid H1 (fob F σ O)) (hid H2 F'):=fun {H2} e b o q=>by
     obtain⟨q1,q2⟩:=hid_some.mp q;refine hid_some.mpr ⟨?_,e b o q2⟩
     cases z:F' b with
     | false=>rfl
     | true =>
      rcases (F't b).mp z with z|z
      ·rw[q1] at z;cases z
      ·rw[z,hD] at q2;cases q2
    have R0:RS ρ K H1 (upd H1 Dd (.lst [])) F' [] (jcz own caps σ) (jes own caps δ):=by
     refine⟨by simp[jcz,jes],ja3 hD,fun b hb=>?_,fun i d hd _=>?_,fun i hi=>absurd hi (by simp),fun i hi=>absurd hi (by simp)⟩
     ·rcases (F't b).mp hb with z|z
      ·refine jgy fun q=>?_
       rw[R1.fresh q] at z;cases z
      ·rw[z,jak];exact fun q=>nomatch q
     ·obtain⟨p,p1,p2,p3⟩:=jiq hd;have hO:p.2∉O:=fun z=>by
       have:=List.all_eq_true.mp hcf p (List.mem_of_getElem? p1);rw[zbc.mpr z] at this;cases this
      obtain⟨v,q1,q2⟩:=R1.val p.2 d p3 hO;exact⟨v,jj5 p1 p2 q1,by rw[jch];exact q2.mono (vis (ja3 hD))⟩
    refine⟨fun i m σ' H'=>m=ds.length-i/\i<=ds.length/\∃ δ' done zs rest,RS ρ K H1 H' F' [] σ' δ'/\H' Dd=some (.lst zs)/\Reps ρ K (hid H' F') done zs/\jdk h tc fe (ds.drop i) δ'=some rest/\done++rest=tot,
     ⟨ds.length,by simp,Nat.zero_le _,_,[],[],tot,R0,jak,Reps.nil,hcd,rfl⟩,?_⟩
    rintro i m σ' H' ⟨rfl,hil,δ',done,zs,rest,R',hDd,rz,hr,htot⟩;have fv:Same (hid H1 (fob F σ O)) (hid H' (fob F' σ' [])):=by rw[jch];exact vis R'.same
    obtain⟨j1,j2⟩:=it H' (fob F' σ' []) i fv fun p hp=>R'.fresh hp
    by_cases hlt:i<ds.length
    ·obtain⟨go,yld⟩:=j1 hlt;refine .inr ⟨go,fun σ2 H2=>∃ δ2 done zs rest,RS ρ K H1 H2 F' [] σ2 δ2/\H2 Dd=some (.lst zs)/\Reps ρ K (hid H2 F') done zs/\jdk h tc fe (ds.drop (i+1)) δ2=some rest/\done++rest=tot,
      fun σ2 H2 q=>⟨ds.length-(i+1),by omega,rfl,hlt,q⟩,fun x H2 y=>?_⟩
     obtain⟨s2,d,hd,rd⟩:=yld x H2 y;have hdr:ds.drop i=d::ds.drop (i+1):=by
      rw[List.drop_eq_getElem_cons hlt];have:ds[i]=d:=by rw[zax hlt] at hd;exact zby hd
      rw[this]
     rw[hdr] at hr;unfold jdk at hr
     cases e2:h d δ' with
     | none=>rw[e2] at hr;cases hr
     | some δ1 =>
      rw[e2] at hr;dsimp only at hr;refine⟨ρ,H1,F',δ',d,δ1,R'.mono s2,rd,e2,fun σ3 ef R3=>?_⟩;have keepD:∀ {H5:Hp},Same H2 H5->H5 Dd=some (.lst zs)/\Reps ρ K (hid H5 F') done zs:=fun {H5} e=>⟨e _ _ (s2 _ _ hDd),rz.mono (jas (s2.trans e))⟩
      split at hr
      ·rename_i e3;refine⟨ρ,H1,F',δ1,.ok true,R3,e3,fun H4 s4=>iteT ?_⟩
       split at hr
       ·rename_i yv e4;refine⟨ρ,H1,F',δ1,.ok yv,R3.mono s4,e4,fun v H5 s5 r5=>?_⟩;rw[jch] at r5;obtain⟨k1,k2⟩:=keepD (s4.trans s5)
        cases e5:jdk h tc fe (ds.drop (i+1)) δ1 with
        | none=>rw[e5] at hr;cases hr
        | some rest' =>
         rw[e5] at hr;have hr':yv::rest'=rest:=zby hr;have hFD:F' Dd=true:=(F't Dd).mpr (.inr rfl);have hh:hid (upd H5 Dd (.lst (zs++[v]))) F'=hid H5 F':=jgf hFD;refine⟨zs,k1,?_,δ1,done++[yv],zs++[v],rest',?_,jak,?_,e5,by rw[List.append_assoc,<- htot,<- hr'];rfl⟩
         ·have l1:=k2.length;have l2:=congrArg List.length htot;rw[zca,<- hr',List.length_cons] at l2;omega
         ·have R5:=R3.mono (s4.trans s5);refine⟨R5.len,jf5 R5.same hD,fun b hb=>jgy (R5.fin b hb),fun j d' hj hO=>?_,fun j hj=>absurd hj (by simp),fun j hj=>absurd hj (by simp)⟩;obtain⟨v',w1,w2⟩:=R5.val j d' hj hO;refine⟨v',w1,?_⟩;rw[jch] at w2 |-
          rw[hh];exact w2
         ·rw[hh];exact k2.append (Reps.cons r5 Reps.nil)
       ·cases hr
      ·rename_i e3;refine⟨ρ,H1,F',δ1,.ok false,R3,e3,fun H4 s4=>iteF ?_⟩;obtain⟨k1,k2⟩:=keepD s4;exact⟨δ1,done,zs,rest,R3.mono s4,k1,k2,hr,htot⟩
      ·cases hr
    ·have ei:i=ds.length:=by omega
     subst ei;rw[List.drop_length] at hr;cases hr;rw[List.append_nil] at htot;subst htot;refine .inl ⟨j2 rfl,k _ H' (s1.trans R'.same) ?_⟩;exact rep_lst.mpr ⟨Dd,zs,rfl,SqL.of (hid_some.mpr ⟨pf,hDd⟩),rz.mono (jfe fun b q=>(F't b).mpr (.inl q))⟩
   ·cases hd'
 ·exact⟨ρ,Hz,F,δ,.error y,R,e1,k⟩
section
variable {X:Cx}{O B:List Nat}{E:XK}{elt tg iter:Expr}{pos:Pos}
theorem js5{i:Nat}{x:Str}{pos' cpos:Pos}{ifs:List Expr}{scope:Scope}{own:List Str}{caps:List (Str×Nat)}{fi:DSt->M (List D)}{h:D->DSt->Option DSt}{tc:DSt->M Bool}{fe:DSt->M D}(hN:X.N.Nodup)(hc:X.calm=true)(ck:CapsOk X scope caps)(hi:DI X O E tg iter fi)
  (hg:∀ C s0 H0 ex,DG (jba X scope (own++caps.map (·.1)) C s0 H0 ex) [] tg h) (ht:∀ C s0 H0 ex,DC (jba X scope (own++caps.map (·.1)) C s0 H0 ex) [] E0 ifs tc)
  (he:∀ C s0 H0 ex,DE (jba X scope (own++caps.map (·.1)) C s0 H0 ex) [] E0 elt fe) (ho:autoParam (O.contains i=false) zau2._auto_1) (hix:autoParam (X.N[i]? = some x) zau2._auto_1) (hx:autoParam (Loc X.env.scope x) zau8._auto_1)
  (hsw:autoParam (swapsWith (.ListComp elt [⟨tg,iter,ifs,0⟩] scope cpos) (some (.Name x pos')) pos.line X.env=pure true) zau2._auto_1)
  (hf:autoParam (X.fn x=true\/X.env.scope.names.lookup x=some .local) zau0._auto_1) (hcf:autoParam (ji6 O caps=true) zau2._auto_1) (hs:autoParam (∀ x,foldedSetIterable iter X.env x=pure x) zau3._auto_1) :
  DS X O O B E (.Assign [.Name x pos'] (.ListComp elt [⟨tg,iter,ifs,0⟩] scope cpos) pos) (gSet i (jep own.length caps fi h tc fe)):=by
 rintro pins s σ H Dn I ⟨ρ,Hz,F,δ,r,R,hg',k⟩;have ho':i∉O:=fun z=>by rw[zbc.mpr z] at ho;cases ho
 refine juh (own:=own) (g:=tG X.K [] h) (tc:=tB X.K [] E0 tc) (te:=tD X.K [] E0 fe) hc ck hi hg ht he hN hix hx hsw hf hs pins s σ H Dn I (js1 hcf ?_);rcases M.b_inv hg' with ⟨d,e1,hg'⟩|⟨y,e1,rfl⟩
 ·cases hg';exact⟨ρ,Hz,F,δ,.ok d,R,e1,fun v H' s' r'=>k _ H' (jmk ho' s') ((R.mono s').set ho' r')⟩
 ·exact⟨ρ,Hz,F,δ,.error y,R,e1,k⟩
end
end DL
namespace DL
open PySem PySem.Spec L2 PyProof.Rows
section
noncomputable def jyg:List D->Option D
 | [.lst [.int i,.int j]]=>some (.int (if j<i then j else i))
 | _=>none
@[simp] theorem kmin1(i j:Int):jyg [.lst [.int i,.int j]]=some (.int (if j<i then j else i)):=rfl
end
end DL
namespace DL
open PySem PySem.Spec L2
section
variable {ρz ρ ρ':Rho}{Sz S S' F:Addr->Bool}{Hz H:Hp}{K:W.Frag}{mg:Str->Option Value}{O:List Nat}{σ:St}{δ:DSt}{Ω:Sto}
theorem SOk.no_tup{ρ:Rho}{S:Addr->Bool}{K:W.Frag}{mg:Str->Option Value}{H Hv:Hp}{a:Addr}{so:SO}(h:SOk ρ S K mg H Hv a so)(xs:List V):H a≠some (.tup xs):=fun q=>by
 cases so with
 | ins c fs =>
  obtain⟨_,_,_,_,p,_⟩:=h;rw[q] at p;cases p
 | lst ds =>
  obtain⟨_,p,_⟩:=h;rw[q] at p;cases p
 | tab _ _ _ _ =>
  obtain⟨_,p,_⟩:=h;rw[q] at p;cases p
 | dct _ =>
  obtain⟨_,p,_⟩:=h;rw[q] at p;cases p
 | exc c j =>
  cases h with
  | no f C h1 h2=>rw[q] at h2;exact jxp (zby h2).symm
  | yes f j C dx h1 h2 h3=>rw[q] at h3;exact jxp (zby h3).symm
 | xd fs =>
  obtain⟨_,p,_⟩:=h;rw[q] at p;exact jzk (zby p).symm
theorem RM.putS(R:RM ρz Sz Hz F K mg O ρ S H σ δ Ω){i:Nat}{a:Addr}{so0 so':SO}{o0 o':HO}(hi:Ω[i]? = some so0)(ha:ρ i=some a)(hS:S a=true)(hH:H a=some o0)(hno:∀ y,HO.own y≠o0)(hr:SOk ρ S K mg (upd H a o') (hid H (fob (un F S) σ O)) a so') :
  RM ρz Sz Hz F K mg O ρ S (upd H a o') σ δ (Ω.set i so')/\hid (upd H a o') (fob (un F S) σ O)=hid H (fob (un F S) σ O):=by
 have hF:un F S a=true:=un_t.mpr (.inr hS);have hh:hid (upd H a o') (fob (un F S) σ O)=hid H (fob (un F S) σ O):=jgf (jf2 a hF);have il:i<Ω.length:=(zbb.mp hi).1;refine⟨⟨R.rs.updF hF,R.rho,fun b o h1 h2=>?_,R.old,R.new,R.own0,R.ff,?_⟩,hh⟩
 ·have hb:b≠a:=by
   rintro rfl;rcases R.new b hS with q|q
   ·rw[q] at h1;cases h1
   ·rw[q] at h2;cases h2
  rw[jag hb];exact R.same b o h1 h2
 ·rw[hh];refine⟨fun j so hj=>?_,R.sto.inj,fun j hj=>R.sto.top j (by simpa using hj),fun b hb=>jgy (R.sto.fin b hb),jsh R.sto.tv fun xs z=>hr.no_tup xs (by rw[jak,z])⟩
  by_cases hji:j=i
  ·subst hji;rw[zcz il] at hj;cases hj;exact⟨a,ha,hS,hr⟩
  ·rw[zbw (Ne.symm hji)] at hj;obtain⟨a',q1,q2,q3⟩:=R.sto.ats j so hj;have ne:a'≠a:=by
    rintro rfl;exact hji (R.sto.inj j i a' q1 ha)
   refine⟨a',q1,q2,?_⟩
   cases so with
   | ins c' fs' =>
    obtain⟨C',dx',vfs',p1,p2,p3,p4,p5⟩:=q3;have nd:dx'≠a:=jyt p3 hH (hno _);exact⟨C',dx',vfs',p1,by rw[jag ne];exact p2,by rw[jag nd];exact p3,p4,p5⟩
   | lst ds0 =>
    obtain⟨xs0,p1,p2⟩:=q3;exact⟨xs0,by rw[jag ne];exact p1,p2⟩
   | tab _ _ _ _ =>
    obtain⟨ps,p1,p2,p3⟩:=q3;exact⟨ps,by rw[jag ne];exact p1,p2,p3⟩
   | dct _ =>
    obtain⟨vk,p1,p2,p3⟩:=q3;exact⟨vk,by rw[jag ne];exact p1,p2,p3⟩
   | exc c j=>exact ExcOk.mono (fun _ _ z=>z) (jag ne) q3
   | xd fs =>
    obtain⟨vfs,p1,p2⟩:=q3;exact⟨vfs,by rw[jag ne];exact p1,p2⟩
theorem RM.newS(R:RM ρz Sz Hz F K mg O ρ S H σ δ Ω){x:Addr}{nso:SO}{no:HO}(hx:H x=none)(hr:∀ ρ' S' Hv',RLe ρ ρ'->Same (hid H (fob (un F S) σ O)) Hv'->SOk ρ' S' K mg (upd H x no) Hv' x nso) :
  RM ρz Sz Hz F K mg O (addR ρ Ω.length x) (addS S x x) (upd H x no) σ δ (Ω++[nso])/\RLe ρ (addR ρ Ω.length x) /\
   Same (hid H (fob (un F S) σ O)) (hid (upd H x no) (fob (un F (addS S x x)) σ O)):=by
 have top:=R.sto.top Ω.length (zac _);have l:RLe ρ (addR ρ Ω.length x):=fun i a h=>by
  unfold addR
  by_cases e:i=Ω.length
  ·subst e;rw[top] at h;cases h
  ·rw[if_neg e];exact h
 have sm:Same H (upd H x no):=ja3 hx;have old:∀ b,S b=true->addS S x x b=true:=fun b h=>addS_t.mpr (.inl h)
 have new:∀ b,addS S x x b=true->S b=true\/H b=none:=fun b h=>by
  rcases addS_t.mp h with q|rfl|rfl
  ·exact .inl q
  ·exact .inr hx
  ·exact .inr hx
 have ff:∀ b,fob F σ O b=true->addS S x x b=false:=fun b h=>by
  have h2:fob (un F S) σ O b=true:=by rw[<- je2];exact un_t.mpr (.inl h)
  cases e:addS S x x b with
  | false=>rfl
  | true =>
   rcases addS_t.mp e with q|rfl|rfl
   ·rcases fob_t.mp h with z|z
    ·rw[R.ff b z] at q;cases q
    ·exact absurd z (R.base_S q)
   ·rw[R.fresh hx] at h2;cases h2
   ·rw[R.fresh hx] at h2;cases h2
 have keep:∀ b,S b=true->(upd H x no) b=H b:=R.at_store sm;have vis0:Same (hid H (fob (un F S) σ O)) (hid (upd H x no) (un (fob F σ O) (addS S x x))):=fun b o q=>by
  obtain⟨q1,q2⟩:=hid_some.mp q;refine hid_some.mpr ⟨?_,sm b o q2⟩
  cases e:un (fob F σ O) (addS S x x) b with
  | false=>rfl
  | true =>
   rcases un_t.mp e with z|z
   ·have h2:fob (un F S) σ O b=true:=by rw[<- je2];exact un_t.mpr (.inl z)
    rw[h2] at q1;cases q1
   ·rcases new b z with z|z
    ·have h2:fob (un F S) σ O b=true:=jf2 b (un_t.mpr (.inr z));rw[h2] at q1;cases q1
    ·rw[z] at q2;cases q2
 have sto:StoOk (addR ρ Ω.length x) (addS S x x) K mg (upd H x no) (hid (upd H x no) (un (fob F σ O) (addS S x x))) (Ω++[nso]):=by
  refine⟨fun i so hi=>?_,fun i j a h1 h2=>?_,fun i hi=>?_,fun b hb=>?_,jxf (jsh R.sto.tv fun xs z=>(hr ρ S _ (RLe.refl _) (Same.refl _)).no_tup xs (by rw[jak,z])) vis0⟩
  ·by_cases h:i<Ω.length
   ·rw[List.getElem?_append_left h] at hi;obtain⟨a,q1,q2,q3⟩:=R.sto.ats i so hi;refine⟨a,l i a q1,old a q2,?_⟩
    cases so with
    | ins c' fs' =>
     obtain⟨C',dx',vfs',p1,p2,p3,p4,p5⟩:=q3;exact⟨C',dx',vfs',p1,by rw[keep a q2];exact p2,by rw[keep dx' p4];exact p3,old _ p4,p5.mono l vis0⟩
    | lst ds =>
     obtain⟨xs,p1,p2⟩:=q3;exact⟨xs,by rw[keep a q2];exact p1,(p2.rho l).mono vis0⟩
    | tab _ _ _ _ =>
     obtain⟨ps,p1,p2,p3⟩:=q3;exact⟨ps,by rw[keep a q2];exact p1,p2,p3.mono vis0⟩
    | dct _ =>
     obtain⟨vk,p1,p2,p3⟩:=q3;exact⟨vk,by rw[keep a q2];exact p1,p2,(p3.rho l).mono vis0⟩
    | exc c j=>exact ExcOk.mono l (keep a q2) q3
    | xd fs =>
     obtain⟨vfs,p1,p2⟩:=q3;exact⟨vfs,by rw[keep a q2];exact p1,p2.mono l vis0⟩
   ·have e:i=Ω.length:=by
     have:=(zbb.mp hi).1;simp at this;omega
    subst e;rw[List.getElem?_append_right (zac _),Nat.sub_self] at hi;cases hi;exact⟨x,by unfold addR;rw[if_pos rfl],addS_t.mpr (.inr (.inl rfl)),hr _ _ _ l vis0⟩
  ·have fresh:∀ i a,i≠Ω.length->ρ i=some a->a≠x:=fun i a hi h z=>by
    subst z;have il:i<Ω.length:=by
     by_cases q:i<Ω.length
     ·exact q
     ·rw[R.sto.top i (by omega)] at h;cases h
    obtain⟨a',q1,q2,_⟩:=R.sto.ats i _ (zax il);rw[h] at q1;cases q1
    exact R.sto.fin a q2 hx
   unfold addR at h1 h2
   by_cases e1:i=Ω.length
   ·by_cases e2:j=Ω.length
    ·rw[e1,e2]
    ·rw[if_pos e1] at h1;rw[if_neg e2] at h2
     cases h1;exact absurd rfl (fresh j _ e2 h2)
   ·by_cases e2:j=Ω.length
    ·rw[if_neg e1] at h1;rw[if_pos e2] at h2
     cases h2;exact absurd rfl (fresh i _ e1 h1)
    ·rw[if_neg e1] at h1;rw[if_neg e2] at h2
     exact R.sto.inj i j a h1 h2
  ·rw[zca,List.length_singleton] at hi;unfold addR;rw[if_neg (by omega)];exact R.sto.top i (by omega)
  ·rcases addS_t.mp hb with q|rfl|rfl
   ·rw[keep b q];exact R.sto.fin b q
   ·rw[jak];exact fun z=>nomatch z
   ·rw[jak];exact fun z=>nomatch z
 obtain⟨t1,t2⟩:=R.call l (fun b o _ h=>sm b o h) old new ff sto;exact⟨t1,l,t2⟩
end
section
variable {es:List Expr}
inductive AtLI(x y:D)(Ω Ω':Sto)(r:Except XD D):Prop
 | mk (i:Nat) (j:Int) (ds:List D) (d:D) (hx:x=.obj i) (hy:y=.int j) (hi:Ω[i]? = some (.lst ds)) (ha:L2.atI ds j=some d) (hr:r=.ok d) (ho:Ω'=Ω)
inductive ChkI(x:D)(Ω Ω':Sto)(r:Except XD D):Prop
 | mk (i:Nat) (ds:List D) (hx:x=.obj i) (hi:Ω[i]? = some (.lst ds)) (hr:r=.ok x) (ho:Ω'=Ω)
inductive PutI(g:List D->Option (List D))(x:D)(Ω Ω':Sto)(r:Except XD D):Prop
 | mk (i:Nat) (ds es:List D) (hx:x=.obj i) (hi:Ω[i]? = some (.lst ds)) (hg:g ds=some es) (hr:r=.ok .non) (ho:Ω'=Ω.set i (.lst es))
end
noncomputable def forL(k:Nat->D->D)(g:DSt->MS Out)(h:D->DSt->Option DSt)(n:Nat):Nat->Nat->DSt->MS Out
 | 0,_,_=>fun _=>none
 | f+1,i,δ=>fun Ω=>match Ω[n]? with
  | some (.lst ds)=>match ds[i]? with
   | none=>some (.ok (.nx δ),Ω)
   | some d=>match h (k i d) δ with
    | none=>none
    | some δ1=>((g δ1).b fun o=>match o with
     | .nx δ2=>forL k g h n f (i+1) δ2
     | .ct δ2=>forL k g h n f (i+1) δ2
     | .bk δ2=>MS.p (.nx δ2)
     | .rt v=>MS.p (.rt v)) Ω
  | _=>none
inductive ForLI(k:Nat->D->D)(g:DSt->MS Out)(h:D->DSt->Option DSt)(n f i:Nat)(δ:DSt)(Ω Ω':Sto)(r:Except XD Out):Prop
 | stop (ds:List D) (hn:Ω[n]? = some (.lst ds)) (hi:ds[i]? = none) (hr:r=.ok (.nx δ)) (ho:Ω'=Ω)
 | turn (ds:List D) (d:D) (δ1:DSt) (hn:Ω[n]? = some (.lst ds)) (hi:ds[i]? = some d) (hh:h (k i d) δ=some δ1) (hg:((g δ1).b fun o=>match o with
     | .nx δ2=>forL k g h n f (i+1) δ2
     | .ct δ2=>forL k g h n f (i+1) δ2
     | .bk δ2=>MS.p (.nx δ2)
     | .rt v=>MS.p (.rt v)) Ω=some (r,Ω'))
inductive FLInv(X:Cx)(O:List Nat)(ρz:Rho)(Sz:Addr->Bool)(Hz:Hp)(F:Addr->Bool)(ρ1:Rho)(H1:Hp)(m:DSt->MS Out)(r:Except XD Out)(Ω':Sto)(σ:St)(H:Hp):Prop
 | mk (ρ:Rho) (S:Addr->Bool) (δ:DSt) (Ω:Sto) (hR:RM ρz Sz Hz F X.K X.mg O ρ S H σ δ Ω) (hl:RLe ρ1 ρ) (hs:Same H1 (hid H (fob (un F S) σ O))) (hf:m δ Ω=some (r,Ω'))
section
end
noncomputable def jyf(done:List D):Except XD (List D)->Except XD (List D)
 | .ok rest=>.ok (done++rest)
 | .error y=>.error y
inductive CEI(X:Cx)(ρ1:Rho)(S1:Addr->Bool)(H1 Hv:Hp)(G:Addr->Bool)(Dd:Addr)(T:Except XD (List D))(Ωe:Sto)(cd:DSt->MS (List D))(i:Nat)(σ:St)(H:Hp):Prop
 | mk (ρ:Rho) (S:Addr->Bool) (δ:DSt) (Ω:Sto) (done:List D) (zs:List V) (rr:Except XD (List D)) (hR:RM ρ S H G X.K X.mg [] ρ S H σ δ Ω) (hD:H Dd=some (.lst zs)) (hz:Reps ρ X.K (hid H (un G S)) done zs) (hlen:zs.length=i)
  (hc:cd δ Ω=some (rr,Ωe)) (hT:T=jyf done rr) (hv:Same Hv (hid H (un G S))) (hl:RLe ρ1 ρ) (hsm:∀ b o,S1 b=false->H1 b=some o->H b=some o) (hold:∀ b,S1 b=true->S b=true) (hnew:∀ b,S b=true->S1 b=true\/H1 b=none)
section
end
section
end
end DL
namespace L2
open PySem PySem.Spec PyProof.Rows
section
variable {s:Shared}
inductive RgEnd(s:Shared)(n:Nat)(q:Result)(s':Shared):Prop
 | mk (h':Heap) (tk:Nat) (acc:Array Value) (c:Nat) (e1:q=.ok (.ret (.ref s.heap.objs.size))) (e2:s'={ s with heap:=h',toks:=tk }) (k:∀ b o,s.heap.get? b=some o->h'.get? b=some o)
   (at':h'.get? s.heap.objs.size=some { cls:=.type "list",dict:=none,data:=.seq acc c,slots:=#[] }) (got:ItemsOf (fun i v=>∃ t,v=Value.int ((0:Int)+i*1) t) acc n)
end
open Att
noncomputable def jrx{α:Type}(c:Nat->Nat->Bool):W.KasT α->α
 | .ret a=>a
 | .ask i j k=>jrx c (k (c i j))
noncomputable def jqq{α:Type}(n:Nat):W.KasT α->Bool
 | .ret _=>true
 | .ask i j k=>decide (i<n)&&decide (j<n)&&jqq n (k true)&&jqq n (k false)
noncomputable def jm9(keys:List Int)(n:Nat):List Nat:=(jrx (fun i j=>decide (keys.getD i 0<keys.getD j 0)) (W.kas_sort n)).toList
section
variable {L:Addr}{m:Str->Option Value}{h:Heap}
structure Lk(L:Addr)(m:Str->Option Value)(h h':Heap):Prop where
 k:∀ b o,b≠L->h.get? b=some o->h'.get? b=some o
 ns:h'.Ns L m
end
section
variable {P:Program}{w:World}{H:Hp}{h:Heap}{a:Addr}{o:HO}
theorem ObjOk.here(x:ObjOk P w H h a o):∃ ob,h.get? a=some ob:=by
 cases o with
 | lst xs=>obtain⟨_,_,_,_,e⟩:=x;exact⟨_,e⟩
 | tup xs=>obtain⟨_,_,_,o,e,_⟩:=x;exact⟨_,e⟩
 | dK kvs=>obtain⟨_,_,_,_,o,_,_,e,_⟩:=x;exact⟨_,e⟩
 | dT kvs=>obtain⟨_,_,_,_,o,_,_,e,_⟩:=x;exact⟨_,e⟩
 | set S n=>obtain⟨o,_,_,_,e,_⟩:=x;exact⟨_,e⟩
 | ins C dx fs=>obtain⟨_,_,_,e,_⟩:=x;exact⟨_,e⟩
 | own y=>exact x
 | xd fs=>obtain⟨_,⟨_,_,_,e,_⟩,_⟩:=x;exact⟨_,e⟩
 | rng lo hi=>obtain⟨_,_,_,e⟩:=x;exact⟨_,e⟩
 | frz ob u=>obtain⟨e,_⟩:=x;exact⟨_,e⟩
 | tbl ps=>exact⟨_,x⟩
 | met f y=>exact⟨_,x⟩
 | ext φ=>exact x.2.1
end
section
end
end L2
namespace DL
open PySem PySem.Spec L2
section
end
inductive CdOf(K:W.Frag)(mg:Str->Option Value)(x:Str)(cdv:Value):Prop
 | mk (f:Addr) (oc:Value) (od:Option Addr) (fd:FuncData) (osl:Array (Option Value)) (h1:mg x=some (.ref f)) (h2:K.lookup f=some ⟨oc,od,.func fd,osl⟩) (h3:fd.code=cdv)
noncomputable def ordD(n:Int)(rs:List D):Option (List D):=match jig rs with
 | some ks=>if 2<=n/\n<64/\(ks.length:Int)=n/\jqq n.toNat (W.kas_sort n.toNat)=true/\(jm9 (ks.map fun k=>-k) n.toNat).all (fun i=>decide (i<n.toNat))=true/\(jm9 (ks.map fun k=>-k) n.toNat).length<=64 then
   some ((jm9 (ks.map fun k=>-k) n.toNat).map fun i=>.int (Int.ofNat i)) else none
 | none=>none
inductive SortI(x:Str)(l c:Nat)(q:Str)(ir:Nat)(δ:DSt)(ds:List D)(Ω Ω':Sto)(r:Except XD D):Prop
 | mk (n:Int) (rs es:List D) (h1:ds=[.int n]) (h2:δ[ir]? = some (some (.lst rs))) (h3:Ω[0]? = some (.tab x l c q)) (h4:ordD n rs=some es) (h5:r=.ok (.lst es)) (h6:Ω'=Ω)
inductive OrdI(n:Int)(rs es:List D):Prop
 | mk (N:Nat) (ks:List Int) (h1:n=N) (h2:rs=ks.map .int) (h3:2<=N) (h4:N<64) (h5:ks.length=N) (h6:jqq N (W.kas_sort N)=true) (h7:∀ i∈jm9 (ks.map fun k=>-k) N,i<N) (h8:(jm9 (ks.map fun k=>-k) N).length<=64) (h9:es=(jm9 (ks.map fun k=>-k) N).map fun i=>.int (Int.ofNat i))
end DL
namespace DL
open PySem PySem.Spec PyProof.Rows L2
section
end
section
end
noncomputable def js4(T:Addr)(K:W.Frag):W.Frag:=K.filter fun p=>!(p.1 == T)
section
variable {K:W.Frag}{T:Addr}
variable (hT:K.lookup T=some ⟨.none,none,.fields #[],#[]⟩)
include hT
end
inductive LawT(P:Program)(w:World)(K:W.Frag)(mg:Str->Option Value)(n k:Nat)(x:Str)(fa:Addr):Prop
 | mk (T c:Addr) (fd:FuncData) (sp:Sp) (h1:K.lookup T=some ⟨.none,none,.fields #[],#[]⟩) (h2:W.codeHdIn K c T=true) (h3:∀ (s:Shared) (u:Value),BindsTo s fd ⟨[u],[]⟩ [(x,u)])
   (h4:∀ base:Heap,(js4 T K).In base->base.Ns mainGlobals mg->FnOk P w (js4 T K) mg base CX0 k fa fd [x] sp)
   (h5:∀ (H:Hp) (a:Addr) (ns:List Int),ns.length<=n->H T=some (.tbl #[])->SqL (js4 T K) H a (ns.map V.int)->sp [.ref a] H (fun v _=>v=.bl true) fun _ _ _=>False)
section
end
end DL
namespace L2
open PySem PySem.Spec PyProof.Rows
end L2
namespace DL
open PySem PySem.Spec PyProof.Rows L2
noncomputable def orA(G:Addr->Bool)(l:Addr):Addr->Bool:=fun b=>G b || b == l
inductive spF(K:W.Frag)(mg:Str->Option Value)(n:Nat)(m:List D->MS D)(vs:List V)(H:Hp)(Q:VK)(E:XK):Prop
 | mk (hn:vs.length=n) (ρ:Rho) (S F:Addr->Bool) (ds:List D) (Ω:Sto) (hF:∀ b,F b=true->H b≠none) (hS:∀ b,F b=true->S b=false) (hr:Reps ρ K (hid H (un F S)) ds vs) (hs:StoOk ρ S K mg H (hid H (un F S)) Ω) (es:List D) (Ω':Sto) (hf:m ds Ω=some (.ok (.lst es),Ω'))
   (k:∀ (l:Addr) zs ρ' S' H',RLe ρ ρ'->(∀ b o,S b=false->H b=some o->H' b=some o)->(∀ b,S b=true->S' b=true)->(∀ b,S' b=true->S b=true\/H b=none)->(∀ b,F b=true->S' b=false)->StoOk ρ' S' K mg H' (hid H' (orA (un F S') l)) Ω' ->
    H l=none->H' l=some (.lst zs)->S' l=false->Reps ρ' K (hid H' (orA (un F S') l)) es zs->Q (.ref l) H')
structure CalF(P:Program)(w:World)(K:W.Frag)(mg:Str->Option Value)(base:Heap)(k:Nat)(x:Str)(n:Nat)(m:List D->MS D):Prop where
 ex:CalX P w K mg base k x n (spF K mg n m)
 ar:∀ ds Ω r,m ds Ω=some r->ds.length=n
 ls:∀ ds Ω r Ω',m ds Ω=some (r,Ω')->∃ es,r=.ok (.lst es)
inductive PickF(i:Nat)(q:Option (Except XD Out×Sto))(es:List D)(Ω':Sto):Prop
 | mk (δ':DSt) (h1:q=some (.ok (.nx δ'),Ω')) (h2:δ'[i]? = some (some (.lst es)))
section
end
section
end
end DL
namespace L2
open PySem PySem.Spec PyProof.Rows
open Att
section
inductive TpAt(h:Heap)(v:Value)(ns:List Int):Prop
 | mk (a:Addr) (its:Array Value) (e:v=.ref a) (h1:IsTup h a its) (h2:IntsAre its.toList ns)
end
end L2
namespace DL
open PySem PySem.Spec PyProof.Rows L2
section
variable {e:Expr}
inductive TupV(K:W.Frag)(H:Hp)(v:V)(t:List Int):Prop
 | mk (a:Addr) (e:v=.ref a) (h:SqT K H a (t.map V.int))
end
noncomputable def jqv(fa fb:DSt->MS D):DSt->MS D:=fun δ=>(fa δ).b fun x=>match x with
 | .bl true=>fb δ
 | .bl false=>MS.p (.bl false)
 | _=>fun _=>none
section
variable {X:Cx}{O:List Nat}{a b:Expr}{rest:List Expr}{pos:Pos}{fa fb:DSt->MS D}
theorem jwj{op}(h:ME X O a fa):ME X O (.BoolOp op [a] pos) fa:=fun pins s σ H Q I hw=>jsa h pins s σ H Q I hw
theorem jrz(ha:ME X O a fa)(hb:ME X O (.BoolOp .And (b::rest) pos) fb):ME X O (.BoolOp .And (a::b::rest) pos) (jqv fa fb):=by
 rintro pins s σ H Q I ⟨ρz,Sz,Hz,F,ρ,S,δ,Ω,R,r,Ω',hf,k⟩;refine jr7 ha hb pins s σ H Q I ?_;rcases MS.b_inv hf with ⟨x,Ω1,e1,hf⟩|⟨x,e1,rfl⟩
 ·refine⟨ρz,Sz,Hz,F,ρ,S,δ,Ω,R,.ok x,Ω1,e1,fun u ρ1 S1 H1 R1 l1 v1 r1=>?_⟩
  cases x with
  | bl z =>
   refine⟨z,rep_bl.mp r1,?_⟩
   cases z with
   | true =>
    refine iteT ⟨ρz,Sz,Hz,F,ρ1,S1,δ,Ω1,R1,r,Ω',hf,?_⟩
    cases r with
    | ok d=>exact fun v ρ2 S2 H2 R2 l2 v2 r2=>k v ρ2 S2 H2 R2 (l1.trans l2) (v1.trans v2) r2
    | error y=>trivial
   | false =>
    refine iteF ?_;cases hf;exact k _ ρ1 S1 H1 R1 l1 v1 (rep_bl.mpr rfl)
  | _=>cases hf
 ·exact⟨ρz,Sz,Hz,F,ρ,S,δ,Ω,R,.error x,_,e1,trivial⟩
end
end DL
namespace L2
open PySem PySem.Spec PyProof.Rows
section
variable {κ:Type}[DecidableEq κ]
end
theorem jyh{P:Program}{w:World}{k:Key}{u:Value}(r:RelV (kV k) u):(jev P w).is k u=true:=by
 cases k with
 | inl i=>obtain⟨t,e⟩:=(show ∃ t,u=Value.int i t from r);subst e;exact jli P w i t
 | inr x=>obtain⟨t,e⟩:=(show ∃ t,u=Value.str x t from r);subst e;exact jlj P w x t
section
end
section
end
section
end
section
end
section
end
structure M1(X:Cx)(o:Expr)(m:Str)(apos:Pos)(e:Expr)(cpos:Pos):Prop where
 base:attributeBase o m X.env (eval o X.env)=eval o X.env
 few:((backTo cpos (starEach [e] X.env)).all (fun x=>!x.1)&&(backToKw cpos (keywordEach [] X.env)).all (fun x=>x.1.isSome)
  && decide (([e]:List Expr).length+([]:List Keyword).length+(if ([]:List Keyword).isEmpty then 0 else 1)<30))=true
 line:(apos.endLine == cpos.line)=true
 trees:backTo cpos (starEach [e] X.env)=[(false,eval e X.env)]
structure M2(X:Cx)(o:Expr)(m:Str)(apos:Pos)(e f:Expr)(cpos:Pos):Prop where
 base:attributeBase o m X.env (eval o X.env)=eval o X.env
 few:((backTo cpos (starEach [e,f] X.env)).all (fun x=>!x.1)&&(backToKw cpos (keywordEach [] X.env)).all (fun x=>x.1.isSome)
  && decide (([e,f]:List Expr).length+([]:List Keyword).length+(if ([]:List Keyword).isEmpty then 0 else 1)<30))=true
 line:(apos.endLine == cpos.line)=true
 trees:backTo cpos (starEach [e,f] X.env)=[(false,eval e X.env),(false,eval f X.env)]
section
end
section
end
section
end
section
end
end L2
namespace Att
open PySem PySem.W PySem.Calls PyProof.Rows
end Att
namespace L2
open PySem PySem.Spec PyProof.Rows
section
variable {κ:Type}[DecidableEq κ]
end
end L2
namespace L2
open PySem PySem.Spec PyProof.Rows Builtin Builtin.ObjectAttr
open PySem.W (Frag InstAt Looks findIn mroIn clsIn findObj takerIn tailIn isFn)
noncomputable abbrev bmV:List Value:=[.type "ValueError",.type "Exception",.type "BaseException",.type "object"]
noncomputable def xIn(K:Frag)(C:Addr):Bool:=match K.lookup C with
 | some ⟨.type "type",_,.cls cd,sl⟩=>(match cd.mro,sl.toList with
  | .ref C'::bm,[_,_,_,_,some (.builtin n),_]=>C' == C&&n == "ValueError.__new__"&&!cd.hasDel&&cd.hasDict&&tailIn K bmV bm
  | _,_=>false)
 | _=>false
inductive XAt(K:Frag)(h:Heap)(C:Addr):Prop
 | mk (bm:List Value) (N:Addr) (nm q:Str) (bs:List Value) (sn:List Str) (sub:List Value) (ab:Bool) (col:Option Bool) (dd:Option Addr) (k0 k1 k2 k3 k5:Option Value) (cd:ClassData)
  (hC:h.get? C=some (excClassObj nm q C N bs bm true sn sub ab col dd k0 k1 k2 k3 k5 "ValueError.__new__")) (T:OwnTail h bmV bm) (hk:clsIn K C=some cd) (hm:cd.mro=.ref C::bm) (hd:cd.hasDict=true) (hN:cd.ns=N)
theorem x_at{K:Frag}{h:Heap}{C:Addr}(X:K.In h)(e:xIn K C=true):XAt K h C:=by
 unfold xIn at e
 split at e
 ·rename_i dd cd sl ho
  split at e
  ·rename_i C' bm k0 k1 k2 k3 n k5 hm hs;simp only[Bool.and_eq_true,beq_iff_eq,Bool.not_eq_true'] at e;obtain⟨⟨⟨⟨e1,e2⟩,e3⟩,e4⟩,e5⟩:=e;subst e1 e2;have hk:clsIn K C'=some cd:=by unfold clsIn;rw[ho]
   have hm0:=hm;have e40:=e4;obtain⟨nm,bs,mro,ns,qn,hd,sn,sub,ab,col,del⟩:=cd;dsimp only at hm e3 e4;subst hm e3 e4;have hsl:sl=#[k0,k1,k2,k3,some (.builtin "ValueError.__new__"),k5]:=by
    obtain⟨l⟩:=sl;simp only at hs;rw[hs]
   subst hsl;exact⟨bm,ns,nm,qn,bs,sn,sub,ab,col,dd,k0,k1,k2,k3,k5,_,X _ _ ho,W.tail_of_in X e5,hk,hm0,e40,rfl⟩
  ·cases e
 ·cases e
theorem jlq{h:Heap}{bm:List Value}(self:Value)(T:OwnTail h bmV bm):refuseLoop self "__setattr__" bm=pure ():=by
 induction T with
 | base=>exact PySem.F.store_ValueError.passes self
 | own _ _ _ _ ih=>rw[refuseLoop_ref];exact ih
section
variable {prog:Program}{w:World}{A:Around}{E:Value->Shared->Prop}{s:Shared}{K:Frag}{x C f:Addr}{name:Str}{v:Value}{ox:Obj}{od:Option Obj}
theorem jxk{rest:List Value}{Q:Value->Shared->Prop}(X:K.In s.heap)(hx:xIn K C=true)(hi:findIn K (.ref C) "__init__"=some (some (.ref f)))(hf:isFn K (.ref f)=true)
  (hq:∀ h' e,Heap.MadeExcOf s.heap h' e (.ref C) rest->wpAny (model prog w) (A.under (.builtin "type.__call__" ⟨.ref C::rest,[]⟩)) (call (.ref f) (.ref e::rest)) (fun r s'=>r=.none/\Q (.ref e) s') E { s with heap:=h' }) (hrest:rest.length<=sizeLine) :
  wpAny (model prog w) A (call (.ref C) rest) Q E s:=by
 obtain⟨bm,N,nm,q,bs,sn,sub,ab,col,dd,k0,k1,k2,k3,k5,cd,hC,T,hk,hm,hd,hN⟩:=x_at X hx;obtain⟨h,g,d,t,os⟩:=s;have F:=PySem.F.excBase_ValueError;have f1:=tc_lookup;have f2:=tc_bind (.ref C);have hT:(⟨h,g,d,t,os⟩:Shared).TypeIs (.ref C) "type":=⟨_,hC,rfl⟩
 refine wpAny_call (codeAny_of_tree (show wpAny _ _ (callAny (.ref C) _) _ _ _ from ?_))
 repeat (any_goals (first|assumption|with_reducible refine wpAny_loadPart_at hC ?_|wp_step))
 refine⟨rfl,codeAny_call_builtin_at (Code.quiet_builtin _ (by decide +kernel)) entry_typeCall (wpAny_check_type_call_sub hC ?_)⟩
 repeat (first|with_reducible refine wpAny_loadPart_at hC ?_|with_reducible refine wpAny_madeBy_exc hC ?_|wp_step)
 refine codeAny_call_builtin_code (Code.quiet_builtin _ F.quiet) (wpAny_check_new_subT F T hC (codeAny_exc_new_subT F T hC (show wpAny _ _ _ _ _ _ from ?_) hrest));have kp:∀ b o,h.get? b=some o->((h.push { cls:=.type "tuple",data:=.seq rest.toArray }).push { cls:=.ref C,data:=.fields #[.ref h.objs.size,.none,.none,.none,.bool false,.none] }).get? b=some o:=fun b o e=>zaz _ (zaz _ e)
 have hC1:=kp _ _ hC;have X1:K.In ((h.push { cls:=.type "tuple",data:=.seq rest.toArray }).push { cls:=.ref C,data:=.fields #[.ref h.objs.size,.none,.none,.none,.bool false,.none] }):=fun b o e=>kp b o (X b o e)
 have hg1:((h.push { cls:=.type "tuple",data:=.seq rest.toArray }).push { cls:=.ref C,data:=.fields #[.ref h.objs.size,.none,.none,.none,.bool false,.none] }).get? (h.objs.size+1)=some { cls:=.ref C,data:=.fields #[.ref h.objs.size,.none,.none,.none,.bool false,.none] }:=by heap_get
 have hc1:(Value.ref C::bm).contains (.ref C)=true:=by simp
 unfold isInstance
 repeat (first|with_reducible refine wpAny_loadPart_at hg1 ?_|(with_reducible refine wpAny_isSubtype_exc hC1 ?_;rw[hc1])|wp_step)
 refine wpAny_isSubtype_exc (C:=C) hC1 ?_;rw[hc1]
 repeat wp_step
 repeat (first|with_reducible refine wpAny_loadPart_at hg1 ?_|wp_step)
 show wpAny _ _ (typeLookup (.ref C) _) _ _ _;refine (W.looks_findIn X1 hi).at ?_;refine wpAny_holding (zay ((W.bind_fn X1 _ (beq_iff_eq.mp hf)).at ?_));refine zay (wpAny_mono (hq _ (h.objs.size+1) ⟨kp,Heap.get?_none_of_le (Nat.le_succ _),h.objs.size,hg1,Heap.get?_none_of_le (zac _),zaz _ (Heap.get?_push_at rfl rfl)⟩) (fun r s' hr=>?_) fun _ _ z=>z);obtain⟨rfl,hQ⟩:=hr
 wp_walk
 exact hQ
noncomputable def xNoI(K:Frag)(C:Addr):Bool:=(clsIn K C).any fun cd=>W.nsOkIn K cd.ns&&W.nsIn K cd.ns "__init__" == some none
theorem juy{rest:List Value}{Q:Value->Shared->Prop}(X:K.In s.heap)(hx:xIn K C=true)(hi:xNoI K C=true)(hq:∀ h' e,Heap.MadeExcOf s.heap h' e (.ref C) rest->Q (.ref e) { s with heap:=h' })(hrest:rest.length<=sizeLine) :
  wpAny (model prog w) A (call (.ref C) rest) Q E s:=by
 obtain⟨bm,N,nm,q,bs,sn,sub,ab,col,dd,k0,k1,k2,k3,k5,cd,hC,T,hk,hm,hd,hN⟩:=x_at X hx;obtain⟨cd',e1,e2⟩:=W.any_some hi;rw[hk] at e1;cases e1;rw[hN,Bool.and_eq_true,beq_iff_eq] at e2;obtain⟨h,g,d,t,os⟩:=s;exact wpAny_call_exc_subT (hrest:=hrest) PySem.F.excBase_ValueError T hC (.of_isNs (W.isNs_of_in X e2.1)) (W.nsMap_none_of_in X e2.1 e2.2) hq
theorem juz{K:Frag}{C:Addr}{h:Heap}(X:K.In h)(hx:xIn K C=true){T:String}(hT:bmV.contains (.type T)=true):mroIn K C (.type T)=some true:=by
 obtain⟨bm,N,nm,q,bs,sn,sub,ab,col,dd,k0,k1,k2,k3,k5,cd,hC,Tl,hk,hm,hd,hN⟩:=x_at X hx;unfold mroIn;rw[hk,Option.bind_some,hm,if_neg (fun z=>by cases z),List.contains_cons,Tl.hasType hT,Bool.or_true]
theorem jxl{R:Result->Shared->Prop}{tk:Tok}(X:K.In s.heap)(I:InstAt s.heap x ox C od)(hx:xIn K C=true)(ht:takerIn K C name=some none)
  (h:∀ b,wpAny (model prog w) A.in1 (storeInOwnDict (.ref x) (.ref C) (.str name tk) name v b) (fun fin s'=>match fin with|.done f=>R (.ok f) s'|.again c'=>c'.quiet=true/\codeAny (model prog w) A c' R s') (fun e s'=>R (.error e) s') s) :
  codeAny (model prog w) A (.call (.builtin "object.__setattr__") ⟨[.ref x,.str name tk,v],[]⟩) R s:=by
 have SF:=PySem.F.store_object;have sub:Looks (model prog w) s.heap (isInstance (.ref x) (.type "object")) true:=I.type.andThen (W.looks_mroIn X (juz X hx (by decide)));obtain⟨bm,N,nm,q,bs,sn,sub',ab,col,dd,k0,k1,k2,k3,k5,cd,hC,Tl,hk,hm,hd,hN⟩:=x_at X hx;have hmr:Looks (model prog w) s.heap (mroOf (.ref C)) (.ref C::bm):=by
  have:=(W.looks_clsIn (M:=model prog w) X hk).andThen (f:=fun cd=>pure cd.mro) (b:=cd.mro) .now;rw[hm] at this;exact this
 refine codeAny_call_builtin SF.slot.plain SF.entry (@W.check_slot (model prog w) _ _ s "object.__setattr__" "object" "__setattr__" (.ref x) [.str name tk,v] [] _ SF.kind SF.split sub (SF.args (.ref x) (.str name tk) v) ?_);obtain⟨attr,ha,hr⟩:=Option.bind_eq_some_iff.mp ht;have L3:Looks (model prog w) s.heap (storeTaker? attr) none:=by
  cases attr with
  | none=>exact .now
  | some a =>
   obtain⟨b,hb,e⟩:=Option.map_eq_some_iff.mp hr
   cases b with
   | false=>exact (W.looks_takesIn X hb).andThen .now
   | true=>cases e
 rw[W.osa_eq,refuse_eq];refine zay (zay (I.type.here (zay (hmr.here ?_))));rw[refuseLoop_ref,jlq _ Tl];exact zab (zay (I.type.here (zay ((W.looks_findIn X ha).here (zay (L3.here (h _)))))))
theorem jlw{h:Heap}{vs:Array Value}{sl:Array (Option Value)}(e:h.get? x=some (xOb C none vs sl)):InstAt h x (xOb C none vs sl) C none:=⟨e,rfl,rfl,trivial⟩
theorem jjm{h:Heap}{vs:Array Value}{sl:Array (Option Value)}{dx:Addr}{o:Obj}(e:h.get? x=some (xOb C (some dx) vs sl))(e2:h.get? dx=some o):InstAt h x (xOb C (some dx) vs sl) C (some o):=⟨e,rfl,rfl,e2⟩
theorem jxm{vs:Array Value}{sl:Array (Option Value)}{Q:Unit->Shared->Prop}(X:K.In s.heap)(h0:s.heap.get? x=some (xOb C none vs sl))(hx:xIn K C=true)(hs:findIn K (.ref C) "__setattr__"=some (some (.builtin "object.__setattr__")))(ht:takerIn K C name=some none)
  (h:∀ h':Heap,h'.get? x=some (xOb C (some s.heap.objs.size) vs sl)->h'.Ns1 s.heap.objs.size (fun y=>if y=name then some v else none)->(∀ b ob,b≠x->s.heap.get? b=some ob->h'.get? b=some ob)->Q () { s with heap:=h',toks:=s.toks+2 }) :
  wpAny (model prog w) A (setAttr (.ref x) name v) Q E s:=by
 have I:=jlw h0;refine W.set_plain X I hs (jxl (s:={ s with toks:=s.toks+1 }) X I hx ht fun b=>?_);obtain⟨bm,N,nm,q,bs,sn,sub',ab,col,dd,k0,k1,k2,k3,k5,cd,hC,Tl,hk,hm,hd,hN⟩:=x_at X hx;have hxs:x≠s.heap.objs.size:=zcv (zbv h0);have h1:(s.heap.push { cls:=.type "dict",data:=.dict #[] }).get? x=some (xOb C none vs sl):=zaz _ h0;refine zay (zab (zay (zay (wpAny_loadPart h0 (zay (Looks.here (s:={ s with toks:=s.toks+1 }) (W.looks_clsIn X hk) ?_))))));rw[hd];refine (show wpAny (model prog w) A.in1 (alloc { cls:=Value.type "dict",data:=Data.dict #[] } >>= fun d=>update x (fun o=>{ cls:=o.cls,dict:=some d,data:=o.data,slots:=o.slots }) >>= fun _=>(pure (some d):Sem (Option Addr))) _ _ _ from ?_);refine zay (wpAny_alloc (zay (wpAny_update h1 (zab ?_))));have g1:((s.heap.push { cls:=.type "dict",data:=.dict #[] }).update x fun o=>{ cls:=o.cls,dict:=some s.heap.objs.size,data:=o.data,slots:=o.slots }).get? s.heap.objs.size=some { cls:=.type "dict",data:=.dict #[] }:=by
  rw[Heap.get?_update_ne _ _ _ _ hxs.symm];exact zbz _ rfl
 have g2:((s.heap.push { cls:=.type "dict",data:=.dict #[] }).update x fun o=>{ cls:=o.cls,dict:=some s.heap.objs.size,data:=o.data,slots:=o.slots }).Ns s.heap.objs.size (fun _=>none) :=
  ⟨_,#[],_,g1,rfl,(fun e he=>absurd he (by simp)),fun _=>rfl⟩
 show wpAny _ _ (storeInDict s.heap.objs.size (.str name s.toks) name v) _ _ _;unfold storeInDict newKeyGuard;refine zay (zab (zay (wpAny_nsSet1 (s:=⟨(s.heap.push { cls:=.type "dict",data:=.dict #[] }).update x fun o=>{ cls:=o.cls,dict:=some s.heap.objs.size,data:=o.data,slots:=o.slots },s.gens,s.drawn,s.toks+1,s.os⟩) (Heap.Ns1.of_empty g2) fun h' hn' hsb=>?_)));obtain⟨oD,esD,epD,hoD,hdD,hcD⟩:=hn'.count (PySem.Within.cons name v PySem.Within.nil);refine zay (wpAny_lookBehind hoD (by rw[hdD];exact pastItsLine_dict (Nat.le_trans hcD (by rw[List.length_cons,List.length_nil,sizeLine_eq];omega))) ?_);refine zab (h h' ?_ hn' fun b ob nb hb=>?_)
 ·refine (hsb.2 x hxs).trans (Heap.get?_update_self _ h1 rfl)
 ·exact (hsb.2 b (zcv (zbv hb))).trans ((Heap.get?_update_ne _ _ _ _ nb).trans (zaz _ hb))
theorem jxn{vs:Array Value}{sl:Array (Option Value)}{dx:Addr}{mA:Str->Option Value}{ns:List Str}{Q:Unit->Shared->Prop}(X:K.In s.heap)(h0:s.heap.get? x=some (xOb C (some dx) vs sl))(hn:s.heap.Ns1 dx mA)(hx:xIn K C=true)
  (hs:findIn K (.ref C) "__setattr__"=some (some (.builtin "object.__setattr__"))) (ht:takerIn K C name=some none) (hw:PySem.Within mA ns) (hsz:ns.length<=sizeLine)
  (h:∀ h':Heap,h'.Ns1 dx (fun y=>if y=name then some v else mA y)->Heap.SameBut dx s.heap h'->Q () { s with heap:=h',toks:=s.toks+2 }) :
  wpAny (model prog w) A (setAttr (.ref x) name v) Q E s:=by
 obtain⟨od,_,_,e1,_⟩:=id hn;have I:=jjm h0 e1;refine W.set_plain X I hs (jxl (s:={ s with toks:=s.toks+1 }) X I hx ht fun b=>?_);obtain⟨bm,N,nm,q,bs,sn,sub',ab,col,dd,k0,k1,k2,k3,k5,cd,hC,Tl,hk,hm,hd,hN⟩:=x_at X hx;refine zay (zab (zay (zay (wpAny_loadPart h0 (zay (Looks.here (s:={ s with toks:=s.toks+1 }) (W.looks_clsIn X hk) ?_))))));rw[hd];refine zab (a:=some dx) (zay (zab (zay (wpAny_nsSet1 (s:={ s with toks:=s.toks+1 }) hn fun h' hn2 hs2=>?_))));obtain⟨oD,esD,epD,hoD,hdD,hcD⟩:=hn2.count (PySem.Within.cons name v hw);exact zay (wpAny_lookBehind hoD (by rw[hdD];exact pastItsLine_dict (Nat.le_trans hcD (by rw[List.length_cons];omega))) (zab (h _ hn2 hs2)))
end
end L2
namespace L2
open PySem PySem.Spec PyProof.Rows Builtin Builtin.ObjectAttr
open PySem.W (Frag InstAt Looks findIn mroIn clsIn findObj takerIn specialIn takesIn hasDictIn isFn)
section
variable {prog:Program}{w:World}{A:Around}{E:Value->Shared->Prop}{s:Shared}{K:Frag}{x C f:Addr}{name:Str}{v:Value}{ox:Obj}{od:Option Obj}
theorem jqs:builtinKind "BaseException.__getattribute__"=some .slot:=by decide +kernel
theorem jpv:splitId "BaseException.__getattribute__"=some ("BaseException","__getattribute__"):=by decide +kernel
theorem x_ga{R:Result->Shared->Prop}{tk:Tok}(X:K.In s.heap)(I:InstAt s.heap x ox C od)(hx:xIn K C=true)
  (h:wpAny (model prog w) A.in1 (Builtin.«object.__getattribute__» ⟨[.ref x,.str name tk],[]⟩) (fun fin s'=>match fin with|.done f=>R (.ok f) s'|.again c'=>c'.quiet=true/\codeAny (model prog w) A c' R s') (fun e s'=>R (.error e) s') s) :
  codeAny (model prog w) A (.call (.builtin "BaseException.__getattribute__") ⟨[.ref x,.str name tk],[]⟩) R s:=by
 have sub:Looks (model prog w) s.heap (isInstance (.ref x) (.type "BaseException")) true:=I.type.andThen (W.looks_mroIn X (juz X hx (by decide)));exact codeAny_call_builtin PySem.F.excAttr_ValueError.ga.plain PySem.F.entry_bexc_ga (@W.check_slot (model prog w) _ _ s "BaseException.__getattribute__" "BaseException" "__getattribute__" (.ref x) [.str name tk] [] _ jqs jpv sub (PySem.F.args_bexc_ga _ _) h)
theorem x_by{tk:Tok}{fill expr:Bool}{Q:Value->Shared->Prop}(X:K.In s.heap)(I:InstAt s.heap x ox C od)(hx:xIn K C=true)(hga:findIn K (.ref C) "__getattribute__"=some (some (.builtin "BaseException.__getattribute__")))(hgh:findIn K (.ref C) "__getattr__"=some none)
  (h:wpAny (model prog w) A.in1 (Builtin.«object.__getattribute__» ⟨[.ref x,.str name tk],[]⟩) (fun fin s'=>match fin with|.done (.ret v)=>wpAny (model prog w) A (handedOut v) Q E s'|_=>False) (fun _ _=>False) s) :
  wpAny (model prog w) A (getAttrBy (.ref x) (.str name tk) fill expr) Q E s:=by
 have L0:=I.type (M:=model prog w);have L1:=W.looks_findIn (M:=model prog w) X hga;have L2:=W.looks_hook (M:=model prog w) (mc:=.ref C) (r:=none) X hgh;unfold getAttrBy;refine wpAny_holding (zay (L0.here (zay (L1.here ?_))));show wpAny _ _ (getAttrByItsOwn (.ref x) (.str name tk) (.ref C) (.builtin "BaseException.__getattribute__") fill expr) _ _ _;unfold getAttrByItsOwn;refine zay (L2.here (zay (wpAny_attempt (wpAny_holding ?_))));have e0:callGetattribute (.ref x) (.str name tk) (.builtin "BaseException.__getattribute__") expr=boundAndCalled (.builtin "BaseException.__getattribute__") (.ref x) (.str name tk):=by cases expr<;>rfl
 rw[e0];unfold boundAndCalled;rw[PySem.F.excAttr_ValueError.ga.bind];refine zay (zab (wpAny_call (x_ga X I hx (wpAny_mono h (fun fin s' z=>?_) fun _ _ z=>z.elim))));rcases fin with (_|_|_|_)|_<;>first|exact z|exact z.elim
theorem jsk{tk:Tok}{r:Found}{Q:PySem.Fin->Shared->Prop}(X:K.In s.heap)(I:InstAt s.heap x ox C od)(hf:findObj K C od name=some r)
  (h:wpAny (model prog w) A (match r with|.value v=>ret v|.bind g a=>bindTo g a (.ref x) (.ref C)|.missing=>unsupported "no") Q E s) (hr:r≠.missing) :
  wpAny (model prog w) A (Builtin.«object.__getattribute__» ⟨[.ref x,.str name tk],[]⟩) Q E s:=by
 have L0:=I.type (M:=model prog w);have L1:=W.looks_find (M:=model prog w) X I hf;refine zay (zab (zay (zab (zay (L0.here (zay (L1.here ?_)))))))
 cases r with
 | value v=>exact h
 | bind g a=>exact h
 | missing=>exact absurd rfl hr
theorem jxj{h:Heap}(X:K.In h)(hx:xIn K C=true):hasDictIn K C=true:=by
 obtain⟨bm,N,nm,q,bs,sn,sub',ab,col,dd,k0,k1,k2,k3,k5,cd,hC,Tl,hk,hm,hd,hN⟩:=x_at X hx;unfold hasDictIn;rw[hk];exact hd
theorem jzj{vs:Array Value}{sl:Array (Option Value)}{dx:Addr}{mA:Str->Option Value}{expr:Bool}{Q:Value->Shared->Prop}(X:K.In s.heap)(h0:s.heap.get? x=some (xOb C (some dx) vs sl))(hn:s.heap.Ns1 dx mA)(hx:xIn K C=true)
  (hga:findIn K (.ref C) "__getattribute__"=some (some (.builtin "BaseException.__getattribute__"))) (hgh:findIn K (.ref C) "__getattr__"=some none) (ha:findIn K (.ref C) name=some none) (hv:mA name=some v) (hh:W.handedIn v=true)
  (h:Q v { s with toks:=s.toks+1 }):wpAny (model prog w) A (getAttr (.ref x) name expr) Q E s:=by
 obtain⟨o,ho,hl⟩:=jol hn;have I:=jjm h0 ho;unfold getAttr;refine zay (wpAny_mkText (x_by (s:={ s with toks:=s.toks+1 }) X I hx hga hgh (jsk (s:={ s with toks:=s.toks+1 }) X I (r:=.value v) (W.findObj_own (jxj X hx) ha rfl (by rw[hl,hv])) (zab (W.handed_on hh h)) (fun z=>nomatch z))))
theorem juw{Q:Option Value->Shared->Prop}(X:K.In s.heap)(I:InstAt s.heap x ox C od)(hx:xIn K C=true)(hga:findIn K (.ref C) "__getattribute__"=some (some (.builtin "BaseException.__getattribute__")))(hgh:findIn K (.ref C) "__getattr__"=some none)
  (ha:findIn K (.ref C) "__class__"=some (some (.builtin "object.__class__"))) (hn:specialIn K (.builtin "object.__class__") "__get__"=some (some (.builtin "getset_descriptor.__get__"))) (htk:takesIn K (.builtin "object.__class__")=some true)
  (h:Q (some (.ref C)) { s with toks:=s.toks+1 }):wpAny (model prog w) A (getAttr? (.ref x) "__class__") Q E s:=by
 obtain⟨bm,N,nm,q,bs,sn,sub',ab,col,dd,k0,k1,k2,k3,k5,cd,hC,Tl,hk,hm,hd,hN⟩:=x_at X hx;have hf:findObj K C od "__class__"=some (.bind (.builtin "getset_descriptor.__get__") (.builtin "object.__class__")):=by
  unfold W.findObj;rw[hk,Option.bind_some,ha,Option.bind_some];dsimp only;rw[hn,Option.bind_some];dsimp only;rw[htk];rfl
 unfold getAttr? getAttrBy?;refine zay (wpAny_mkText (zay (wpAny_attempt (x_by (s:={ s with toks:=s.toks+1 }) X I hx hga hgh (jsk (s:={ s with toks:=s.toks+1 }) X I hf (show wpAny _ _ (holding [Value.builtin "object.__class__"] (call (.builtin "getset_descriptor.__get__") [.builtin "object.__class__",.ref x,.ref C]) >>= ret) _ _ _ from ?_) (fun z=>nomatch z))))));refine zay (wpAny_holding (wpAny_call (W.class_get (s:={ s with toks:=s.toks+1 }) X I (juz X hx (by decide)) (zab (W.handed_on rfl (zab h))))))
theorem jry(hx:xIn K C=true)(hga:findIn K (.ref C) "__getattribute__"=some (some (.builtin "BaseException.__getattribute__")))(hgh:findIn K (.ref C) "__getattr__"=some none)
  (ha:findIn K (.ref C) "__class__"=some (some (.builtin "object.__class__"))) (hn:specialIn K (.builtin "object.__class__") "__get__"=some (some (.builtin "getset_descriptor.__get__"))) (htk:takesIn K (.builtin "object.__class__")=some true) :
  W.KitX K (.ref x) (.ref C) (fun h=>∃ ox od,InstAt h x ox C od) where
 ty:=fun _ _ _ ⟨_,_,I⟩=>I.type
 it:=fun _ _ X _=>by
  obtain⟨bm,N,nm,q,bs,sn,sub',ab,col,dd,k0,k1,k2,k3,k5,cd,hC,Tl,hk,hm,hd,hN⟩:=x_at X hx;intro A' Q' E' s' k z;unfold isType loadHead;exact zay (wpAny_loadPart (k _ _ hC) (zab z))
 ne:=fun h tp dd its n sl X htp=>by
  obtain⟨bm,N,nm,q,bs,sn,sub',ab,col,dd',k0,k1,k2,k3,k5,cd,hC,Tl,hk,hm,hd,hN⟩:=x_at X hx;refine Bool.eq_false_iff.mpr fun q=>?_
  rw[<- Value.ref.inj (beq_iff_eq.mp q),hC] at htp;exact absurd (Value.type.inj (congrArg Obj.cls (zby htp))) (by decide)
 ca:=fun X ⟨_,_,I⟩ z=>juw X I hx hga hgh ha hn htk z
end
end L2
namespace L2
open PySem PySem.Spec PyProof.Rows
open PySem.W (Frag InstAt Looks findIn mroIn clsIn findObj takerIn specialIn takesIn hasDictIn isFn)
structure XCls(K:Frag)(C:Addr):Prop where
 x:xIn K C=true
 sa:findIn K (.ref C) "__setattr__"=some (some (.builtin "object.__setattr__"))
 ga:findIn K (.ref C) "__getattribute__"=some (some (.builtin "BaseException.__getattribute__"))
 gh:findIn K (.ref C) "__getattr__"=some none
 cl:findIn K (.ref C) "__class__"=some (some (.builtin "object.__class__"))
 kp:W.keepIn K (.ref C)=true
noncomputable def xCls(K:Frag)(C:Addr):Bool:=xIn K C&&findIn K (.ref C) "__setattr__" == some (some (.builtin "object.__setattr__"))&&findIn K (.ref C) "__getattribute__" == some (some (.builtin "BaseException.__getattribute__"))&&findIn K (.ref C) "__getattr__" == some none&&findIn K (.ref C) "__class__" == some (some (.builtin "object.__class__"))&&W.keepIn K (.ref C)
theorem ju1{K:Frag}{C:Addr}(h:xCls K C=true):XCls K C:=by
 unfold xCls at h;simp only[Bool.and_eq_true,beq_iff_eq] at h;obtain⟨⟨⟨⟨⟨h1,h2⟩,h3⟩,h4⟩,h5⟩,h6⟩:=h;exact⟨h1,h2,h3,h4,h5,h6⟩
section
variable {X:Cx}{pins:List (Addr×Obj)}{σ:St}{H:Hp}{s:Shared}{h':Heap}{A:Around}{E:Value->Shared->Prop}{a C dx:Addr}{fs:List (Str×V)}{f:Str}
theorem jk9{P:Program}{w:World}{φ:Heap->Prop}{h:Heap}(e:φ h)(o:∃ ob,h.get? a=some ob)(k:∀ h1 h2:Heap,φ h1->(∀ ob,h1.get? a=some ob->h2.get? a=some ob)->φ h2):ObjOk P w H h a (.ext φ):=⟨e,o,k⟩
theorem jk2{P:Program}{w:World}{h:Heap}{od:Option Addr}{fr:Bool}{vs:Array Value}{sl:Array (Option Value)}(e:h.get? a=some (xOb C od vs sl))(ef:fr=true->vs[1]? = some .none):ObjOk P w H h a (XO a C od fr):=jk9 ⟨vs,sl,e,ef⟩ ⟨_,e⟩ fun _ _ ⟨vs,sl,e,ef⟩ k=>⟨vs,sl,k _ e,ef⟩
theorem jsl{P:Program}{w:World}{h:Heap}(e:XDv a fs h):ObjOk P w H h a (XDc a fs):=by
 refine jk9 e ?_ ?_
 ·obtain⟨mA,⟨o,_,_,q,_⟩,_⟩:=e;exact⟨o,q⟩
 ·rintro h1 h2 ⟨mA,n,r,w',l⟩ k;exact⟨mA,n.at k,r,w',l⟩
theorem jk1{od:Option Addr}{fr:Bool}(I:Inv X pins σ H s)(e:H a=some (XO a C od fr)):∃ vs sl,s.heap.get? a=some (xOb C od vs sl)/\(fr=true->vs[1]? = some .none):=(show ObjOk X.prog X.w H s.heap a (XO a C od fr) from I.hok a _ e).1
theorem jrj(I:Inv X pins σ H s)(e:H dx=some (XDc dx fs)):XDv dx fs s.heap:=(show ObjOk X.prog X.w H s.heap dx (XDc dx fs) from I.hok dx _ e).1
theorem Inv.laidX{o:HO}{t':Nat}(I:Inv X pins σ H s)(k:∀ b u,s.heap.get? b=some u->h'.get? b=some u)(hD:s.heap.get? a=none)(new:ObjOk X.prog X.w (upd H a o) h' a o):Inv X pins σ (upd H a o) { s with heap:=h',toks:=t' }:=by
 have hn:H a=none:=by
  cases e:H a with
  | none=>rfl
  | some u=>obtain⟨o,q⟩:=(I.hok a u e).here;rw[hD] at q;cases q
 have nD:∀ b o,s.heap.get? b=some o->b≠a:=fun b o e z=>by rw[z,hD] at e;cases e
 have nD':∀ b u,H b=some u->b≠a:=fun b u e z=>by rw[z,hn] at e;cases e
 refine I.un ⟨fun b u q _ _ _=>k b u q,fun b u q _ _ _=>⟨u.slots,k b u q⟩,fun b u q n _=>by rw[jag (nD b u q)];exact n,fun b u q _=>⟨u,k b u q⟩,fun b xs q=>by rw[jag (nD' b _ q)];exact q,fun b u xs q=>by rw[jag (nD' b _ q)];exact q,fun b ps q=>⟨#[],by rw[jag (nD' b _ q),q];simp⟩⟩ fun b u e=>?_
 by_cases z:b=a
 ·subst z;rw[jak] at e;cases e;exact new
 ·rw[jag z] at e;exact (I.hok b u e).stay (fun c v _ q=>k c v q) (fun c q=>by rw[jag (nD' c _ q)];exact q) fun c xs q=>by rw[jag (nD' c _ q)];exact q
theorem jg8{h:Heap}{b:Addr}(I:Inv X pins σ H s)(hD:s.heap.get? b=none):H b=none:=by
 cases e:H b with
 | none=>rfl
 | some u=>obtain⟨o,q⟩:=(I.hok b u e).here;rw[hD] at q;cases q
theorem jrk{y:V}{u:Value}{fr:Bool}{Q:Unit->Shared->Prop}(I:Inv X pins σ H s)(e:H a=some (XO a C none fr))(c:XCls X.K C)(ht:takerIn X.K C f=some none)(ry:RelV y u)
  (h:∀ d s',H d=none->Inv X pins σ (upd (upd H d (XDc d [(f,y)])) a (XO a C (some d) fr)) s'->Q () s'):wpAny (model X.prog X.w) A (setAttr (.ref a) f u) Q E s:=by
 obtain⟨vs,sl,h0,hf0⟩:=jk1 I e;refine jxm I.kIn h0 c.x c.sa ht fun h' e1 n1 k1=>?_
 have hD:s.heap.get? s.heap.objs.size=none:=Heap.get?_none_of_le (zac _);have hn:=jg8 (h:=s.heap) I hD;have ne:a≠s.heap.objs.size:=fun z=>by rw[z,hD] at h0;cases h0
 have nd:XDv s.heap.objs.size [(f,y)] h':=by
  refine⟨_,n1,fun g=>?_,fun g hg=>?_,Nat.le_of_ble_eq_true rfl⟩
  ·show RelO (List.lookup g [(f,y)]) (if g=f then some u else none)
   by_cases q:g=f
   ·subst q;rw[if_pos rfl,List.lookup_cons,beq_self_eq_true];exact ry
   ·rw[if_neg q,List.lookup_cons,show (g == f)=false by simpa using q];exact True.intro
  ·by_cases q:g=f
   ·subst q;exact List.mem_singleton.mpr rfl
   ·exact absurd (if_neg q) hg
 refine h s.heap.objs.size _ hn ?_;have nD:∀ b o,s.heap.get? b=some o->b≠s.heap.objs.size:=fun b o q z=>by rw[z,hD] at q;cases q
 have nD':∀ b u,H b=some u->b≠s.heap.objs.size:=fun b u q z=>by rw[z,hn] at q;cases q
 have na:∀ b,H b=none->b≠a:=fun b q z=>by rw[z,e] at q;cases q
 have nx:∀ b u,H b=some u->(∀ φ,u≠.ext φ)->b≠a:=fun b u q hu z=>by rw[z,e] at q;cases q;exact hu _ rfl
 refine I.un ⟨fun b u q n _ _=>k1 b u (na b n) q,fun b u q n _ _=>⟨u.slots,k1 b u (na b n) q⟩,fun b u q n _=>by rw[jag (na b n),jag (nD b u q)];exact n,fun b u q _=>?_,fun b xs q=>by rw[jag (nx b _ q fun _ z=>nomatch z),jag (nD' b _ q)];exact q,
  fun b u xs q=>by rw[jag (nx b _ q fun _ z=>nomatch z),jag (nD' b _ q)];exact q,fun b ps q=>⟨#[],by rw[jag (nx b _ q fun _ z=>nomatch z),jag (nD' b _ q),q];simp⟩⟩ fun b w eb=>?_
 ·by_cases z:b=a
  ·rw[z];exact⟨_,e1⟩
  ·exact⟨u,k1 b u z q⟩
 ·by_cases z:b=a
  ·subst z;rw[jak] at eb;cases eb;exact jk2 e1 hf0
  ·rw[jag z] at eb
   by_cases z2:b=s.heap.objs.size
   ·subst z2;rw[jak] at eb;cases eb;exact jsl nd
   ·rw[jag z2] at eb;refine (I.hok b w eb).stay (fun c v hc q=>k1 c v ?_ q) (fun c q=>by rw[jag (nx c _ q fun _ z=>nomatch z),jag (nD' c _ q)];exact q) fun c xs q=>by rw[jag (nx c _ q fun _ z=>nomatch z),jag (nD' c _ q)];exact q
    rcases hc with r|r
    ·rw[r];exact z
    ·exact nx c _ r fun _ z=>nomatch z
theorem jrl{y:V}{u:Value}{fr:Bool}{Q:Unit->Shared->Prop}(I:Inv X pins σ H s)(e:H a=some (XO a C (some dx) fr))(ed:H dx=some (XDc dx fs))(c:XCls X.K C)(ht:takerIn X.K C f=some none)(hl:fs.length<1000)(ry:RelV y u)
  (h:∀ s',Inv X pins σ (upd H dx (XDc dx (putF f y fs))) s'->Q () s'):wpAny (model X.prog X.w) A (setAttr (.ref a) f u) Q E s:=by
 obtain⟨vs,sl,h0,hf0⟩:=jk1 I e;obtain⟨mA,n,r,wi,_⟩:=jrj I ed;refine jxn I.kIn h0 n c.x c.sa ht wi (by rw[zav,sizeLine_eq];omega) fun h' n' sb=>h _ ?_
 have hd:∃ o,h'.get? dx=some o:=let ⟨o,_,_,e',_⟩:=n';⟨o,e'⟩
 refine I.write (x:=dx) (e:=dx) (by rw[ed];exact True.intro) (.inl rfl) (fun b q hb z=>(sb.2 b hb).trans z) hd (jsl ⟨_,n',fun g=>?_,fun g hg=>?_,?_⟩)
 ·show RelO ((putF f y fs).lookup g) (if g=f then some u else mA g);rw[jhs]
  by_cases q:g=f
  ·rw[if_pos q,if_pos q];exact ry
  ·rw[if_neg q,if_neg q];exact r g
 ·by_cases q:g=f
  ·rw[q];exact (jhq f y fs).1
  ·exact (jhq f y fs).2 g (wi g fun z=>hg ((if_neg q).trans z))
 ·have:=jhr f y fs;omega
theorem ju2{v:V}{ex fr:Bool}{Q:Value->Shared->Prop}(I:Inv X pins σ H s)(e:H a=some (XO a C (some dx) fr))(ed:H dx=some (XDc dx fs))(c:XCls X.K C)(ht:findIn X.K (.ref C) f=some none)(l:fs.lookup f=some v)
  (h:∀ u s',Inv X pins σ H s'->RelV v u->Q u s'):wpAny (model X.prog X.w) A (getAttr (.ref a) f ex) Q E s:=by
 obtain⟨vs,sl,h0,hf0⟩:=jk1 I e;obtain⟨mA,n,r,wi,_⟩:=jrj I ed;obtain⟨u,hu,ru⟩:=RelO.some_of (v:=v) (o:=mA f) (by rw[<- l];exact r f);exact jzj I.kIn h0 n c.x c.ga c.gh ht hu (jn7 ru) (h u _ (I.tok _) ru)
theorem jop{h h':Heap}{us:List Value}(m:Heap.MadeExcOf h h' a (.ref C) us):∃ vs sl,h'.get? a=some (xOb C none vs sl)/\vs[1]? = some .none:=by
 obtain⟨_,_,t,e,_⟩:=m;exact⟨_,_,e,rfl⟩
end
structure XMk(K:Frag)(C f:Addr):Prop where
 c:XCls K C
 init:findIn K (.ref C) "__init__"=some (some (.ref f))
 fn:isFn K (.ref f)=true
section
variable {X:Cx}{CX:CXT}{k:Nat}{f C:Addr}{fd:FuncData}{ps:List Str}{sp:Sp}{E:XK}{x m:Str}{p pos:Pos}{e o value:Expr}{es:List Expr}{ta tv:TE}{t:TA}
theorem jpm{pins:List (Addr×Obj)}{σ:St}{H:Hp}{s:Shared}{Q:VK}{us:List Value}{vs:List V}(M:XMk X.K C f)(F:FnOk X.prog X.w X.K X.mg X.base CX k f fd ps sp)(hr:Room (k+1) X.A)(hb:Binds X.K fd ps [])
  (hx:jly CX X E) (I:Inv X pins σ H s) (r:Vals vs us) (hz:vs.length<=1000)
  (h:∀ a,H a=none->sp (.ref a::vs) (upd H a (XO a C none true)) (fun v H2=>v=.non/\Q (.ref a) H2) E) :
  wpAny (model X.prog X.w) X.A (call (.ref C) us) (EP X pins σ Q) X.xe s:=by
 refine jxk I.kIn M.c.x M.init M.fn (fun h' a m=>?_) (by rw[<- r.length,sizeLine_eq];omega);have hn:=jg8 (h:=s.heap) I m.new;have hq:=h a hn;obtain⟨w1,w2,w3,w4⟩:=jop m;have I2:Inv X pins σ (upd H a (XO a C none true)) { s with heap:=h' }:=I.laidX (t':=s.toks) m.keeps m.new (jk2 w3 fun _=>w4);have r2:Vals (V.ref a::vs) (Value.ref a::us):=.cons rfl r;have hl:(Value.ref a::us++[]).length=ps.length:=by
  rw[List.append_nil];have e:=r2.length;rw[F.len _ _ _ _ hq] at e;exact e.symm
 refine wpAny_call (codeAny_mono (F.run _ X.stack _ _ ⟨Value.ref a::us,[]⟩ (Value.ref a::us++[]) _ _ E (hr.make C us []) (I2.env0.make C us []) (hb _ (Value.ref a::us) I2.kIn hl) (by rw[List.append_nil];exact r2) hq) fun r s' hq'=>?_)
 cases r with
 | error e=>exact hx pins σ _ _ e s' I2 hq'
 | ok fl =>
  cases fl with
  | ret u =>
   obtain⟨v,H',I3,rv,ev,q3⟩:=I2.after hq';subst ev;exact⟨rv,⟨V.ref a,H',I3,rfl,q3⟩⟩
  | next=>exact False.elim hq'
  | brk=>exact False.elim hq'
  | cont=>exact False.elim hq'
noncomputable def jxc(C:Addr)(sp:Sp)(E:XK)(t:TA):TE:=fun σ H Q=>t σ H fun vs H1=>vs.length<=1000/\∀ a,H1 a=none->sp (.ref a::vs) (upd H1 a (XO a C none true)) (fun v H2=>v=.non/\Q (.ref a) H2) E
theorem jq5(M:XMk X.K C f)(F:FnOk X.prog X.w X.K X.mg X.base CX k f fd ps sp)(hr:Room (k+1) X.A)(hg:Gl X x)(hm:X.mg x=some (.ref C))(hb:Binds X.K fd ps [])(hx:jly CX X E)
  (ha:PA X (e::es) t) (hdb:autoParam ((x == ("__debug__":Str))=false) zau1._auto_1) (he:autoParam (starEach (e::es) X.env=(false,eval e X.env)::starEach es X.env) zau2._auto_1) (hpl:autoParam ((backTo pos (starEach es X.env)).any (·.1)=false) zau2._auto_1) :
  PE X (.Call (.Name x p) (e::es) [] pos) (jxc C sp E t):=by
 intro pins s σ H Q I h;refine wpAny_Call_Name_kw (jgg I hg hm ?_ hdb);exact W.callWith_K (h₀:=X.base) I.ok.mod.kin M.c.kp (thn (ha pos pins s σ H _ I h) fun us s1 ⟨vs,H1,I1,r,hz,q⟩=>⟨I1.kIn,jpm M F hr hb hx I1 r hz q⟩) he hpl
theorem jud(c:XCls X.K C)(hi:xNoI X.K C=true)(hg:Gl X x)(hm:X.mg x=some (.ref C))(hdb:autoParam ((x == ("__debug__":Str))=false) zau1._auto_1) :
  PE X (.Call (.Name x p) [] [] pos) (fun σ H Q=>∀ a,H a=none->Q (.ref a) (upd H a (XO a C none true))):=by
 intro pins s σ H Q I h;refine wpAny_Call_Name_kw (jgg I hg hm (W.callWith_K0 I.kIn c.kp (juy I.kIn c.x hi (fun h' a m=>?_) (Nat.zero_le _))) hdb);obtain⟨w1,w2,w3,w4⟩:=jop m;exact⟨.ref a,_,I.laidX (t':=s.toks) m.keeps m.new (jk2 w3 fun _=>w4),rfl,h a (jg8 (h:=s.heap) I m.new)⟩
inductive tXFld(K:Frag)(ta:TE)(g:Str)(σ:St)(H:Hp)(Q:VK):Prop
 | mk (h:ta σ H fun x H1=>∃ a C dx fr fs v,x=.ref a/\H1 a=some (XO a C (some dx) fr)/\H1 dx=some (XDc dx fs)/\XCls K C/\findIn K (.ref C) g=some none/\fs.lookup g=some v/\Q v H1)
theorem juc{g:Str}(he:PE X e ta)(hb:attributeBase e g X.env (eval e X.env)=eval e X.env):PE X (.Attribute e g pos) (tXFld X.K ta g):=by
 intro pins s σ H Q I h;refine jsr hb (thn (he pins s σ H _ I h.1) fun u s1 hzz=>?_);obtain⟨x,H1,I1,rx,a,C,dx,fr,fs,v,ex,ea,ed,c,n,l,q⟩:=hzz;subst ex;cases rx;exact ju2 I1 ea ed c n l fun u' s2 I2 ru=>⟨v,H1,I2,ru,q⟩
inductive XPut(K:Frag)(H:Hp)(a:Addr)(g:Str)(y:V)(Q:Hp->Prop):Prop
 | first (C:Addr) (fr:Bool) (ea:H a=some (XO a C none fr)) (c:XCls K C) (ht:takerIn K C g=some none) (q:∀ d,H d=none->Q (upd (upd H d (XDc d [(g,y)])) a (XO a C (some d) fr)))
 | more (C dx:Addr) (fr:Bool) (fs:List (Str×V)) (ea:H a=some (XO a C (some dx) fr)) (ed:H dx=some (XDc dx fs)) (c:XCls K C) (ht:takerIn K C g=some none) (l:fs.length<1000) (q:Q (upd H dx (XDc dx (putF g y fs))))
theorem juj{g:Str}{pos':Pos}(ha:PE X o ta)(hv:PE X value tv)(hs:swapsWith value (some (.Attribute o g pos')) pos.line X.env=pure false) :
  PS X (.Assign [.Attribute o g pos'] value pos) (fun D σ H=>tv σ H fun y H1=>ta σ H1 fun x H2=>∃ a,x=.ref a/\XPut X.K H2 a g y (D.nx σ)):=by
 intro pins s σ H D I h;refine plainObj_wpAny_Assign_Attribute (thn (hv pins s σ H _ I h) fun u s1 ⟨y,H1,I1,ry,q⟩=>thn (ha pins s1 σ H1 _ I1 q) fun ov s2 hzz=>?_) hs;obtain⟨x,H2,I2,rx,a,ex,q2⟩:=hzz;subst ex;cases rx
 cases q2 with
 | first C fr ea c ht q=>exact jrk I2 ea c ht ry fun d s3 hd I3=>⟨σ,_,I3,q d hd⟩
 | more C dx fr fs ea ed c ht l q=>exact jrl I2 ea ed c ht l ry fun s3 I3=>⟨σ,_,I3,q⟩
theorem jns(hn:specialIn X.K (.builtin "object.__class__") "__get__"=some (some (.builtin "getset_descriptor.__get__")))(htk:takesIn X.K (.builtin "object.__class__")=some true) :
  CallR X (.builtin "isinstance") (fun xs H Q=>∃ a C od fr v c b,xs=[.ref a,v]/\H a=some (XO a C od fr)/\XCls X.K C/\(∀ dx,od=some dx->∃ fs,H dx=some (XDc dx fs))/\(∀ u,RelV v u->u=c)/\W.kitOne X.K (.ref C) c=some b/\Q (.bl b) H):=by
 intro pins s σ H xs us Q I r h;obtain⟨a,C,od,fr,v,c,b,rfl,ea,cl,hd,hv,hk,q⟩:=h;obtain⟨u,c',rfl,ru,rc⟩:=r.two;cases ru;rw[hv c' rc];obtain⟨vs,sl,h0,hf0⟩:=jk1 I ea;have J:∃ ox od',InstAt s.heap a ox C od':=by
  cases od with
  | none=>exact⟨_,_,jlw h0⟩
  | some dx =>
   obtain⟨fs,ed⟩:=hd dx rfl;obtain⟨mA,⟨o,_,_,e,_⟩,_⟩:=jrj I ed;exact⟨_,_,jjm h0 e⟩
 exact W.kia_one (jry cl.x cl.ga cl.gh cl.cl hn htk) I.kIn J hk (fun z=>nomatch z) fun tk=>⟨.bl b,H,I.tok _,rfl,q⟩
end
end L2
namespace DL
open PySem PySem.Spec L2
structure ErrT(K:W.Frag)(mg:Str->Option Value)(cs fs:List Str)(b:Str):Prop where
 ats:∀ c∈cs,∃ C,mg c=some (.ref C)
 atb:∃ C,mg b=some (.ref C)
 cls:∀ c∈cs,∀ C,mg c=some (.ref C)->XCls K C
 fld:∀ c∈cs,∀ C,mg c=some (.ref C)->∀ f∈fs,W.findIn K (.ref C) f=some none
 pair:∀ c∈cs,∀ d∈cs,∀ C,mg c=some (.ref C)->∃ D,mg d=some (.ref D)/\W.kitOne K (.ref C) (.ref D)=some (c == d)
 base:∀ c∈cs,∀ C,mg c=some (.ref C)->∃ D,mg b=some (.ref D)/\W.kitOne K (.ref C) (.ref D)=some true
 val:∀ c∈cs,∀ C,mg c=some (.ref C)->W.kitOne K (.ref C) (.type "ValueError")=some true
 sp:W.specialIn K (.builtin "object.__class__") "__get__"=some (some (.builtin "getset_descriptor.__get__"))
 tk:W.takesIn K (.builtin "object.__class__")=some true
noncomputable def xOne(K:W.Frag)(es:List (Str×Addr))(B:Addr)(fs:List Str)(p:Str×Addr):Bool :=
 xCls K p.2&&fs.all (fun f=>W.findIn K (.ref p.2) f == some none)&&W.kitOne K (.ref p.2) (.ref B) == some true&&W.kitOne K (.ref p.2) (.type "ValueError") == some true&&es.all fun q=>W.kitOne K (.ref p.2) (.ref q.2) == some (p.1 == q.1)
noncomputable def xTab(K:W.Frag)(es:List (Str×Addr))(B:Addr)(fs:List Str):Bool :=
 es.all (xOne K es B fs)&&W.specialIn K (.builtin "object.__class__") "__get__" == some (some (.builtin "getset_descriptor.__get__"))&&W.takesIn K (.builtin "object.__class__") == some true
theorem jtd{K:W.Frag}{mg:Str->Option Value}{es:List (Str×Addr)}{B:Addr}{fs:List Str}{b:Str}(hm:∀ p∈es,mg p.1=some (.ref p.2))(hb:mg b=some (.ref B))(h:xTab K es B fs=true):ErrT K mg (es.map (·.1)) fs b:=by
 unfold xTab at h;rw[Bool.and_eq_true,Bool.and_eq_true,List.all_eq_true,beq_iff_eq,beq_iff_eq] at h;obtain⟨⟨h1,h2⟩,h3⟩:=h;have one:∀ c∈es.map (·.1),∀ C,mg c=some (.ref C)->xOne K es B fs (c,C)=true:=fun c hc C hC=>by
  obtain⟨p,hp,rfl⟩:=List.mem_map.mp hc;rw[hm p hp] at hC;cases hC;exact h1 p hp
 have all:∀ c∈es.map (·.1),∀ C,mg c=some (.ref C)->(((xCls K C=true/\fs.all (fun f=>W.findIn K (.ref C) f == some none)=true)/\W.kitOne K (.ref C) (.ref B)=some true)/\W.kitOne K (.ref C) (.type "ValueError")=some true)/\(es.all fun q=>W.kitOne K (.ref C) (.ref q.2) == some (c == q.1))=true:=fun c hc C hC=>by
  have:=one c hc C hC;unfold xOne at this;rw[Bool.and_eq_true,Bool.and_eq_true,Bool.and_eq_true,Bool.and_eq_true,beq_iff_eq,beq_iff_eq] at this;exact this
 refine⟨fun c hc=>by obtain⟨p,hp,rfl⟩:=List.mem_map.mp hc;exact⟨_,hm p hp⟩,⟨B,hb⟩,fun c hc C hC=>ju1 (all c hc C hC).1.1.1.1,fun c hc C hC f hf=>?_,fun c hc d hd C hC=>?_,fun c hc C hC=>⟨B,hb,(all c hc C hC).1.1.2⟩,fun c hc C hC=>(all c hc C hC).1.2,h2,h3⟩
 ·exact beq_iff_eq.mp (List.all_eq_true.mp (all c hc C hC).1.1.1.2 f hf)
 ·obtain⟨q,hq,rfl⟩:=List.mem_map.mp hd;exact⟨q.2,hm q hq,beq_iff_eq.mp (List.all_eq_true.mp (all c hc C hC).2 q hq)⟩
noncomputable def jm0(c:Str)(m:List D->MS D)(ds:List D):MS D:=fun Ω=>((m (.obj Ω.length::ds)).b fun d=>match d with
 | .non=>MS.p (.obj Ω.length)
 | _=>fun _=>none) (Ω++[.exc c (none,true)])
noncomputable def jka(c:Str)(m:List D->MS D)(fl:DSt->MS (List D)):DSt->MS D:=fun δ=>(fl δ).b fun ds=>jm0 c m ds
noncomputable def jwe(c:Str):DSt->MS D:=fun _ Ω=>some (.ok (.obj Ω.length),Ω++[.exc c (none,true)])
inductive IniY(P:Program)(w:World)(K:W.Frag)(mg:Str->Option Value)(base:Heap)(k:Nat)(c:Str)(n:Nat)(sp:Sp):Prop
 | mk (C f:Addr) (fd:FuncData) (ps:List Str) (h1:ps.length=n) (h2:mg c=some (.ref C)) (h3:XMk K C f) (h4:Binds K fd ps []) (h5:FnOk P w K mg base CX0 k f fd ps sp)
structure IniXE(P:Program)(w:World)(K:W.Frag)(mg:Str->Option Value)(base:Heap)(k:Nat)(c:Str)(n:Nat)(m:List D->MS D):Prop where
 ex:IniY P w K mg base k c n (spE K mg n m)
 ar:∀ ds Ω r,m ds Ω=some r->ds.length=n
 sm:n<=1000
structure IniXAt(K:W.Frag)(mg:Str->Option Value)(c q:Str)(st:Stmt)(ps:List Str):Prop where
 ex:∃ C f fd,mg c=some (.ref C)/\XMk K C f/\Fun K "__init__" q st f fd/\Binds K fd ps []
section
variable {P:Program}{w:World}{K:W.Frag}{mg:Str->Option Value}{base:Heap}
theorem jqn{c q:Str}{st:Stmt}{N ps:List Str}{k:Nat}{O':List Nat}{g:DSt->MS Out}(hf:IniXAt K mg c q st ps)(S:FnScope N ps (jac st))
  (hbody:∀ (f:Addr) (cdv:Value) (A:Around) (outer:List Env) (s:Shared) (H:Hp) (E:XK),Room k (A.deeper (PyProof.Rows.envOfC q (jac st) s.heap.objs.size f cdv)) ->
   MSs (cxOf CX0 P w K mg base N q (jac st) f cdv A outer s H E).nox [] O' [] (jai st) g) (hs:ps.length<=1000):IniXE P w K mg base (k+1) c ps.length (mirE ps.length N.length g):=by
 obtain⟨C,f,fd,hm,hM,F,hb⟩:=hf.ex;exact⟨⟨C,f,fd,ps,rfl,hm,hM,hb,fn_E F S hbody⟩,jlh,hs⟩
end
section
variable {X:Cx}{O:List Nat}{e:Expr}{es:List Expr}{fl:DSt->MS (List D)}{pos p:Pos}{x c f:Str}{k n:Nat}
variable {ρz ρ:Rho}{Sz S F:Addr->Bool}{Hz H:Hp}{σ:St}{δ:DSt}{Ω Ω':Sto}{d:Str}
theorem RM.newX{Ca x:Addr}(R:RM ρz Sz Hz F X.K X.mg O ρ S H σ δ Ω)(hm:X.mg c=some (.ref Ca))(hx:H x=none):RM ρz Sz Hz F X.K X.mg O (addR ρ Ω.length x) (addS S x x) (upd H x (XO x Ca none true)) σ δ (Ω++[.exc c (none,true)])/\RLe ρ (addR ρ Ω.length x) /\
   Same (hid H (fob (un F S) σ O)) (hid (upd H x (XO x Ca none true)) (fob (un F (addS S x x)) σ O)) :=
 R.newS (nso:=.exc c (none,true)) hx fun ρ' S' Hv' l v=>ExcOk.no true Ca hm jak
theorem jqw{m:List D->MS D}{Ca:Addr}{vs:List V}{ds:List D}{r:Except XD D}{Q:VK}(hm:X.mg c=some (.ref Ca))(ar:∀ ds Ω r,m ds Ω=some r->ds.length=n)(R:RM ρz Sz Hz F X.K X.mg O ρ S H σ δ Ω)(hr:Reps ρ X.K (hid H (fob (un F S) σ O)) ds vs)(hf:jm0 c m ds Ω=some (r,Ω'))
  (k:match (generalizing:=false) r with
   | .ok d=>∀ v ρ' S' H',RM ρz Sz Hz F X.K X.mg O ρ' S' H' σ δ Ω'->RLe ρ ρ'->Same (hid H (fob (un F S) σ O)) (hid H' (fob (un F S') σ O))->Rep ρ' X.K (hid H' (fob (un F S') σ O)) d v->Q v H'
   | .error _=>True):∀ x,H x=none->spE X.K X.mg n m (.ref x::vs) (upd H x (XO x Ca none true)) (fun v H2=>v=.non/\Q (.ref x) H2) E0:=by
 intro x hx;obtain⟨t1,t2,t3⟩:=R.newX hm hx;have hob:Rep (addR ρ Ω.length x) X.K (hid (upd H x (XO x Ca none true)) (fob (un F (addS S x x)) σ O)) (.obj Ω.length) (.ref x):=rep_obj.mpr ⟨x,by unfold addR;rw[if_pos rfl],rfl⟩;unfold jm0 at hf;rcases MS.b_inv hf with ⟨d,Ω1,e1,hf⟩|⟨y,e1,rfl⟩
 ·refine jpt t1 (ar _ _ _ e1) (Reps.cons hob ((hr.rho t2).mono t3)) e1 ?_;intro v ρ2 S2 H2 R2 l2 v2 r2
  cases d with
  | non =>
   cases hf;exact⟨rep_non.mp r2,k (.ref x) ρ2 S2 H2 R2 (t2.trans l2) (t3.trans v2) ((hob.rho l2).mono v2)⟩
  | _=>cases hf
 ·exact jpt t1 (ar _ _ _ e1) (Reps.cons hob ((hr.rho t2).mono t3)) e1 trivial
theorem joq{m:List D->MS D}{ds:List D}{r:Except XD D}(ar:∀ ds Ω r,m ds Ω=some r->ds.length=n)(hf:jm0 c m ds Ω=some (r,Ω')):ds.length+1=n:=by
 unfold jm0 at hf;rcases MS.b_inv hf with ⟨d,Ω1,e1,hf⟩|⟨y,e1,rfl⟩
 ·exact ar _ _ _ e1
 ·exact ar _ _ _ e1
theorem jqx{m:List D->MS D}(C:IniXE X.prog X.w X.K X.mg X.base k c n m)(hr:Room (k+1) X.A)(ha:MA X O (e::es) fl)(hg:autoParam (Gl X c) zau2._auto_1)(hdb:autoParam ((c == ("__debug__":Str))=false) zau1._auto_1)(he:autoParam (starEach (e::es) X.env=(false,eval e X.env)::starEach es X.env) zau2._auto_1)
  (hpl:autoParam ((backTo pos (starEach es X.env)).any (·.1)=false) zau2._auto_1):ME X O (.Call (.Name c p) (e::es) [] pos) (jka c m fl):=by
 obtain⟨Ca,f,fd,ps,hl,hm,hM,hb,G⟩:=C.ex;rintro pins s σ H Q I ⟨ρz,Sz,Hz,F,ρ,S,δ,Ω,R,r,Ω',hf,k⟩;refine jq5 hM G hr hg hm hb (fun _ _ _ _ _ _ _ z=>z.elim) ha hdb he hpl pins s σ H Q I (E:=E0) ?_;rcases MS.b_inv hf with ⟨ds,Ω1,e1,hf⟩|⟨y,e1,rfl⟩
 ·refine⟨ρz,Sz,Hz,F,ρ,S,δ,Ω,R,.ok ds,Ω1,e1,fun vs ρ1 S1 H1 R1 l1 v1 r1=>?_⟩;refine⟨?_,jqw hm C.ar R1 r1 hf ?_⟩
  ·have h1:=joq C.ar hf;have h2:=C.sm;rw[r1.length];omega
  ·cases r with
   | error y=>trivial
   | ok d=>exact fun v ρ2 S2 H2 R2 l2 v2 r2=>k v ρ2 S2 H2 R2 (l1.trans l2) (v1.trans v2) r2
 ·exact⟨ρz,Sz,Hz,F,ρ,S,δ,Ω,R,.error y,_,e1,trivial⟩
inductive NewAt(K:W.Frag)(mg:Str->Option Value)(c:Str):Prop
 | mk (C:Addr) (h1:mg c=some (.ref C)) (h2:XCls K C) (h3:xNoI K C=true)
theorem jtv(C:NewAt X.K X.mg c)(hg:autoParam (Gl X c) zau2._auto_1)(hdb:autoParam ((c == ("__debug__":Str))=false) zau1._auto_1):ME X O (.Call (.Name c p) [] [] pos) (jwe c):=by
 obtain⟨Ca,hm,hc,hi⟩:=C;rintro pins s σ H Q I ⟨ρz,Sz,Hz,F,ρ,S,δ,Ω,R,r,Ω',hf,k⟩;refine jud hc hi hg hm hdb pins s σ H Q I fun x hx=>?_
 cases hf;obtain⟨t1,t2,t3⟩:=R.newX hm hx;exact k _ _ _ _ t1 t2 t3 (rep_obj.mpr ⟨x,by unfold addR;rw[if_pos rfl],rfl⟩)
end
end DL
namespace DL
open PySem PySem.Spec PyProof.Rows L2
noncomputable def getX(cs:List Str)(f:Str):D->MS D:=fun x Ω=>match x with
 | .obj i=>match Ω[i]? with
  | some (.exc c (some j,_))=>match Ω[j]? with
   | some (.xd fs)=>if cs.contains c then (fs.lookup f).map fun d=>(.ok d,Ω) else none
   | _=>none
  | _=>none
 | _=>none
noncomputable def jmz(cs:List Str)(f:Str)(fa:DSt->MS D):DSt->MS D:=fun δ=>(fa δ).b fun x=>getX cs f x
noncomputable def putX(cs:List Str)(f:Str)(x d:D):MS Unit:=fun Ω=>match x with
 | .obj i=>match Ω[i]? with
  | some (.exc c (none,fr))=>if cs.contains c then some (.ok (),(Ω++[SO.xd [(f,d)]]).set i (.exc c (some Ω.length,fr))) else none
  | some (.exc c (some j,_))=>match Ω[j]? with
   | some (.xd fs)=>if cs.contains c&&decide (fs.length<1000) then some (.ok (),Ω.set j (.xd (putD f d fs))) else none
   | _=>none
  | _=>none
 | _=>none
noncomputable def js7(cs:List Str)(f:Str)(fo fv:DSt->MS D):DSt->MS Out:=fun δ=>(fv δ).b fun d=>(fo δ).b fun x=>(putX cs f x d).b fun _=>MS.p (.nx δ)
noncomputable def isX(cs:List Str)(g:Str->Bool):D->MS D:=fun x Ω=>match x with
 | .obj i=>match Ω[i]? with
  | some (.exc c (none,_))=>if cs.contains c then some (.ok (.bl (g c)),Ω) else none
  | some (.exc c (some j,_))=>match Ω[j]? with
   | some (.xd fs)=>if cs.contains c then some (.ok (.bl (g c)),Ω) else none
   | _=>none
  | _=>none
 | _=>none
noncomputable def mIsX(cs:List Str)(g:Str->Bool)(fa:DSt->MS D):DSt->MS D:=fun δ=>(fa δ).b fun x=>isX cs g x
section
variable {Ω Ω':Sto}{cs:List Str}{f:Str}{x d:D}
inductive GetXI(cs:List Str)(f:Str)(x:D)(Ω Ω':Sto)(r:Except XD D):Prop
 | mk (i j:Nat) (c:Str) (fr:Bool) (fs:List (Str×D)) (d:D) (h1:x=.obj i) (h2:Ω[i]? = some (.exc c (some j,fr))) (h3:Ω[j]? = some (.xd fs)) (h4:c∈cs) (h5:fs.lookup f=some d) (h6:r=.ok d) (h7:Ω'=Ω)
theorem jql{r:Except XD D}(h:getX cs f x Ω=some (r,Ω')):GetXI cs f x Ω Ω' r:=by
 unfold getX at h
 split at h
 ·rename_i i
  split at h
  ·rename_i c j fr hi
   split at h
   ·rename_i fs hj
    split at h
    ·rename_i hc
     cases hl:fs.lookup f with
     | none=>rw[hl] at h;cases h
     | some d=>rw[hl] at h;cases h;exact⟨i,j,c,fr,fs,d,rfl,hi,hj,zbc.mp hc,hl,rfl,rfl⟩
    ·cases h
   ·cases h
  ·cases h
 ·cases h
inductive PutXI(cs:List Str)(f:Str)(x d:D)(Ω Ω':Sto)(r:Except XD Unit):Prop
 | first (i:Nat) (c:Str) (fr:Bool) (h1:x=.obj i) (h2:Ω[i]? = some (.exc c (none,fr))) (h4:c∈cs) (h6:r=.ok ()) (h7:Ω'=(Ω++[SO.xd [(f,d)]]).set i (.exc c (some Ω.length,fr)))
 | more (i j:Nat) (c:Str) (fr:Bool) (fs:List (Str×D)) (h1:x=.obj i) (h2:Ω[i]? = some (.exc c (some j,fr))) (h3:Ω[j]? = some (.xd fs)) (h4:c∈cs) (h5:fs.length<1000) (h6:r=.ok ()) (h7:Ω'=Ω.set j (.xd (putD f d fs)))
theorem jmh{r:Except XD Unit}(h:putX cs f x d Ω=some (r,Ω')):PutXI cs f x d Ω Ω' r:=by
 unfold putX at h
 split at h
 ·rename_i i
  split at h
  ·rename_i c fr hi
   split at h
   ·rename_i hc;cases h;exact .first i c fr rfl hi (zbc.mp hc) rfl rfl
   ·cases h
  ·rename_i c j fr hi
   split at h
   ·rename_i fs hj
    split at h
    ·rename_i hc;rw[Bool.and_eq_true,decide_eq_true_eq] at hc;cases h;exact .more i j c fr fs rfl hi hj (zbc.mp hc.1) hc.2 rfl rfl
    ·cases h
   ·cases h
  ·cases h
 ·cases h
inductive IsXI(cs:List Str)(g:Str->Bool)(x:D)(Ω Ω':Sto)(r:Except XD D):Prop
 | mk (i:Nat) (c:Str) (oj:Option Nat) (fr:Bool) (h1:x=.obj i) (h2:Ω[i]? = some (.exc c (oj,fr))) (h3:∀ j,oj=some j->∃ fs,Ω[j]? = some (.xd fs)) (h4:c∈cs) (h6:r=.ok (.bl (g c))) (h7:Ω'=Ω)
theorem joe{g:Str->Bool}{r:Except XD D}(h:isX cs g x Ω=some (r,Ω')):IsXI cs g x Ω Ω' r:=by
 unfold isX at h
 split at h
 ·rename_i i
  split at h
  ·rename_i c fr hi
   split at h
   ·rename_i hc;cases h;exact⟨i,c,none,fr,rfl,hi,(fun j z=>nomatch z),zbc.mp hc,rfl,rfl⟩
   ·cases h
  ·rename_i c j fr hi
   split at h
   ·rename_i fs hj
    split at h
    ·rename_i hc;cases h;exact⟨i,c,some j,fr,rfl,hi,fun j' z=>by cases z;exact⟨fs,hj⟩,zbc.mp hc,rfl,rfl⟩
    ·cases h
   ·cases h
  ·cases h
 ·cases h
end
theorem jmm{K:W.Frag}{C:Addr}{f:Str}(h:W.findIn K (.ref C) f=some none):W.takerIn K C f=some none:=by
 unfold W.takerIn;rw[h];rfl
theorem jsn{a C:Addr}{od:Option Addr}{fr:Bool}:∀ y,HO.own y≠XO a C od fr:=fun y z=>by unfold XO at z;cases z
theorem jxo{a:Addr}{fs:List (Str×V)}:∀ y,HO.own y≠XDc a fs:=fun y z=>by unfold XDc at z;cases z
section
variable {X:Cx}{O B:List Nat}{o e:Expr}{fa fo fv:DSt->MS D}{fl:DSt->MS (List D)}{pos p p2:Pos}{x c f:Str}{k:Nat}
variable {ρz ρ:Rho}{Sz S F:Addr->Bool}{Hz H:Hp}{σ:L2.St}{δ:DSt}{Ω Ω':Sto}{cs fs:List Str}{bn d:Str}
theorem jtu(T:ErrT X.K X.mg cs fs bn)(hf:fs.contains f=true)(ha:ME X O e fa)(hb:autoParam (attributeBase e f X.env (eval e X.env)=eval e X.env) zau2._auto_1):ME X O (.Attribute e f pos) (jmz cs f fa):=by
 rintro pins s σ H Q I ⟨ρz,Sz,Hz,F,ρ,S,δ,Ω,R,r,Ω',hg,k⟩;refine juc ha hb pins s σ H Q I ⟨?_⟩;rcases MS.b_inv hg with ⟨x,Ω1,e1,hg⟩|⟨x,e1,rfl⟩
 ·refine⟨ρz,Sz,Hz,F,ρ,S,δ,Ω,R,.ok x,Ω1,e1,fun u ρ1 S1 H1 R1 l1 v1 r1=>?_⟩;obtain⟨i,j,c,fr,fl,d,rfl,hi,hj,hc,hl,rfl,rfl⟩:=jql hg;obtain⟨ad,q1,q2⟩:=rep_obj.mp r1;obtain⟨ad',p1,p2,p3⟩:=R1.sto.ats i _ hi;rw[q1] at p1;cases p1
  obtain⟨dx,s1,s2,vfs,s3,s4⟩:=R1.sto.ats j _ hj
  cases p3 with
  | yes fr j C dx' h1 h2 h3 =>
   rw[s1] at h2;cases h2
   obtain⟨w,w1,w2⟩:=s4.get hl;exact⟨ad,C,dx,fr,vfs,w,q2,h3,s3,T.cls c hc C h1,T.fld c hc C h1 f (zbc.mp hf),w1,k w ρ1 S1 H1 R1 l1 v1 w2⟩
 ·exact⟨ρz,Sz,Hz,F,ρ,S,δ,Ω,R,.error x,_,e1,trivial⟩
theorem jtz{pos':Pos}(T:ErrT X.K X.mg cs fs bn)(hf:fs.contains f=true)(ho:ME X O o fo)(hv:ME X O e fv)(hs:autoParam (swapsWith e (some (.Attribute o f pos')) pos.line X.env=pure false) zau2._auto_1):MSt X O O B (.Assign [.Attribute o f pos'] e pos) (js7 cs f fo fv):=by
 rintro pins s σ H Dn I ⟨ρz,Sz,Hz,F,ρ,S,δ,Ω,R,r,Ω',hg,k⟩;refine juj ho hv hs pins s σ H Dn I ?_;rcases MS.b_inv hg with ⟨d,Ω1,e1,hg⟩|⟨x,e1,rfl⟩
 ·refine⟨ρz,Sz,Hz,F,ρ,S,δ,Ω,R,.ok d,Ω1,e1,fun v ρ1 S1 H1 R1 l1 v1 r1=>?_⟩;rcases MS.b_inv hg with ⟨x,Ω2,e2,hg⟩|⟨x,e2,rfl⟩
  ·refine⟨ρz,Sz,Hz,F,ρ1,S1,δ,Ω1,R1,.ok x,Ω2,e2,fun u ρ2 S2 H2 R2 l2 v2 r2=>?_⟩;have r1':=(r1.rho l2).mono v2;rcases MS.b_inv hg with ⟨z,Ω3,e3,hg⟩|⟨y,e3,rfl⟩
   ·cases hg
    cases jmh e3 with
    | first i c fr h1 h2 h4 h6 h7 =>
     subst h1 h7;obtain⟨ad,q1,q2⟩:=rep_obj.mp r2;obtain⟨ad',p1,p2,p3⟩:=R2.sto.ats i _ h2;rw[q1] at p1;cases p1
     cases p3 with
     | no fr C g1 g2 =>
      refine⟨ad,q2,.first C fr g2 (T.cls c h4 C g1) (jmm (T.fld c h4 C g1 f (zbc.mp hf))) fun dx hd=>?_⟩;obtain⟨t1,t2,t3⟩:=R2.newS (nso:=.xd [(f,d)]) (no:=XDc dx [(f,v)]) hd fun ρ' S' Hv' l vv=>⟨[(f,v)],jak,v,[],rfl,(r1'.rho l).mono vv,rfl⟩
      have il:i<Ω2.length:=(zbb.mp h2).1;have hne:ad≠dx:=fun z=>by rw[z,hd] at g2;cases g2
      have q1':=t2 _ _ q1;obtain⟨w1,w2⟩:=t1.putS (so':=.exc c (some Ω2.length,fr)) (o':=XO ad C (some dx) fr) (by rw[List.getElem?_append_left il];exact h2) q1' (addS_t.mpr (.inl p2)) (by rw[jag hne];exact g2) jsn
       (ExcOk.yes fr _ C dx g1 (by unfold addR;rw[if_pos rfl]) jak)
      exact k _ _ σ _ w1 (l1.trans (l2.trans t2)) (by rw[w2];exact v1.trans (v2.trans t3))
    | more i j c fr fl h1 h2 h3 h4 h5 h6 h7 =>
     subst h1 h7;obtain⟨ad,q1,q2⟩:=rep_obj.mp r2;obtain⟨ad',p1,p2,p3⟩:=R2.sto.ats i _ h2;rw[q1] at p1;cases p1
     obtain⟨dx,s1,s2,vfs,s3,s4⟩:=R2.sto.ats j _ h3
     cases p3 with
     | yes fr j C dx' g1 g2 g3 =>
      rw[s1] at g2;cases g2
      refine⟨ad,q2,.more C dx fr vfs g3 s3 (T.cls c h4 C g1) (jmm (T.fld c h4 C g1 f (zbc.mp hf))) (by rw[s4.length];exact h5) ?_⟩;obtain⟨w1,w2⟩:=R2.putS (so':=.xd (putD f d fl)) (o':=XDc dx (putF f v vfs)) h3 s1 s2 s3 jxo ⟨_,jak,s4.put r1'⟩;exact k _ _ σ _ w1 (l1.trans l2) (by rw[w2];exact v1.trans v2)
   ·cases jmh e3 with
    | first i c fr h1 h2 h4 h6 h7=>cases h6
    | more i j c fr fl h1 h2 h3 h4 h5 h6 h7=>cases h6
  ·exact⟨ρz,Sz,Hz,F,ρ1,S1,δ,Ω1,R1,.error x,_,e2,trivial⟩
 ·exact⟨ρz,Sz,Hz,F,ρ,S,δ,Ω,R,.error x,_,e1,trivial⟩
theorem jr0{g:Str->Bool}{nm:Expr}{v:V}{u:Value}(T:ErrT X.K X.mg cs fs bn)(hn:PE X nm (tC v))(hv:∀ w,RelV v w->w=u)(hk:∀ c∈cs,∀ C,X.mg c=some (.ref C)->W.kitOne X.K (.ref C) u=some (g c))(ha:ME X O e fa)(hG:autoParam (Gl X "isinstance") zau2._auto_1)(hm:X.mg "isinstance"=none)
  (he:autoParam (starEach (e::[nm]) X.env=(false,eval e X.env)::starEach [nm] X.env) zau2._auto_1) (he2:autoParam (starEach [nm] X.env=(false,eval nm X.env)::starEach [] X.env) zau2._auto_1) (hpl:autoParam ((backTo pos (starEach [nm] X.env)).any (·.1)=false) zau2._auto_1) :
  ME X O (.Call (.Name "isinstance" p) [e,nm] [] pos) (mIsX cs g fa):=by
 rintro pins s σ H Q I ⟨ρz,Sz,Hz,F,ρ,S,δ,Ω,R,r,Ω',hg,k⟩;refine jg9 (jns T.sp T.tk) hG hm jc2 (jdo ha (jdo hn jhz he2) he) (by decide) (by decide) he hpl pins s σ H Q I ?_;rcases MS.b_inv hg with ⟨x,Ω1,e1,hg⟩|⟨x,e1,rfl⟩
 ·refine⟨ρz,Sz,Hz,F,ρ,S,δ,Ω,R,.ok x,Ω1,e1,fun w ρ1 S1 H1 R1 l1 v1 r1=>?_⟩;obtain⟨i,c,oj,fr,rfl,hi,hj,hc,rfl,rfl⟩:=joe hg;obtain⟨ad,q1,q2⟩:=rep_obj.mp r1;obtain⟨ad',p1,p2,p3⟩:=R1.sto.ats i _ hi;rw[q1] at p1;cases p1
  subst q2
  cases p3 with
  | no fr C h1 h2=>exact⟨ad,C,none,fr,v,u,g c,rfl,h2,T.cls c hc C h1,(fun dx z=>nomatch z),hv,hk c hc C h1,k _ ρ1 S1 H1 R1 l1 v1 (rep_bl.mpr rfl)⟩
  | yes fr j C dx h1 h2 h3 =>
   obtain⟨fl,hj⟩:=hj j rfl;obtain⟨dx',s1,s2,vfs,s3,s4⟩:=R1.sto.ats j _ hj;rw[h2] at s1;cases s1
   exact⟨ad,C,some dx,fr,v,u,g c,rfl,h3,T.cls c hc C h1,fun dx' z=>by cases z;exact⟨vfs,s3⟩,hv,hk c hc C h1,k _ ρ1 S1 H1 R1 l1 v1 (rep_bl.mpr rfl)⟩
 ·exact⟨ρz,Sz,Hz,F,ρ,S,δ,Ω,R,.error x,_,e1,trivial⟩
theorem jwg(T:ErrT X.K X.mg cs fs bn)(hd:cs.contains d=true)(hm:X.mg "isinstance"=none)(ha:ME X O e fa)(hg:autoParam (Gl X d) zau2._auto_1)(hdb:autoParam ((d == ("__debug__":Str))=false) zau1._auto_1)(hG:autoParam (Gl X "isinstance") zau2._auto_1)
  (he:autoParam (starEach (e::[.Name d p2]) X.env=(false,eval e X.env)::starEach [.Name d p2] X.env) zau2._auto_1):ME X O (.Call (.Name "isinstance" p) [e,.Name d p2] [] pos) (mIsX cs (fun c=>c == d) fa):=by
 have hd':=zbc.mp hd;obtain⟨D0,h0⟩:=T.ats d hd';refine jr0 (v:=.ref D0) (u:=.ref D0) T (jlo hg h0 rfl hdb) (fun w r=>by cases r;rfl) (fun c hc C hC=>?_) ha hG hm he rfl rfl;obtain⟨D1,h1,h2⟩:=T.pair c hc d hd' C hC;rw[h0] at h1;cases h1
 exact h2
theorem ji3:bootBuiltins "ValueError"=some (.type "ValueError"):=by decide +kernel
theorem jwh(T:ErrT X.K X.mg cs fs bn)(hm:X.mg "isinstance"=none)(hvm:X.mg "ValueError"=none)(ha:ME X O e fa)(hg:autoParam (Gl X "ValueError") zau2._auto_1)(hG:autoParam (Gl X "isinstance") zau2._auto_1)
  (he:autoParam (starEach (e::[.Name "ValueError" p2]) X.env=(false,eval e X.env)::starEach [.Name "ValueError" p2] X.env) zau2._auto_1):ME X O (.Call (.Name "isinstance" p) [e,.Name "ValueError" p2] [] pos) (mIsX cs (fun _=>true) fa) :=
 jr0 (v:=.ty "ValueError") (u:=.type "ValueError") T (jo7 hg hvm ji3 rfl) (fun w r=>by cases r;rfl) (fun c hc C hC=>T.val c hc C hC) ha hG hm he rfl rfl
end
theorem jn9{K:W.Frag}{mg:Str->Option Value}{h:Heap}{c q:Str}{st:Stmt}{ps:List Str}{C f:Addr}{oc:Value}{od an:Option Addr}{osl:Array (Option Value)}{kV doc pm cdv ct:Value}(X:K.In h)(G:h.Ns mainGlobals mg)
  (hb:∀ (kV doc pm:Value) (an:Option Addr) (cdv ct:Value) (us:List Value),us.length=ps.length->bindArgs (W.fnOf "__init__" q (jap st) (jai st) (jac st) .none kV doc pm an cdv ct) ⟨us,[]⟩=pure (ps.zip us))
  (a:mg c=some (.ref C)) (xc:XCls K C) (i2:W.findIn K (.ref C) "__init__"=some (some (.ref f))) (i3:W.isFn K (.ref f)=true)
  (l:K.lookup f=some ⟨oc,od,.func (W.fnOf "__init__" q (jap st) (jai st) (jac st) .none kV doc pm an cdv ct),osl⟩)
  (cd:W.codeIn K cdv q=true) (k:W.keepIn K (.ref f)=true):IniXAt K mg c q st ps:=by
 have F:=jrv (st:=st) l cd k;exact⟨C,f,_,a,⟨xc,i2,i3⟩,F,F.binds hb⟩
end DL
namespace L2
open PySem PySem.Spec PyProof.Rows
open PySem.W (Frag InstAt Looks findIn mroIn clsIn)
section
variable {M:Model}{A:Around}{E:Value->Shared->Prop}{s:Shared}{K:Frag}{C:Addr}{env:Env}
theorem ju0{x:Sem Value}{Q:Flow->Shared->Prop}(hh:A.handled=none)
  (h:wpAny M A x (fun v s₁=>∃ e C od vs sl,v=.ref e/\K.In s₁.heap/\xIn K C=true/\s₁.heap.get? e=some (xOb C od vs sl)/\vs[1]? = some .none/\E (.ref e) s₁) E s) :
  wpAny M A (raiseStmt env (some x) none) Q E s:=by
 unfold raiseStmt;refine zay (thn h fun v s₁ hzz=>?_);obtain⟨e,C,od,vs,sl,ev,X,hx,he,h1,hE⟩:=hzz;subst ev;obtain⟨bm,N,nm,q,bs,sn,sub,ab,col,dd,k0,k1,k2,k3,k5,cd,hC,T,hk,hm,hd,hN⟩:=x_at X hx;have hcB:(Value.ref C::bm).contains (.type "BaseException")=true:=by rw[List.contains_cons,T.hasType (show bmV.contains (.type "BaseException")=true by decide),Bool.or_true]
 obtain⟨hp,g,d,tk,os⟩:=s₁
 repeat (first|with_reducible refine wpAny_loadPart_at he ?_|with_reducible refine wpAny_loadPart_at hC ?_|(with_reducible refine wpAny_isSubtype_exc hC ?_;rw[hcB])|wp_step)
 rw[h1];exact zab (by rw[if_neg (by decide)];exact zab (wpAny_raiseNew_none hh hE))
noncomputable abbrev frL(l:List Env):List Addr:=l.filterMap (·.frame)
inductive TbAt(h:Heap)(vs:Array Value):Prop
 | no (h1:vs[1]? = some .none)
 | yes (T:Addr) (oT:Obj) (ts:Array Value) (h1:vs[1]? = some (.ref T)) (h2:h.get? T=some oT) (h3:oT.data=.fields ts) (h4:ts[3]? = some .none)
inductive Note(l:List Env)(e C:Addr)(od:Option Addr)(vs:Array Value)(sl:Array (Option Value))(h h':Heap):Prop
 | mk (vs':Array Value) (T:Addr) (oT:Obj) (ts:Array Value) (h1:h'.get? e=some (xOb C od vs' sl)) (h2:vs'[1]? = some (.ref T)) (h3:h.get? T=none) (h4:h'.get? T=some oT) (h5:oT.data=.fields ts) (h6:ts[3]? = some .none)
   (h7:∀ b o,h.get? b=some o->b∉frL l->b≠e->vs[1]?≠some (.ref b)->h'.get? b=some o) (h8:∀ b o,h.get? b=some o->b∈frL l->∃ sl',h'.get? b=some { o with slots:=sl' }) (h9:∀ T,vs[1]? = some (.ref T)->∃ oT ts,h'.get? T=some oT/\oT.data=.fields ts/\ts[3]? = some .none)
theorem jp5{base:Heap}{env:Env}{outer:List Env}{L e:Addr}{od:Option Addr}{vs:Array Value}{sl:Array (Option Value)}{head:Value}{hadNext:Bool}{Q:Unit->Shared->Prop}
  (hfr:A.frames=some (env::outer)) (hl:s.heap.FunFrames base (env::outer)) (hf:env.frame=some L) (he:s.heap.get? e=some (xOb C od vs sl)) (hsz:1<vs.size)
  (h:∀ h' vs' T oT ts,h'.get? e=some (xOb C od vs' sl)->vs'[1]? = some (.ref T)->s.heap.get? T=none->h'.get? T=some oT->oT.data=.fields ts->ts[3]? = some .none->(∀ b o,s.heap.get? b=some o->b∉frL (env::outer)->b≠e->h'.get? b=some o) ->
   (∀ b o,s.heap.get? b=some o->b∈frL (env::outer)->∃ sl',h'.get? b=some { o with slots:=sl' })->Q () { s with heap:=h' }) :
  wpAny M A (do let a <- frameOf env;let pl <- entryPlaceOf L hadNext;let b <- EntryCells.newEntry head a .none (rawInt L) .none pl;setField (.ref e) 1 b) (fun _ s'=>wpAny M A (setFlight (.ref e) none) Q E s') E s:=by
 have nfe:∀ b,b∈frL (env::outer)->b≠e:=fun b hb z=>by
  obtain⟨_,o,ho,hnf⟩:=hl.mem hb;rw[z,he] at ho;cases ho;exact hnf vs rfl
 refine zay (wpAny_frameOf_fun hfr hl hf fun g hs=>zay (wpAny_entryPlaceOf fun pl hpl=>?_));unfold EntryCells.newEntry newFields;refine zay (wpAny_newObj_type ?_ (hpl.sizeOk5 _ _ _ _ _));have e1:g.get? e=some (xOb C od vs sl):=(hs.2.1 e fun hb=>nfe e hb rfl).trans he;generalize hob:({ cls:=.type "traceback",dict:=none,data:=.fields ([head,.ref L,.none,rawInt L,.none]++(if pl.isEmpty then List.replicate 6 Value.none else pl)).toArray }:Obj)=ob;have hdat:ob.data=.fields ([head,.ref L,.none,rawInt L,.none]++(if pl.isEmpty then List.replicate 6 Value.none else pl)).toArray:=by rw[<- hob]
 have hsz3:3<([head,.ref L,.none,rawInt L,.none]++(if pl.isEmpty then List.replicate 6 Value.none else pl)).toArray.size:=by
  rw[zbx,zca];show 3<5+_;omega
 generalize ([head,.ref L,.none,rawInt L,.none]++(if pl.isEmpty then List.replicate 6 Value.none else pl)).toArray=ts at hdat hsz3;have e2:=zaz ob e1;refine wpAny_setField e2 rfl hsz ?_;have ne:g.objs.size≠e:=Nat.ne_of_gt (zbv e1);have e3:((g.push ob).update e (Obj.mapFields (·.setIfInBounds 1 (Value.ref g.objs.size)))).get? e=some (xOb C od (vs.setIfInBounds 1 (.ref g.objs.size)) sl):=Heap.get?_update_self _ e2 rfl;have t3:((g.push ob).update e (Obj.mapFields (·.setIfInBounds 1 (Value.ref g.objs.size)))).get? g.objs.size=some ob:=by
  rw[Heap.get?_update_other _ _ (Ne.symm ne)];exact zbz _ (Obj.isFreed_of_fields hdat)
 have v1:(vs.setIfInBounds 1 (Value.ref g.objs.size))[1]? = some (.ref g.objs.size):=by simp[hsz]
 unfold setFlight;refine zay (wpAny_field e3 rfl v1 ?_);rw[if_pos (show (Value.ref g.objs.size != Value.none)=true from by simp)];refine wpAny_setField t3 hdat hsz3 ?_;have dT:=Obj.data_mapFields hdat (·.setIfInBounds 3 ((none:Option Addr).elim Value.none fun f=>rawInt f));have t4:=Heap.get?_update_self (Obj.mapFields (·.setIfInBounds 3 ((none:Option Addr).elim Value.none fun f=>rawInt f))) t3 (Obj.isFreed_of_fields dT);have fresh:s.heap.get? g.objs.size=none:=Heap.get?_none_of_le (by rw[hs.1];exact zac _);have keep:∀ b o,b≠e->g.get? b=some o->(((g.push ob).update e (Obj.mapFields (·.setIfInBounds 1 (Value.ref g.objs.size)))).update g.objs.size (Obj.mapFields (·.setIfInBounds 3 ((none:Option Addr).elim Value.none fun f=>rawInt f)))).get? b=some o:=fun b o hb q=>by
  rw[Heap.get?_update_other _ _ (Nat.ne_of_gt (zbv q)),Heap.get?_update_other _ _ (Ne.symm hb)];exact zaz _ q
 refine h _ _ g.objs.size _ _ ?_ v1 fresh t4 dT (by simp[hsz3]) (fun b o q hb hbe=>keep b o hbe ((hs.2.1 b hb).trans q)) fun b o q hb=>?_
 ·rw[Heap.get?_update_other _ _ ne];exact e3
 ·obtain⟨sl',q'⟩:=hs.2.2 b o q;exact⟨sl',keep b _ (nfe b hb) q'⟩
theorem jux{base:Heap}{env:Env}{outer:List Env}{L e:Addr}{od:Option Addr}{vs:Array Value}{sl:Array (Option Value)}{Q:Unit->Shared->Prop}
  (hfr:A.frames=some (env::outer)) (hl:s.heap.FunFrames base (env::outer)) (hf:env.frame=some L) (he:s.heap.get? e=some (xOb C od vs sl)) (tb:TbAt s.heap vs) (hne:vs[1]?≠some (.ref e))
  (h:∀ h',Note (env::outer) e C od vs sl s.heap h'->Q () { s with heap:=h' }):wpAny M A (noteFrame (.ref e) env) (fun _ s'=>wpAny M A (setFlight (.ref e) none) Q E s') E s:=by
 unfold noteFrame;simp only[hf]
 cases tb with
 | no h1 =>
  refine zay (wpAny_field he rfl h1 ?_);rw[if_neg (by decide)];refine jp5 hfr hl hf he (Array.getElem?_eq_some_iff.mp h1).1 fun h' vs' T oT ts a1 a2 a3 a4 a5 a6 a7 a8=>h h' ⟨vs',T,oT,ts,a1,a2,a3,a4,a5,a6,fun b o q hb hbe _=>a7 b o q hb hbe,a8,fun T z=>by rw[h1] at z;cases z⟩
 | yes T oT ts h1 h2 h3 h4 =>
  have hTe:T≠e:=fun z=>hne (by rw[h1,z])
  have nT:T∉frL (env::outer):=fun hb=>by
   obtain⟨_,o,ho,hnf⟩:=hl.mem hb;rw[h2] at ho;cases ho;exact hnf ts h3
  refine zay (wpAny_field he rfl h1 ?_);rw[if_pos (show (Value.ref T != Value.none)=true from by simp)];refine zay (wpAny_field h2 h3 h4 ?_);rw[if_neg (show ¬ ((Value.none == rawInt L)=true) from by simp[rawInt])];refine zay (wpAny_setField h2 h3 (Array.getElem?_eq_some_iff.mp h4).1 ?_);have other:∀ b,b≠T->(s.heap.update T (Obj.mapFields (·.setIfInBounds 3 Value.none))).get? b=s.heap.get? b:=fun b hb=>Heap.get?_update_other _ _ (Ne.symm hb)
  refine jp5 (s:={ s with heap:=s.heap.update T (Obj.mapFields (·.setIfInBounds 3 Value.none)) }) hfr (hl.of_keeps fun b o q nf=>⟨o,(other b fun z=>nf ts (by rw[z,h2] at q;cases q;exact h3)).trans q,rfl⟩) hf ((other e (Ne.symm hTe)).trans he) (Array.getElem?_eq_some_iff.mp h1).1
   fun h' vs' T' oT' ts' a1 a2 a3 a4 a5 a6 a7 a8=>h h' ⟨vs',T',oT',ts',a1,a2,?_,a4,a5,a6,fun b o q hb hbe hbT=>a7 b o ((other b fun z=>hbT (by rw[z];exact h1)).trans q) hb hbe,fun b o q hb=>a8 b o ((other b fun z=>nT (by rw[<- z];exact hb)).trans q) hb,fun T2 z=>?_⟩
  rotate_left
  ·rw[h1] at z;cases z;exact⟨_,_,a7 T _ (Heap.get?_update_self _ h2 (Obj.isFreed_of_fields (Obj.data_mapFields h3 _))) nT hTe,Obj.data_mapFields h3 _,by simp[(Array.getElem?_eq_some_iff.mp h4).1]⟩
  by_cases z:T'=T
  ·subst z;exact absurd a3 (by rw[Heap.get?_update_self _ h2 (Obj.isFreed_of_fields (Obj.data_mapFields h3 _))];exact fun z=>nomatch z)
  ·exact (other T' z).symm.trans a3
end
end L2
namespace L2
open PySem PySem.Spec PyProof.Rows
open PySem.W (Frag InstAt Looks findIn mroIn clsIn)
noncomputable def XT(T:Addr):HO:=.ext fun h=>∃ oT ts,h.get? T=some oT/\oT.data=.fields ts/\ts[3]? = some .none
inductive Fly(H:Hp)(a C:Addr)(od:Option Addr)(s:Shared):Prop
 | mk (e1:H a=some (XO a C od false)) (vs:Array Value) (sl:Array (Option Value)) (e2:s.heap.get? a=some (xOb C od vs sl)) (tb:TbAt s.heap vs) (ne:vs[1]?≠some (.ref a)) (tr:∀ T,vs[1]? = some (.ref T)->H T=some (XT T))
theorem jp6{P:Program}{w:World}{H:Hp}{h:Heap}{T:Addr}{oT:Obj}{ts:Array Value}(h1:h.get? T=some oT)(h2:oT.data=.fields ts)(h3:ts[3]? = some .none):ObjOk P w H h T (XT T) :=
 jk9 ⟨oT,ts,h1,h2,h3⟩ ⟨_,h1⟩ fun _ _ ⟨oT,ts,h1,h2,h3⟩ k=>⟨oT,ts,k _ h1,h2,h3⟩
section
variable {X:Cx}{pins:List (Addr×Obj)}{σ:St}{H:Hp}{s:Shared}{a C:Addr}{od:Option Addr}
theorem jwt{A':Around}{E':Value->Shared->Prop}{Q:Unit->Shared->Prop}(I:Inv X pins σ H s)(F:Fly H a C od s)(hst:X.stack=X.env::X.outer)(hf:X.env.frame=some X.env.locals)(hA:A'.frames=some X.stack)
  (k:∀ T h',H T=none->Inv X pins σ (upd H T (XT T)) { s with heap:=h' }->Fly (upd H T (XT T)) a C od { s with heap:=h' }->Q () { s with heap:=h' }) :
  wpAny (model X.prog X.w) A' (noteFrame (.ref a) X.env) (fun _ s'=>wpAny (model X.prog X.w) A' (setFlight (.ref a) none) Q E' s') E' s:=by
 obtain⟨e1,vs,sl,e2,tb,ne,tr⟩:=F;refine jux (base:=X.base) (by rw[hA,hst]) (by rw[<- hst];exact I.stack) hf e2 tb ne fun h' N=>?_
 obtain⟨vs',T,oT,ts,n1,n2,n3,n4,n5,n6,n7,n8,n9⟩:=N;have hT:H T=none:=jg8 (h:=s.heap) I n3;have nfr:∀ b∈frL (X.env::X.outer),H b=none:=fun b hb=>I.stkFree b (by rw[hst];exact hb)
 have na:∀ b,H b=none->b≠a:=fun b q z=>by rw[z,e1] at q;cases q
 have nTb:∀ b,H b=none->vs[1]?≠some (.ref b):=fun b q z=>by rw[tr b z] at q;cases q
 have nT:∀ b u,s.heap.get? b=some u->b≠T:=fun b u q z=>by rw[z,n3] at q;cases q
 have nT':∀ b u,H b=some u->b≠T:=fun b u q z=>by rw[z,hT] at q;cases q
 have there:∀ b o,s.heap.get? b=some o->∃ o',h'.get? b=some o':=fun b o q=>by
  by_cases z2:b=a
  ·rw[z2];exact⟨_,n1⟩
  ·by_cases z3:vs[1]? = some (.ref b)
   ·obtain⟨oT,ts,q',_⟩:=n9 b z3;exact⟨oT,q'⟩
   ·by_cases z4:b∈frL (X.env::X.outer)
    ·obtain⟨sl',q'⟩:=n8 b o q z4;exact⟨_,q'⟩
    ·exact⟨o,n7 b o q z4 z2 z3⟩
 have hok:HOk X.prog X.w (upd H T (XT T)) h':=fun b u e=>by
  by_cases z:b=T
  ·subst z;rw[jak] at e;cases e;exact jp6 n4 n5 n6
  ·rw[jag z] at e
   by_cases z2:b=a
   ·subst z2;rw[e1] at e;cases e;exact jk2 n1 fun z=>nomatch z
   ·by_cases z3:vs[1]? = some (.ref b)
    ·rw[tr b z3] at e;cases e;obtain⟨oT,ts,q1,q2,q3⟩:=n9 b z3;exact jp6 q1 q2 q3
    ·refine (I.hok b u e).stay (fun c v hc q=>?_) (fun c q=>by rw[jag (nT' c _ q)];exact q) fun c xs q=>by rw[jag (nT' c _ q)];exact q
     have hcn:H c≠none:=by
      rcases hc with r|r
      ·rw[r,e];exact fun z=>nomatch z
      ·rw[r];exact fun z=>nomatch z
     refine n7 c v q (fun z=>hcn (nfr c z)) (fun z=>?_) fun z=>?_
     ·rcases hc with r|r
      ·exact z2 (r.symm.trans z)
      ·rw[z,e1] at r;exact absurd (zby r) (fun z=>by unfold XO at z;cases z)
     ·rcases hc with r|r
      ·exact z3 (by rw[<- r];exact z)
      ·rw[tr c z] at r;exact absurd (zby r) (fun z=>by unfold XT at z;cases z)
 have J:Inv X pins σ (upd H T (XT T)) { s with heap:=h' }:=I.call (g':=s.gens) (t':=s.toks) (d':=s.drawn) (ch:=[]) ⟨fun b o q n hb _=>n7 b o q (by rw[hst] at hb;exact hb) (na b n) (nTb b n),fun b o q n hb _=>n8 b o q (by rw[hst] at hb;exact hb),
  fun b o q n _=>by rw[jag (nT b o q)];exact n,fun b o q _=>there b o q,fun b xs q=>by rw[jag (nT' b _ q)];exact q,fun b u xs q=>by rw[jag (nT' b _ q)];exact q,fun b ps q=>⟨#[],by rw[jag (nT' b _ q),q];simp⟩⟩ hok I.bare (fun b z=>nomatch z)
 refine k T h' hT J ⟨by rw[jag (nT' a _ e1)];exact e1,vs',sl,n1,.yes T oT ts n2 n4 n5 n6,fun z=>?_,fun T2 z=>?_⟩
 ·rw[n2] at z;cases z;exact nT' _ _ e1 rfl
 ·rw[n2] at z;cases z;exact jak
inductive CXr(P:Program)(w:World)(outer:List Env)(H:Hp)(s:Shared)(E:XK)(e:Value)(s':Shared):Prop
 | mk (a C:Addr) (od:Option Addr) (H1 H':Hp) (h1:e=.ref a) (h2:s'.os=s.os) (h3:AllBare s'.gens) (h4:Un (frs outer) [] H H' s.heap s'.heap) (h5:HOk P w H' s'.heap) (h6:Fly H' a C od s') (h7:∀ b o,H1 b=some o->H' b=some o) (h8:E (.ref a) od H1)
noncomputable def CX1(P:Program)(w:World):CXT:=fun outer H s E e s'=>CXr P w outer H s E e s'
inductive Back(X:Cx)(pins:List (Addr×Obj))(σ:St)(E:XK)(e:Value)(s:Shared):Prop
 | mk (a C:Addr) (od:Option Addr) (H1 H:Hp) (h1:e=.ref a) (I:Inv X pins σ H s) (F:Fly H a C od s) (h7:∀ b o,H1 b=some o->H b=some o) (h8:E (.ref a) od H1)
theorem jnj{E:XK}{e:Value}{s':Shared}(I:Inv X pins σ H s)(h:CX1 X.prog X.w X.stack H s E e s'):Back X pins σ E e s':=by
 obtain⟨a,C,od,H1,H',h1,h2,h3,h4,h5,h6,h7,h8⟩:=h;exact⟨a,C,od,H1,H',h1,I.call' h2 h4 h5 h3 (fun b z=>nomatch z),h6,h7,h8⟩
theorem jwa{P:Program}{w:World}{K:Frag}{mg:Str->Option Value}{base:Heap}{N:List Str}{qual:Str}{scope:Scope}{f:Addr}{cd:Value}{A:Around}{outer:List Env}{s:Shared}{H:Hp}{E:XK}{e:Value}{s2:Shared}
  (B:Back (cxOf (CX1 P w) P w K mg base N qual scope f cd A outer s H E) pins σ E e s2):(cxOf (CX1 P w) P w K mg base N qual scope f cd A outer s H E).xe e s2:=by
 obtain⟨a,C,od,H1,H2,rfl,I,F,h7,h8⟩:=B;show wpAny _ _ (leaving _ (.ref a)) _ _ s2;unfold leaving;refine zay (jwt (X:=cxOf (CX1 P w) P w K mg base N qual scope f cd A outer s H E) I F rfl rfl I.ok.frames fun T h' hT J F'=>?_);exact⟨a,C,od,H1,_,rfl,J.os,J.bare,J.base,J.hok,F',fun b o q=>by rw[jag (fun z=>by rw[z,] at q;rw[h7 _ _ q] at hT;cases hT)];exact h7 b o q,h8⟩
theorem jq7{e:Expr}{te:TE}{pos:Pos}(he:PE X e te)(hc:X.calm=true):PS X (.Raise (some e) none pos) (fun D σ H=>te σ H fun v H1=>∃ a C od,v=.ref a/\H1 a=some (XO a C od true)/\XCls X.K C/\∀ pins s,Inv X pins σ (upd H1 a (XO a C od false)) s->Fly (upd H1 a (XO a C od false)) a C od s->X.xe (.ref a) s):=by
 intro pins s σ H D I h;show wpAny _ _ (do standAt pos;raiseStmt X.env (some (do let v <- eval e X.env;standAt pos;pure v)) none) _ _ s;refine zay (wpAny_standAt (ju0 (K:=X.K) (I.ok.hd hc) (zay (thn (he pins s σ H _ I h) fun u s1 ⟨v,H1,I1,rv,a,C,od,ev,ha,cl,k⟩=>zay (wpAny_standAt (zab ?_))))));subst ev;cases rv;obtain⟨vs,sl,h0,hf0⟩:=jk1 I1 ha;have h1:=hf0 rfl;refine⟨a,C,od,vs,sl,rfl,I1.kIn,cl.x,h0,h1,?_⟩;have J:Inv X pins σ (upd H1 a (XO a C od false)) { s1 with heap:=s1.heap,toks:=s1.toks }:=I1.write (x:=a) (e:=a) (by rw[ha];exact True.intro) (.inl rfl) (fun b u _ q=>q) ⟨_,h0⟩ (jk2 h0 fun z=>nomatch z);exact k pins s1 J ⟨jak,vs,sl,h0,.no h1,fun z=>by rw[h1] at z;(cases z),fun T z=>by rw[h1] at z;cases z⟩
end
end L2
namespace L2
open PySem PySem.Spec PyProof.Rows
open PySem.W (Frag InstAt Looks findIn mroIn clsIn)
section
variable {X:Cx}{pins:List (Addr×Obj)}{σ:St}{H:Hp}{s:Shared}{a C:Addr}{od:Option Addr}
noncomputable abbrev Cx.mk1(X:Cx)(v:Value)(E:Value->Shared->Prop):Cx:={ X with A:=X.A.mark (some v),calm:=false,xe:=E }
theorem Inv.mk1(I:Inv X pins σ H s)(v:Value)(E:Value->Shared->Prop):Inv (X.mk1 v E) pins σ H s :=
 ⟨⟨I.ok.mod,I.ok.kind,I.ok.glob,I.ok.blt,I.ok.above,I.ok.inj,I.ok.has,I.ok.cab,(fun z=>nomatch z),I.ok.frames,I.ok.stk,I.ok.exf,I.ok.bs,I.ok.bsz,I.ok.noex,I.ok.exfs,I.ok.funs,I.ok.frf⟩,I.os,I.bare,I.base,I.loc,I.cell,I.free,I.freeC,I.pin,I.hok,I.len⟩
theorem Inv.un1{v:Value}{E:Value->Shared->Prop}{σ':St}{H':Hp}{s':Shared}(I:Inv X pins σ H s)(J:Inv (X.mk1 v E) pins σ' H' s'):Inv X pins σ' H' s' :=
 ⟨I.ok,J.os,J.bare,J.base,J.loc,J.cell,J.free,J.freeC,J.pin,J.hok,J.len⟩
theorem jp0{M:Model}{A:Around}{E:Value->Shared->Prop}{i:Nat}{x:Str}{v:V}{pos:Pos}{Q:Unit->Shared->Prop}(I:Inv X pins σ H s)(hN:X.N.Nodup)(hi:X.N[i]? = some x)(hk:X.env.scope.names.lookup x=some .local)(hv:σ[i]? = some (some v))
  (h:∀ s',Inv X pins (σ.set i none) H s'->Q () s'):wpAny M A (unbindBehindTheSuite X.env x pos) Q E s:=by
 obtain⟨m,hn,hl⟩:=id I.loc;have hcls:(X.env.scope.kind == .class || (X.env.scope.kind == .module&&X.env.locals != X.env.globals))=false:=by rw[I.ok.kind];rfl
 have cne:=I.cne;obtain⟨u,ru,lk⟩:=hl i x v hi hv (.inl hk);have hu:m x=some u:=by
  rcases lk with ⟨_,e⟩|⟨k,_⟩
  ·exact e
  ·have hk':X.env.kindOf x=some .local:=hk;rcases k with k|k
   ·rw[hk'] at k;cases k
   ·rw[hk'] at k;cases k
 unfold unbindBehindTheSuite;refine wpAny_onRaise (wpAny_unbindName_local hk hn hu hcls fun h' u' hn' hs=>?_);obtain⟨oL,_,_,hoL,_⟩:=id hn;have low:∀ {b:Addr} {o:Obj},X.s₀.heap.get? b=some o->b≠X.env.locals:=fun e=>zcv (zcx (zbv e) I.ok.above)
 refine h _ ⟨I.ok,I.os,I.bare,⟨fun b o e n hb hx=>(hs.2 b (low e)).trans (I.base.keep b o e n hb hx),fun b o e n hb hx=>?_,I.base.free,fun b o e hx=>?_,I.base.tups,I.base.frzs,I.base.tbls⟩,⟨_,hn',fun j y v' e1 e2 e3=>?_⟩,fun y c e=>?_,I.free,I.freeC,fun p hp=>?_,fun b ob e=>?_,by simpa using I.len⟩
 ·obtain⟨sl,e1⟩:=I.base.slot b o e n hb hx;exact⟨sl,(hs.2 b (low e)).trans e1⟩
 ·obtain⟨o',e1⟩:=I.base.there b o e hx;exact⟨o',(hs.2 b (low e)).trans e1⟩
 ·have hj:j≠i:=fun z=>by
   rw[z,zcz (zbb.mp hv).1] at e2;cases e2
  rw[zbw (Ne.symm hj)] at e2;obtain⟨w,r',q⟩:=hl j y v' e1 e2 e3;refine⟨w,r',?_⟩;rcases q with ⟨k,e⟩|⟨k,c,e,z⟩
  ·refine .inl ⟨k,?_⟩;have:y≠x:=fun e=>hj (jjf hN e1 (e ▸ hi))
   simp[this,e]
  ·exact .inr ⟨k,c,e,z.sameBut hs (cne y c e)⟩
 ·obtain⟨w,z⟩:=I.cell y c e;exact⟨w,z.sameBut hs (cne y c e)⟩
 ·obtain⟨e,n,ne,nf,d⟩:=I.pin p hp;exact⟨(hs.2 p.1 ne).trans e,n,ne,nf,d⟩
 ·refine (I.hok b ob e).stay (fun c w hc q=>(hs.2 c ?_).trans q) (fun _ q=>q) fun _ _ q=>q
  rintro rfl;rcases hc with z|hc
  ·rw[<- z,I.free] at e;cases e
  ·rw[I.free] at hc;cases hc
theorem jyj{A':Around}{E':Value->Shared->Prop}{Q:Unit->Shared->Prop}(I:Inv X pins σ H s)(F:Fly H a C od s)(k:∀ s',Inv X pins σ H s'->Q () s'):wpAny (model X.prog X.w) A' (setFlight (.ref a) none) Q E' s:=by
 obtain⟨e1,vs,sl,e2,tb,ne,tr⟩:=F;unfold setFlight
 cases tb with
 | no h1 =>
  refine zay (wpAny_field e2 rfl h1 ?_);rw[if_neg (by decide)];exact zab (k s I)
 | yes T oT ts h1 h2 h3 h4 =>
  refine zay (wpAny_field e2 rfl h1 ?_);rw[if_pos (show (Value.ref T != Value.none)=true from by simp)];have hs:=(Array.getElem?_eq_some_iff.mp h4).1;refine wpAny_setField h2 h3 hs (k _ ?_);have dT:=Obj.data_mapFields h3 (·.setIfInBounds 3 ((none:Option Addr).elim Value.none fun f=>rawInt f));have q:=Heap.get?_update_self (Obj.mapFields (·.setIfInBounds 3 ((none:Option Addr).elim Value.none fun f=>rawInt f))) h2 (Obj.isFreed_of_fields dT);have hT:=tr T h1;have J:Inv X pins σ (upd H T (XT T)) { s with heap:=s.heap.update T (Obj.mapFields (·.setIfInBounds 3 ((none:Option Addr).elim Value.none fun f=>rawInt f))),toks:=s.toks } :=
   I.write (x:=T) (e:=T) (by rw[hT];exact True.intro) (.inl rfl) (fun b u hb z=>(Heap.get?_update_other _ _ (Ne.symm hb)).trans z) ⟨_,q⟩ (jp6 q dT (by simp[hs]))
  have eH:upd H T (XT T)=H:=by
   funext b
   by_cases z:b=T
   ·rw[z,jak,hT]
   ·rw[jag z]
  rw[eH] at J;exact J
theorem jth{B n y:Str}{Bc:Addr}{j l:Nat}{np hpos py pn ypos:Pos}{Q:Flow->Shared->Prop}{E':Value->Shared->Prop}(I:Inv X pins σ H s)(F:Fly H a C od s)(hex:W.exmOne X.K (.ref C) (.ref Bc)=some true)(hg:Gl X B)(hm:X.mg B=some (.ref Bc))(hdb:(B == ("__debug__":Str))=false)
  (hN:X.N.Nodup) (hj:X.N[j]? = some n) (hn:X.env.scope.names.lookup n=some .local) (hl:X.N[l]? = some y) (hy:X.env.scope.names.lookup y=some .local) (hjl:j≠l)
  (hnd:(n == ("__debug__":Str))=false) (hncd:(n == ("__classdict__":Str))=false) (hs:swapsWith (.Name n pn) (some (.Name y py)) ypos.line X.env=pure false)
  (k:∀ s',Inv X pins (((σ.set j (some (.ref a))).set l (some (.ref a))).set j none) H s'->Q .next s') :
  wpAny (model X.prog X.w) X.A (handleBy (.ref a) X.env [.ExceptHandler (some (.Name B np)) (some n) [.Assign [.Name y py] (.Name n pn) ypos] hpos]) Q E' s:=by
 have e2:∃ vs sl,s.heap.get? a=some (xOb C od vs sl):=by obtain⟨_,vs,sl,e2,_⟩:=F;exact⟨vs,sl,e2⟩
 obtain⟨vs,sl,e2⟩:=e2;have jl:j<σ.length:=by rw[I.len];exact (zbb.mp hj).1
 have I':=I.mk1 (.ref a) fun _ _=>False
 have LT:Looks (model X.prog X.w) s.heap (typeOf (.ref a)) (.ref C):=by
  intro A' Q' E' s' k z;unfold typeOf;exact zay (wpAny_loadPart (k _ _ e2) (zab z))
 refine wpAny_handleBy_cons (codeAny_handlers_test (jgg (X:=X.mk1 (.ref a) fun _ _=>False) I' hg hm ?_ hdb)) (by intro q;cases q);refine (W.exm_one I.kIn LT hex).here ?_;show codeAny _ _ (.handlers (.ref a) [.ExceptHandler none (some n) [.Assign [.Name y py] (.Name n pn) ypos] hpos] X.env) _ s;refine codeAny_handlers_suite_as (jyj (X:=X.mk1 (.ref a) fun _ _=>False) I' F fun s1 I1=>?_);refine jha (X:=X.mk1 (.ref a) fun _ _=>False) I1 hN hj (.inl hn) (v:=.ref a) rfl (fun s2 I2=>?_) (.inr hn);have hv:(σ.set j (some (V.ref a)))[j]? = some (some (.ref a)):=zcz jl;have PSx:=jjj (jpd (X:=X.mk1 (.ref a) fun _ _=>False) (pos:=ypos) (pos':=py) hN hl (.inl hy) (jo8 (pos:=pn) hj (.inl hn) hnd hncd) hs (.inr hy));refine wpAny_mono (PSx pins s2 _ H ⟨fun σ' H'=>σ'=(σ.set j (some (.ref a))).set l (some (.ref a))/\H'=H,fun _ _=>False,fun _ _=>False,fun _ _=>False⟩ I2 ⟨_,hv,rfl,rfl⟩) (fun f s3 q=>?_) fun _ _ z=>z.elim
 cases f with
 | brk=>obtain⟨_,_,_,z⟩:=q;exact z.elim
 | cont=>obtain⟨_,_,_,z⟩:=q;exact z.elim
 | ret u=>obtain⟨_,_,_,_,_,z⟩:=q;exact z.elim
 | next =>
  obtain⟨σ3,H3,I3,rfl,rfl⟩:=q;show wpAny _ X.A (do bindName X.env n .none;unbindBehindTheSuite X.env n hpos) (fun _ s₃=>Q .next s₃) E' s3;refine zay (wpAny_bindName (jha (I.un1 I3) hN hj (.inl hn) (v:=.non) rfl (fun s4 I4=>?_) (.inr hn)));refine jp0 I4 hN hj hn (zcz (by simpa using jl)) fun s5 I5=>k s5 ?_
  rw[List.set_set] at I5;exact I5
end
end L2
namespace L2
open PySem PySem.Spec PyProof.Rows
open PySem.W (Frag InstAt Looks findIn mroIn clsIn)
noncomputable def EX(Er:Addr->Addr->Option Addr->Hp->Prop):XK:=fun v od H=>∃ a C,v=.ref a/\H a=some (XO a C od false)/\Er a C od H
theorem jsm{X:Cx}{pins:List (Addr×Obj)}{σ:St}{H:Hp}{s:Shared}{a C C':Addr}{od od':Option Addr}{f f':Bool}(I:Inv X pins σ H s)(h:H a=some (XO a C od f))(h':H a=some (XO a C' od' f')):C=C':=by
 obtain⟨vs,sl,e,_⟩:=jk1 I h;obtain⟨vs',sl',e',_⟩:=jk1 I h';rw[e] at e';have:=congrArg Obj.cls (zby e');exact Value.ref.inj this
section
variable {X:Cx}{CX:CXT}{k:Nat}{f C:Addr}{fd:FuncData}{ps:List Str}{sp:Sp}{E:XK}{m:Str}{e o:Expr}{ta:TE}{t:TA}
theorem jw7{pins:List (Addr×Obj)}{σ:St}{H:Hp}{s:Shared}{Q:VK}{us:List Value}{vs:List V}(F:FnOk X.prog X.w X.K X.mg X.base CX k f fd ps sp)(hr:Room k X.A)(hb:Binds X.K fd ps [])(hx:∀ H1 s1 e s',Inv X pins σ H1 s1->CX X.stack H1 s1 E e s'->X.xe e s')
  (I:Inv X pins σ H s) (r:Vals vs us) (h:sp vs H Q E):wpAny (model X.prog X.w) X.A (call (.ref f) us) (EP X pins σ Q) X.xe s:=by
 have hl:(us++[]).length=ps.length:=by rw[List.append_nil,<- r.length];exact F.len _ _ _ _ h
 refine wpAny_call (codeAny_mono (F.run X.A X.stack s H ⟨us,[]⟩ (us++[]) vs Q E hr I.env0 (hb s us I.kIn hl) (by rw[List.append_nil];exact r) h) fun r s' hq=>?_)
 cases r with
 | error e=>exact hx H s e s' I hq
 | ok fl =>
  cases fl with
  | ret u=>exact I.after hq
  | next=>exact False.elim hq
  | brk=>exact False.elim hq
  | cont=>exact False.elim hq
inductive tTryM(K:Frag)(C:Addr)(m:Str)(sp:Sp)(ta:TE)(t:TA)(Bc:Addr)(i j l:Nat)(D:Ends)(σ:St)(H:Hp):Prop
 | mk (Er:Addr->Addr->Option Addr->Hp->Prop) (h1:jzb C m sp [] (EX Er) ta t σ H fun v H1=>D.nx (σ.set i (some v)) H1)
  (h2:∀ a C' od H1,H1 a=some (XO a C' od false)->Er a C' od H1->(∃ C2 od2,H1 a=some (XO a C2 od2 false)/\W.exmOne K (.ref C2) (.ref Bc)=some true)/\∀ H2,(∀ b o,H1 b=some o->H2 b=some o)->D.nx (((σ.set j (some (.ref a))).set l (some (.ref a))).set j none) H2)
end
end L2
namespace DL
open PySem PySem.Spec L2
noncomputable def xdO(i:Nat):XD:=⟨"",[("",.obj i)]⟩
noncomputable def errI(x:XD):Option Nat:=match x.fs with
 | [(_,.obj i)]=>some i
 | _=>none
noncomputable def ErrK(K:W.Frag)(mg:Str->Option Value)(ρz:Rho)(Sz:Addr->Bool)(Hz:Hp)(F:Addr->Bool)(Ω':Sto)(x:XD)(E:XK):Prop :=
 ∀ i a C od ρ' S' H',errI x=some i->RT ρz Sz Hz F K mg ρ' S' H' Ω'->ρ' i=some a->H' a=some (XO a C od false)->E (.ref a) od H'
noncomputable def OkR(K:W.Frag)(mg:Str->Option Value)(O' B:List Nat)(ρz:Rho)(Sz:Addr->Bool)(Hz:Hp)(F:Addr->Bool)(ρ:Rho)(Hv:Hp)(Dn:Ends)(E:XK)(r:Except XD Out)(Ω':Sto):Prop:=match r with
 | .ok o=>OkE K mg O' B ρz Sz Hz F ρ Hv Dn (.ok o) Ω'
 | .error x=>ErrK K mg ρz Sz Hz F Ω' x E
theorem OkR.back{K:W.Frag}{mg:Str->Option Value}{O' B:List Nat}{ρz ρ ρ':Rho}{Sz:Addr->Bool}{Hz:Hp}{F:Addr->Bool}{Hv Hv':Hp}{Dn:Ends}{E:XK}{r:Except XD Out}{Ω':Sto}(l:RLe ρ ρ')(e:Same Hv Hv')(h:OkR K mg O' B ρz Sz Hz F ρ Hv Dn E r Ω') :
  OkR K mg O' B ρz Sz Hz F ρ' Hv' Dn E r Ω':=by
 cases r with
 | error x=>exact h
 | ok o=>exact OkE.back l e h
inductive sR(K:W.Frag)(mg:Str->Option Value)(O O' B:List Nat)(g:DSt->MS Out)(E:XK)(Dn:Ends)(σ:St)(H:Hp):Prop
 | mk (ρz:Rho) (Sz:Addr->Bool) (Hz:Hp) (F:Addr->Bool) (ρ:Rho) (S:Addr->Bool) (δ:DSt) (Ω:Sto) (R:RM ρz Sz Hz F K mg O ρ S H σ δ Ω) (r:Except XD Out) (Ω':Sto) (hf:g δ Ω=some (r,Ω')) (k:OkR K mg O' B ρz Sz Hz F ρ (hid H (fob (un F S) σ O)) Dn E r Ω')
noncomputable def MSr(X:Cx)(O O' B:List Nat)(E:XK)(st:Stmt)(g:DSt->MS Out):Prop:=PS X st (sR X.K X.mg O O' B g E)
noncomputable def MSsr(X:Cx)(O O' B:List Nat)(E:XK)(st:List Stmt)(g:DSt->MS Out):Prop:=PSs X st (sR X.K X.mg O O' B g E)
noncomputable def Wx(X:Cx)(E:XK):Prop:=∀ pins σ e s,Back X pins σ E e s->X.xe e s
noncomputable def jmi(cs:List Str)(i:Nat):MS Out:=fun Ω=>match Ω[i]? with
 | some (.exc c (j,true))=>if cs.contains c then some (.error (xdO i),Ω.set i (.exc c (j,false))) else none
 | _=>none
noncomputable def jj1(cs:List Str)(fa:DSt->MS D):DSt->MS Out:=fun δ=>(fa δ).b fun d=>match d with
 | .obj i=>jmi cs i
 | _=>fun _=>none
inductive RaiseI(cs:List Str)(d:D)(Ω Ω':Sto)(r:Except XD Out):Prop
 | mk (i:Nat) (c:Str) (j:Option Nat) (h1:d=.obj i) (h2:Ω[i]? = some (.exc c (j,true))) (h3:c∈cs) (h4:r=.error (xdO i)) (h5:Ω'=Ω.set i (.exc c (j,false)))
theorem jph{cs:List Str}{d:D}{Ω Ω':Sto}{r:Except XD Out}(h:(match d with
 | .obj i=>jmi cs i
 | _=>fun _=>none:MS Out) Ω=some (r,Ω')):RaiseI cs d Ω Ω' r:=by
 split at h
 ·rename_i i;unfold jmi at h
  split at h
  ·rename_i c j hi
   split at h
   ·rename_i hc;cases h;exact⟨i,c,j,rfl,hi,zbc.mp hc,rfl,rfl⟩
   ·cases h
  ·cases h
 ·cases h
section
variable {X:Cx}{O O' O'' B:List Nat}{E:XK}{a c e o iter tg:Expr}{fa:DSt->MS D}{fi:DSt->MS (List D)}{pos:Pos}{st:Stmt}{rest:List Stmt}{g g1 g2:DSt->MS Out}{tc:DSt->MS Bool}{cs fs:List Str}{bn:Str}
theorem jou(h:MSs X O O' B rest g):MSsr X O O' B E rest g:=by
 rintro pins s σ H Dn I ⟨ρz,Sz,Hz,F,ρ,S,δ,Ω,R,r,Ω',hf,k⟩;refine h pins s σ H Dn I ⟨ρz,Sz,Hz,F,ρ,S,δ,Ω,R,r,Ω',hf,?_⟩
 cases r with
 | ok o=>exact k
 | error x=>trivial
theorem jot(h1:MSr X O O' B E st g1)(h2:MSsr X O' O'' B E rest g2):MSsr X O O'' B E (st::rest) (eSeq g1 g2):=by
 rintro pins s σ H Dn I ⟨ρz,Sz,Hz,F,ρ,S,δ,Ω,R,r,Ω',hf,k⟩;refine jji h1 h2 pins s σ H Dn I ?_;rcases MS.b_inv hf with ⟨o,Ω1,e1,hf⟩|⟨x,e1,rfl⟩
 ·refine⟨ρz,Sz,Hz,F,ρ,S,δ,Ω,R,.ok o,Ω1,e1,?_⟩
  cases o with
  | nx δ'=>exact fun ρ1 S1 σ1 H1 R1 l1 v1=>⟨ρz,Sz,Hz,F,ρ1,S1,δ',Ω1,R1,r,Ω',hf,k.back l1 v1⟩
  | rt d=>cases hf;exact k
  | bk δ'=>cases hf;exact k
  | ct δ'=>cases hf;exact k
 ·exact⟨ρz,Sz,Hz,F,ρ,S,δ,Ω,R,.error x,_,e1,k⟩
theorem jf3(h1:MSr X O O' B E st g):MSsr X O O' B E [st] g:=fun pins s σ H Dn I h=>jjj h1 pins s σ H Dn I h
theorem jr4{s1 s2:List Stmt}(hc:MT X O c tc)(h1:MSsr X O O' B E s1 g1)(h2:MSsr X O O' B E s2 g2):MSr X O O' B E (.If c s1 s2 pos) (eIf tc g1 g2):=by
 rintro pins s σ H Dn I ⟨ρz,Sz,Hz,F,ρ,S,δ,Ω,R,r,Ω',hg,k⟩;refine jug hc h1 h2 pins s σ H Dn I ?_;rcases MS.b_inv hg with ⟨z,Ω1,e1,hg⟩|⟨x,e1,rfl⟩
 ·refine⟨ρz,Sz,Hz,F,ρ,S,δ,Ω,R,.ok z,_,e1,fun ρ1 S1 H1 R1 l1 v1=>?_⟩
  cases z with
  | true=>exact iteT ⟨ρz,Sz,Hz,F,ρ1,S1,δ,Ω1,R1,r,Ω',hg,k.back l1 v1⟩
  | false=>exact iteF ⟨ρz,Sz,Hz,F,ρ1,S1,δ,Ω1,R1,r,Ω',hg,k.back l1 v1⟩
 ·exact⟨ρz,Sz,Hz,F,ρ,S,δ,Ω,R,.error x,_,e1,trivial⟩
theorem jt1{body:List Stmt}{h:D->DSt->Option DSt}(hp:PassesOwn (model X.prog X.w) X.A X.env X.xe)(hc:X.calm=true)(hi:MI X O tg iter fi)(hg:DG X O tg h)(hb:MSsr X O O O E body g)
  (hs:autoParam (∀ x,foldedSetIterable iter X.env x=pure x) zau3._auto_1):MSr X O O B E (.For tg iter body [] pos) (eFor fi h g):=by
 rintro pins s σ H Dn I ⟨ρz,Sz,Hz,F,ρ,S,δ,Ω,R,r,Ω',hgf,k⟩;refine jsc hp hc hi hg hb hs pins s σ H Dn I ?_;rcases MS.b_inv hgf with ⟨ds,Ω1,e1,hgf⟩|⟨y,e1,rfl⟩
 ·refine⟨ρz,Sz,Hz,F,ρ,S,δ,Ω,R,.ok ds,Ω1,e1,fun J ρ1 S1 H1 R1 l1 v1 it=>?_⟩;refine⟨fun i m σ' H'=>m=ds.length-i/\i<=ds.length/\∃ ρ' S' δ' Ω2,RM ρz Sz Hz F X.K X.mg O ρ' S' H' σ' δ' Ω2/\RLe ρ1 ρ'/\Same (hid H1 (fob (un F S1) σ O)) (hid H' (fob (un F S') σ' O))/\forE g h (ds.drop i) δ' Ω2=some (r,Ω'),
   ⟨ds.length,by simp,Nat.zero_le _,ρ1,S1,δ,Ω1,R1,RLe.refl _,Same.refl _,hgf⟩,?_⟩
  rintro i m σ' H' ⟨rfl,hil,ρ',S',δ',Ω2,R',l',f',hr⟩;obtain⟨j1,j2⟩:=it H' (fob (un F S') σ' O) i f' (fun p hp=>R'.fresh hp)
  by_cases hlt:i<ds.length
  ·obtain⟨go,yld⟩:=j1 hlt;refine .inr ⟨go,fun σ2 H2=>∃ ρ2 S2 δ2 Ω3,RM ρz Sz Hz F X.K X.mg O ρ2 S2 H2 σ2 δ2 Ω3/\RLe ρ1 ρ2/\Same (hid H1 (fob (un F S1) σ O)) (hid H2 (fob (un F S2) σ2 O))/\forE g h (ds.drop (i+1)) δ2 Ω3=some (r,Ω'),fun σ2 H2 ⟨ρ2,S2,δ2,Ω3,a1,a2,a3,a4⟩=>⟨ds.length-(i+1),by omega,rfl,hlt,ρ2,S2,δ2,Ω3,a1,a2,a3,a4⟩,fun x H2 y=>?_⟩;obtain⟨s2,d,hd,rd⟩:=yld x H2 y;have hdr:ds.drop i=d::ds.drop (i+1):=by
    rw[List.drop_eq_getElem_cons hlt];have:ds[i]=d:=by rw[zax hlt] at hd;exact zby hd
    rw[this]
   rw[hdr] at hr;unfold forE at hr
   cases e2:h d δ' with
   | none=>rw[e2] at hr;cases hr
   | some δ1 =>
    rw[e2] at hr;dsimp only at hr;have R2:=R'.mono s2;have f2:Same (hid H1 (fob (un F S1) σ O)) (hid H2 (fob (un F S') σ' O)):=f'.trans (jas s2);refine⟨ρ',_,un F S',δ',d,δ1,R2.rs,rd.rho l',e2,fun σ3 ef R3=>?_⟩;have R3':RM ρz Sz Hz F X.K X.mg O ρ' S' H2 σ3 δ1 Ω2:=R2.next R3 (by rw[ef];exact Same.refl _);rcases MS.b_inv hr with ⟨o,Ω3,e3,hr⟩|⟨y,e3,rfl⟩
    ·refine⟨ρz,Sz,Hz,F,ρ',S',δ1,Ω2,R3',.ok o,Ω3,e3,?_⟩;rw[ef]
     cases o with
     | nx δ4=>exact fun ρ4 S4 σ4 H4 R4 l4 v4=>⟨ρ4,S4,δ4,Ω3,R4,l'.trans l4,f2.trans v4,hr⟩
     | ct δ4=>exact fun ρ4 S4 σ4 H4 R4 l4 v4=>⟨ρ4,S4,δ4,Ω3,R4,l'.trans l4,f2.trans v4,hr⟩
     | bk δ4=>cases hr;exact fun ρ4 S4 σ4 H4 R4 l4 v4=>k ρ4 S4 σ4 H4 R4 (l1.trans (l'.trans l4)) (v1.trans (f2.trans v4))
     | rt v=>cases hr;exact k
    ·exact⟨ρz,Sz,Hz,F,ρ',S',δ1,Ω2,R3',.error y,_,e3,k⟩
  ·have ei:i=ds.length:=by omega
   subst ei;rw[List.drop_length] at hr;cases hr;exact .inl ⟨j2 rfl,k ρ' S' σ' H' R' (l1.trans l') (v1.trans f')⟩
 ·exact⟨ρz,Sz,Hz,F,ρ,S,δ,Ω,R,.error y,_,e1,trivial⟩
theorem jkb(T:ErrT X.K X.mg cs fs bn)(hc:X.calm=true)(hx:Wx X E)(ha:ME X O e fa):MSr X O O' B E (.Raise (some e) none pos) (jj1 cs fa):=by
 rintro pins s σ H Dn I ⟨ρz,Sz,Hz,F,ρ,S,δ,Ω,R,r,Ω',hg,k⟩;refine jq7 ha hc pins s σ H Dn I ?_;rcases MS.b_inv hg with ⟨d,Ω1,e1,hg⟩|⟨x,e1,rfl⟩
 ·refine⟨ρz,Sz,Hz,F,ρ,S,δ,Ω,R,.ok d,Ω1,e1,fun v ρ1 S1 H1 R1 l1 v1 r1=>?_⟩;obtain⟨i,c,j,rfl,hi,hcs,rfl,rfl⟩:=jph hg;obtain⟨ad,q1,q2⟩:=rep_obj.mp r1;obtain⟨ad',p1,p2,p3⟩:=R1.sto.ats i _ hi;rw[q1] at p1;cases p1
  have fin:∀ C od,X.mg c=some (.ref C)->H1 ad=some (XO ad C od true)->SOk ρ1 S1 X.K X.mg (upd H1 ad (XO ad C od false)) (hid H1 (fob (un F S1) σ O)) ad (.exc c (j,false)) ->
    ∃ a C od,v=.ref a/\H1 a=some (XO a C od true)/\XCls X.K C/\∀ pins s,Inv X pins σ (upd H1 a (XO a C od false)) s->Fly (upd H1 a (XO a C od false)) a C od s->X.xe (.ref a) s:=fun C od g1 g2 g3=>by
   refine⟨ad,C,od,q2,g2,T.cls c hcs C g1,fun pins' s' J Fl=>?_⟩;obtain⟨w1,w2⟩:=R1.putS (so':=.exc c (j,false)) (o':=XO ad C od false) hi q1 p2 g2 jsn g3;exact hx pins' σ _ s' ⟨ad,C,od,_,_,rfl,J,Fl,fun _ _ z=>z,k i ad C od ρ1 S1 _ rfl w1.rt q1 jak⟩
  cases p3 with
  | no f C g1 g2=>exact fin C none g1 g2 (ExcOk.no false C g1 jak)
  | yes f j C dx g1 g2 g3=>exact fin C (some dx) g1 g3 (ExcOk.yes false j C dx g1 g2 jak)
 ·exact⟨ρz,Sz,Hz,F,ρ,S,δ,Ω,R,.error x,_,e1,trivial⟩
end
inductive spR(K:W.Frag)(mg:Str->Option Value)(n:Nat)(m:List D->MS D)(vs:List V)(H:Hp)(Q:VK)(E:XK):Prop
 | mk (hn:vs.length=n) (ρ:Rho) (S F:Addr->Bool) (ds:List D) (Ω:Sto) (hF:∀ b,F b=true->H b≠none) (hS:∀ b,F b=true->S b=false) (hr:Reps ρ K (hid H (un F S)) ds vs) (hs:StoOk ρ S K mg H (hid H (un F S)) Ω) (r:Except XD D) (Ω':Sto) (hf:m ds Ω=some (r,Ω')) (k:match (generalizing:=false) r with
  | .ok d=>∀ v ρ' S' H',RT ρ S H F K mg ρ' S' H' Ω'->Rep ρ' K (hid H' (un F S')) d v->Q v H'
  | .error x=>ErrK K mg ρ S H F Ω' x E)
inductive CalY(P:Program)(w:World)(K:W.Frag)(mg:Str->Option Value)(base:Heap)(k:Nat)(x:Str)(n:Nat)(sp:Sp):Prop
 | mk (f:Addr) (fd:FuncData) (ps:List Str) (h1:ps.length=n) (h2:mg x=some (.ref f)) (h3:W.keepIn K (.ref f)=true) (h4:Binds K fd ps []) (h5:FnOk P w K mg base (CX1 P w) k f fd ps sp)
inductive MetY(P:Program)(w:World)(K:W.Frag)(mg:Str->Option Value)(base:Heap)(k:Nat)(c x:Str)(n:Nat)(sp:Sp):Prop
 | mk (C f:Addr) (fd:FuncData) (ps:List Str) (h1:ps.length=n) (h2:mg c=some (.ref C)) (h3:Cls K C) (h4:Meth K C x f) (h5:Binds K fd ps []) (h6:FnOk P w K mg base (CX1 P w) k f fd ps sp)
structure CalR(P:Program)(w:World)(K:W.Frag)(mg:Str->Option Value)(base:Heap)(k:Nat)(x:Str)(n:Nat)(m:List D->MS D):Prop where
 ex:CalY P w K mg base k x n (spR K mg n m)
 ar:∀ ds Ω r,m ds Ω=some r->ds.length=n
structure MetR(P:Program)(w:World)(K:W.Frag)(mg:Str->Option Value)(base:Heap)(k:Nat)(c x:Str)(n:Nat)(m:List D->MS D):Prop where
 ex:MetY P w K mg base k c x n (spR K mg n m)
 ar:∀ ds Ω r,m ds Ω=some r->ds.length=n
section
variable {P:Program}{w:World}{K:W.Frag}{mg:Str->Option Value}{base:Heap}
theorem juv{N:List Str}{qual:Str}{scope:Scope}{f:Addr}{cd:Value}{A:Around}{outer:List Env}{s:Shared}{H:Hp}{E:XK}:Wx (cxOf (CX1 P w) P w K mg base N qual scope f cd A outer s H E) E:=fun _ _ _ _ B=>jwa B
theorem fn_R{x q:Str}{st:Stmt}{N ps:List Str}{k:Nat}{O':List Nat}{g:DSt->MS Out}{f:Addr}{fd:FuncData}(F:Fun K x q st f fd)(Sc:FnScope N ps (jac st))
  (hbody:∀ (f:Addr) (cdv:Value) (A:Around) (outer:List Env) (s:Shared) (H:Hp) (E:XK),Room k (A.deeper (PyProof.Rows.envOfC q (jac st) s.heap.objs.size f cdv)) ->
   MSsr (cxOf (CX1 P w) P w K mg base N q (jac st) f cdv A outer s H E) [] O' [] E (jai st) g):FnOk P w K mg base (CX1 P w) (k+1) f fd ps (spR K mg ps.length (mirE ps.length N.length g)):=by
 obtain⟨oc,od,kV,doc,pm,an,cdv,ct,osl,rfl,lk,hcd⟩:=F.ex;refine jvv lk hcd Sc (fun vs H Q E h=>h.1) fun A outer s H vs Q E hr h=>?_
 obtain⟨hl,ρ,S,F',ds,Ω,fin,ff,rp,sto,r,Ω',hmr,k0⟩:=h;refine⟨_,hbody f cdv A outer s H E hr,?_⟩;have hpl:ps.length<=N.length:=by have:=congrArg List.length Sc.pre;rw[List.length_take] at this;omega
 have hdl:ds.length=ps.length:=by rw[<- rp.length];exact hl
 unfold mirE at hmr;rw[if_pos hdl] at hmr;have R:RM ρ S H F' K mg [] ρ S H (L2.start N vs) (startD N.length ds) Ω:=by
  refine⟨⟨?_,jam,fun b hb=>?_,fun i d hd _=>?_,fun i hi=>absurd hi (by simp),fun i hi=>absurd hi (by simp)⟩,RLe.refl _,fun b o _ h=>h,fun b h=>h,fun b h=>.inl h,fun i hi=>absurd hi (by simp),ff,by rw[jch];exact sto⟩
  ·simp[L2.start,startD,rp.length]
  ·rcases un_t.mp hb with z|z
   ·exact fin b z
   ·exact sto.fin b z
  ·obtain⟨v,e,rv⟩:=rp.get (jgn hd);exact⟨v,jh1 e,by rw[jch];exact rv⟩
 rcases MS.b_inv hmr with ⟨o,Ω1,e1,hmr⟩|⟨y,e1,rfl⟩
 ·refine⟨ρ,S,H,F',ρ,S,_,Ω,R,.ok o,Ω1,e1,?_⟩
  cases o with
  | rt d =>
   cases hmr;exact fun v ρ' S' H' T rv=>k0 v ρ' S' H' T rv
  | nx δ =>
   cases hmr;exact fun ρ' S' σ' H' R' _ _=>k0 .non ρ' S' H' R'.rt (rep_non.mpr rfl)
  | bk δ=>cases hmr
  | ct δ=>cases hmr
 ·exact⟨ρ,S,H,F',ρ,S,_,Ω,R,.error y,_,e1,k0⟩
theorem jnr{x:Str}{st:Stmt}{N ps:List Str}{k:Nat}{O':List Nat}{g:DSt->MS Out}(hf:jbq K mg x st ps)(S:FnScope N ps (jac st))
  (hbody:∀ (f:Addr) (cdv:Value) (A:Around) (outer:List Env) (s:Shared) (H:Hp) (E:XK),Room k (A.deeper (PyProof.Rows.envOfC x (jac st) s.heap.objs.size f cdv)) ->
   MSsr (cxOf (CX1 P w) P w K mg base N x (jac st) f cdv A outer s H E) [] O' [] E (jai st) g):CalR P w K mg base (k+1) x ps.length (mirE ps.length N.length g):=by
 obtain⟨f,fd,hm,F,hb⟩:=hf;exact⟨⟨f,fd,ps,rfl,hm,F.kp,hb,fn_R F S hbody⟩,jlh⟩
end
section
variable {X:Cx}{O B:List Nat}{E:XK}{a b e:Expr}{es:List Expr}{fl:DSt->MS (List D)}{pos p:Pos}{x c:Str}{k n:Nat}
variable {ρz ρ:Rho}{Sz S F:Addr->Bool}{Hz H:Hp}{σ:St}{δ:DSt}{Ω Ω':Sto}
theorem jpu{m:List D->MS D}{ds:List D}{vs:List V}{r:Except XD D}{Q:VK}(R:RM ρz Sz Hz F X.K X.mg O ρ S H σ δ Ω)(hl:ds.length=n)(hr:Reps ρ X.K (hid H (fob (un F S) σ O)) ds vs)(hm:m ds Ω=some (r,Ω'))
  (k:match (generalizing:=false) r with
   | .ok d=>∀ v ρ' S' H',RM ρz Sz Hz F X.K X.mg O ρ' S' H' σ δ Ω'->RLe ρ ρ'->Same (hid H (fob (un F S) σ O)) (hid H' (fob (un F S') σ O))->Rep ρ' X.K (hid H' (fob (un F S') σ O)) d v->Q v H'
   | .error x=>∀ i a C od ρ' S' H',errI x=some i->RM ρz Sz Hz F X.K X.mg O ρ' S' H' σ δ Ω'->RLe ρ ρ'->Same (hid H (fob (un F S) σ O)) (hid H' (fob (un F S') σ O))->ρ' i=some a->H' a=some (XO a C od false)->E (.ref a) od H'):spR X.K X.mg n m vs H Q E:=by
 refine⟨by rw[hr.length];exact hl,ρ,S,fob F σ O,ds,Ω,fun b hb=>?_,fun b hb=>?_,by rw[je2];exact hr,by rw[je2];exact R.sto,r,Ω',hm,?_⟩
 ·intro z;have:=R.fresh z;rw[<- je2,un_t.mpr (.inl hb)] at this;cases this
 ·rcases fob_t.mp hb with z|z
  ·exact R.ff b z
  ·cases e:S b with
   | false=>rfl
   | true=>exact absurd z (R.base_S e)
 ·cases r with
  | error x =>
   intro i a C od ρ' S' H' hx T hρ hH;obtain⟨t1,t2⟩:=R.call T.rho T.same T.old T.new T.ff T.sto;exact k i a C od ρ' S' H' hx t1 T.rho t2 hρ hH
  | ok d =>
   intro v ρ' S' H' T rv;obtain⟨t1,t2⟩:=R.call T.rho T.same T.old T.new T.ff T.sto;rw[je2] at rv;exact k v ρ' S' H' t1 T.rho t2 rv
theorem jos{m:List D->MS D}{spos:Pos}(C:CalR X.prog X.w X.K X.mg X.base k x n m)(hr:Room k X.A)(hx:Wx X E)(ha:MA X O (e::es) fl)(hg:autoParam (Gl X x) zau2._auto_1)(hdb:autoParam ((x == ("__debug__":Str))=false) zau1._auto_1)(he:autoParam (starEach (e::es) X.env=(false,eval e X.env)::starEach es X.env) zau2._auto_1)
  (hpl:autoParam ((backTo pos (starEach es X.env)).any (·.1)=false) zau2._auto_1) (hs:autoParam (swapsWith (.Call (.Name x p) (e::es) [] pos) none spos.line X.env=pure false) zau2._auto_1):MSr X O O B E (.Expr (.Call (.Name x p) (e::es) [] pos) spos) (jmt (jdm m fl)):=by
 obtain⟨f,fd,ps,hl,hm,hk,hb,G⟩:=C.ex;rintro pins s σ H Dn I ⟨ρz,Sz,Hz,F,ρ,S,δ,Ω,R,r,Ω',hf,k⟩;refine jpc (jln G hr hg hm hk hb .nil (fun pins σ H s e s' I c=>hx pins σ e s' (jnj I c)) ha hdb he hpl) hs pins s σ H Dn I ?_;have go:∀ {ds:List D} {Ω1:Sto},fl δ Ω=some (.ok ds,Ω1)->(∀ vs ρ1 S1 H1,RM ρz Sz Hz F X.K X.mg O ρ1 S1 H1 σ δ Ω1->RLe ρ ρ1->Same (hid H (fob (un F S) σ O)) (hid H1 (fob (un F S1) σ O))->Reps ρ1 X.K (hid H1 (fob (un F S1) σ O)) ds vs->spR X.K X.mg n m (vs++[]) H1 (fun _ H2=>Dn.nx σ H2) E)->jxb (jpw (spR X.K X.mg n m) [] E (tEL X.K X.mg O fl)) Dn σ H:=fun e1 q =>
  ⟨ρz,Sz,Hz,F,ρ,S,δ,Ω,R,.ok _,_,e1,q⟩
 rcases MS.b_inv hf with ⟨d,Ω2,e2,hf⟩|⟨y,e2,rfl⟩
 ·cases hf;rcases MS.b_inv e2 with ⟨ds,Ω1,e1,e3⟩|⟨y,e1,z⟩
  ·refine go e1 fun vs ρ1 S1 H1 R1 l1 v1 r1=>?_
   rw[List.append_nil];exact jpu R1 (C.ar ds Ω1 _ e3) r1 e3 fun v ρ2 S2 H2 R2 l2 v2 r2=>k ρ2 S2 σ H2 R2 (l1.trans l2) (v1.trans v2)
  ·cases z
 ·rcases MS.b_inv e2 with ⟨ds,Ω1,e1,e3⟩|⟨y,e1,z⟩
  ·refine go e1 fun vs ρ1 S1 H1 R1 l1 v1 r1=>?_
   rw[List.append_nil];exact jpu R1 (C.ar ds Ω1 _ e3) r1 e3 fun i a C od ρ2 S2 H2 hi R2 l2 v2 hρ hH=>k i a C od ρ2 S2 H2 hi R2.rt hρ hH
  ·exact⟨ρz,Sz,Hz,F,ρ,S,δ,Ω,R,.error _,_,e1,trivial⟩
end
structure ErrM(K:W.Frag)(mg:Str->Option Value)(cs:List Str)(b:Str):Prop where
 atb:∃ C,mg b=some (.ref C)
 ex:∀ c∈cs,∀ C,mg c=some (.ref C)->∀ D,mg b=some (.ref D)->W.exmOne K (.ref C) (.ref D)=some true
noncomputable def jxi(K:W.Frag)(es:List (Str×Addr))(B:Addr):Bool:=es.all fun p=>W.exmOne K (.ref p.2) (.ref B) == some true
theorem jtc{K:W.Frag}{mg:Str->Option Value}{es:List (Str×Addr)}{B:Addr}{b:Str}(hm:∀ p∈es,mg p.1=some (.ref p.2))(hb:mg b=some (.ref B))(h:jxi K es B=true):ErrM K mg (es.map (·.1)) b:=by
 refine⟨⟨B,hb⟩,fun c hc C hC D hD=>?_⟩;rw[hb] at hD;cases hD;obtain⟨p,hp,rfl⟩:=List.mem_map.mp hc;rw[hm p hp] at hC;cases hC;exact beq_iff_eq.mp (List.all_eq_true.mp h p hp)
noncomputable def jl5(cs:List Str)(j l:Nat)(δ:DSt)(y:XD)(Ω':Sto):Option (Except XD Out×Sto):=match errI y with
 | some q=>match Ω'[q]? with
  | some (.exc c (_,false))=>if cs.contains c then some (.ok (.nx (((δ.set j (some (.obj q))).set l (some (.obj q))).set j none)),Ω') else none
  | _=>none
 | none=>none
inductive CaughtI(cs:List Str)(j l:Nat)(δ:DSt)(y:XD)(Ω Ω':Sto)(r:Except XD Out):Prop
 | mk (q:Nat) (c:Str) (jj:Option Nat) (h1:errI y=some q) (h2:Ω[q]? = some (.exc c (jj,false))) (h3:c∈cs) (h4:r=.ok (.nx (((δ.set j (some (.obj q))).set l (some (.obj q))).set j none))) (h5:Ω'=Ω)
theorem jms{cs:List Str}{j l:Nat}{δ:DSt}{y:XD}{Ω Ω':Sto}{r:Except XD Out}(h:jl5 cs j l δ y Ω=some (r,Ω')):CaughtI cs j l δ y Ω Ω' r:=by
 unfold jl5 at h
 split at h
 ·rename_i q hq
  split at h
  ·rename_i c jj hi
   split at h
   ·rename_i hc;cases h;exact⟨q,c,jj,hq,hi,zbc.mp hc,rfl,rfl⟩
   ·cases h
  ·cases h
 ·cases h
section
variable {ρz ρ:Rho}{Sz S F:Addr->Bool}{Hz H:Hp}{K:W.Frag}{mg:Str->Option Value}{O:List Nat}{σ:St}{δ:DSt}{Ω:Sto}
theorem jds{F:Addr->Bool}{j:Nat}(h:j∉O):fob F (σ.set j none) O=fob F σ O:=by
 funext b
 rw[Bool.eq_iff_iff,fob_t,fob_t];refine or_congr Iff.rfl ⟨?_,?_⟩
 ·rintro⟨i,hi,q⟩;rw[zbw (by rintro rfl;exact h hi)] at q;exact⟨i,hi,q⟩
 ·rintro⟨i,hi,q⟩;exact⟨i,hi,by rw[zbw (by rintro rfl;exact h hi)];exact q⟩
theorem RM.unset(R:RM ρz Sz Hz F K mg O ρ S H σ δ Ω){j:Nat}(ho:j∉O):RM ρz Sz Hz F K mg O ρ S H (σ.set j none) (δ.set j none) Ω:=by
 have ne:∀ i∈O,j≠i:=fun i hi e=>ho (e ▸ hi)
 refine⟨⟨by simp[R.rs.len],?_,R.rs.fin,fun i d hd hi=>?_,fun i hi=>?_,fun i hi k hk a q1 q2=>?_⟩,R.rho,R.same,R.old,R.new,fun i hi a q=>?_,R.ff,by rw[jds ho];exact R.sto⟩
 ·rw[jds ho];exact R.rs.same
 ·rw[jds ho];have hij:j≠i:=fun z=>by
   subst z
   by_cases q:j<δ.length
   ·rw[zcz q] at hd;cases hd
   ·rw[List.getElem?_eq_none (by simpa using q)] at hd;cases hd
  rw[zbw hij] at hd |-
  exact R.rs.val i d hd hi
 ·rw[zbw (ne i hi),zbw (ne i hi),jds ho,jds ho];exact R.rs.own i hi
 ·rw[zbw (ne i hi)] at q1;rw[zbw (ne k hk)] at q2;exact R.rs.nd i hi k hk a q1 q2
 ·rw[zbw (ne i hi)] at q;exact R.own0 i hi a q
end
section
end
end DL
namespace L2
open PySem PySem.Spec PyProof.Rows
open PySem.W (Frag InstAt Looks findIn mroIn clsIn)
section
variable {X:Cx}{CX:CXT}{k:Nat}{f:Addr}{fd:FuncData}{ps:List Str}{sp:Sp}{E:XK}{x:Str}{p pos:Pos}{e:Expr}{es:List Expr}{t:TA}
theorem jvw{pins:List (Addr×Obj)}{σ:St}{H:Hp}{s:Shared}{Q:VK}(F:FnOk X.prog X.w X.K X.mg X.base CX k f fd ps sp)(hr:Room k X.A)(hg:Gl X x)(hm:X.mg x=some (.ref f))(hk:W.keepIn X.K (.ref f)=true)(hb:Binds X.K fd ps [])
  (hx:∀ H1 s1 e s',Inv X pins σ H1 s1->CX X.stack H1 s1 E e s'->X.xe e s') (ha:PA X (e::es) t) (hdb:(x == ("__debug__":Str))=false) (he:starEach (e::es) X.env=(false,eval e X.env)::starEach es X.env) (hpl:(backTo pos (starEach es X.env)).any (·.1)=false)
  (I:Inv X pins σ H s) (h:jpw sp [] E t σ H Q):wpAny (model X.prog X.w) X.A (eval (.Call (.Name x p) (e::es) [] pos) X.env) (EP X pins σ Q) X.xe s:=by
 refine wpAny_Call_Name_kw (jgg I hg hm ?_ hdb);refine W.callWith_K (h₀:=X.base) I.ok.mod.kin hk (thn (ha pos pins s σ H _ I h) fun us s1 ⟨vs,H1,I1,r,q⟩=>⟨I1.kIn,?_⟩) he hpl;have q3:sp (vs++[]) H1 Q E:=q;rw[List.append_nil] at q3;exact jw7 F hr hb hx I1 r q3
inductive tTryF(K:Frag)(sp:Sp)(t:TA)(Bc:Addr)(j l:Nat)(D:Ends)(σ:St)(H:Hp):Prop
 | mk (Er:Addr->Addr->Option Addr->Hp->Prop) (h1:jpw sp [] (EX Er) t σ H fun v H1=>D.nx σ H1)
  (h2:∀ a C' od H1,H1 a=some (XO a C' od false)->Er a C' od H1->(∃ C2 od2,H1 a=some (XO a C2 od2 false)/\W.exmOne K (.ref C2) (.ref Bc)=some true)/\∀ H2,(∀ b o,H1 b=some o->H2 b=some o)->D.nx (((σ.set j (some (.ref a))).set l (some (.ref a))).set j none) H2)
theorem jui{B n y:Str}{Bc:Addr}{j l:Nat}{np hpos py pn ypos spos tpos:Pos}(F:FnOk X.prog X.w X.K X.mg X.base (CX1 X.prog X.w) k f fd ps sp)(hr:Room k X.A)(hgx:Gl X x)(hmx:X.mg x=some (.ref f))(hk:W.keepIn X.K (.ref f)=true)(hb:Binds X.K fd ps [])(ha:∀ W,PA (X.wish W) (e::es) t)
  (hst:X.stack=X.env::X.outer) (hfr:X.env.frame=some X.env.locals) (hg:Gl X B) (hmB:X.mg B=some (.ref Bc)) (hN:X.N.Nodup) (hj:X.N[j]? = some n) (hn:X.env.scope.names.lookup n=some .local) (hl:X.N[l]? = some y) (hy:X.env.scope.names.lookup y=some .local) (hjl:j≠l)
  (hdx:(x == ("__debug__":Str))=false) (hdb:(B == ("__debug__":Str))=false) (hnd:(n == ("__debug__":Str))=false) (hncd:(n == ("__classdict__":Str))=false) (hs:swapsWith (.Name n pn) (some (.Name y py)) ypos.line X.env=pure false)
  (hs1:swapsWith (.Call (.Name x p) (e::es) [] pos) none spos.line X.env=pure false) (hse:starEach (e::es) X.env=(false,eval e X.env)::starEach es X.env) (hpl:(backTo pos (starEach es X.env)).any (·.1)=false) :
  PS X (.Try [.Expr (.Call (.Name x p) (e::es) [] pos) spos] [.ExceptHandler (some (.Name B np)) (some n) [.Assign [.Name y py] (.Name n pn) ypos] hpos] [] [] tpos) (tTryF X.K sp t Bc j l):=by
 rintro pins s σ H D I ⟨Er,h1,h2⟩;refine wpAny_Try_except ?_;generalize hW:(fun (e:Value) (s₁:Shared)=>wpAny (model X.prog X.w) X.A (noteFrame e X.env) (fun _ s₂=>wpAny (model X.prog X.w) X.A (setFlight e none) (fun _ s₃=>wpAny (model X.prog X.w) X.A (handleBy e X.env [.ExceptHandler (some (.Name B np)) (some n) [.Assign [.Name y py] (.Name n pn) ypos] hpos]) (SP X pins D) X.xe s₃) X.xe s₂) X.xe s₁)=W;have hxW:∀ H1 s1 e s',Inv (X.wish W) pins σ H1 s1->CX1 X.prog X.w X.stack H1 s1 (EX Er) e s'->W e s':=fun H1 s1 e' s' I1 hc=>by
  obtain⟨a,C',od,Ha,H2,rfl,J,Fl,g7,a2,C2,g8,g9,g10⟩:=jnj (X:=X) I1.unwish hc;cases g8;rw[<- hW];have e1:H2 a=some (XO a C' od false):=by obtain⟨e1,_⟩:=Fl;exact e1
  obtain rfl:C'=C2:=jsm J e1 (g7 _ _ g9);obtain⟨⟨C3,od3,g11,q1⟩,q2⟩:=h2 a C' od Ha g9 g10;obtain rfl:C'=C3:=jsm J e1 (g7 _ _ g11);refine jwt J Fl hst hfr I.ok.frames fun T h' hT J2 F2=>?_
  refine jth J2 F2 q1 hg hmB hdb hN hj hn hl hy hjl hnd hncd hs fun s5 J5=>?_
  refine⟨_,_,J5,q2 _ fun b ob q=>?_⟩;rw[jag (fun z=>by rw[z] at q;rw[g7 _ _ q] at hT;cases hT)];exact g7 b ob q
 have I1:Inv (X.wish W) pins σ H s:=I.wish W;have body:wpAny (model X.prog X.w) X.A (exec (.Expr (.Call (.Name x p) (e::es) [] pos) spos) X.env) (SP (X.wish W) pins D) W s :=
  wpAny_Expr_any (thn (jvw (X:=X.wish W) F hr hgx hmx hk hb hxW (ha W) hdx hse hpl I1 h1) fun v s1 ⟨z,H1,J1,rz,q⟩=>⟨σ,H1,J1,q⟩) I1.quiet hs1
 refine wpAny_execs_cons (thn body fun f s1 q=>?_)
 cases f with
 | next=>exact wpAny_execs_nil (wpAny_execs_nil (SP.unwish q))
 | ret v=>exact SP.unwish q
 | brk=>exact SP.unwish q
 | cont=>exact SP.unwish q
end
end L2
namespace DL
open PySem PySem.Spec L2
noncomputable def jn3(m:List D->MS D)(cs:List Str)(j l:Nat)(fl:DSt->MS (List D)):DSt->MS Out:=fun δ Ω=>match jdm m fl δ Ω with
 | some (.ok _,Ω')=>some (.ok (.nx δ),Ω')
 | some (.error y,Ω')=>jl5 cs j l δ y Ω'
 | none=>none
section
variable {X:Cx}{O B:List Nat}{E:XK}{e:Expr}{es:List Expr}{fl:DSt->MS (List D)}{pos p:Pos}{x:Str}{k n:Nat}
variable {ρz ρ:Rho}{Sz S F:Addr->Bool}{Hz H:Hp}{σ:St}{δ:DSt}{Ω Ω':Sto}
theorem jl4{m:List D->MS D}{r:Except XD D}{Q:VK}(ar:∀ ds Ω r,m ds Ω=some r->ds.length=n)(R:RM ρz Sz Hz F X.K X.mg O ρ S H σ δ Ω)(hf:jdm m fl δ Ω=some (r,Ω'))
  (k:match (generalizing:=false) r with
   | .ok d=>∀ v ρ' S' H',RM ρz Sz Hz F X.K X.mg O ρ' S' H' σ δ Ω'->RLe ρ ρ'->Same (hid H (fob (un F S) σ O)) (hid H' (fob (un F S') σ O))->Rep ρ' X.K (hid H' (fob (un F S') σ O)) d v->Q v H'
   | .error y=>∀ i a C od ρ' S' H',errI y=some i->RM ρz Sz Hz F X.K X.mg O ρ' S' H' σ δ Ω'->RLe ρ ρ'->Same (hid H (fob (un F S) σ O)) (hid H' (fob (un F S') σ O))->ρ' i=some a->H' a=some (XO a C od false)->E (.ref a) od H'):jpw (spR X.K X.mg n m) [] E (tEL X.K X.mg O fl) σ H Q:=by
 rcases MS.b_inv hf with ⟨ds,Ω2,e2,hf3⟩|⟨y,e2,rfl⟩
 ·refine⟨ρz,Sz,Hz,F,ρ,S,δ,Ω,R,.ok ds,Ω2,e2,fun vs ρ2 S2 H2 R2 l2 v2 r2=>?_⟩;show spR X.K X.mg n m (vs++[]) H2 Q E;rw[List.append_nil];refine jpu R2 (ar _ _ _ hf3) r2 hf3 ?_
  cases r with
  | error y=>exact fun i a C od ρ3 S3 H3 he R3 l3 v3 hρ hH=>k i a C od ρ3 S3 H3 he R3 (l2.trans l3) (v2.trans v3) hρ hH
  | ok d=>exact fun v' ρ3 S3 H3 R3 l3 v3 r3=>k v' ρ3 S3 H3 R3 (l2.trans l3) (v2.trans v3) r3
 ·exact⟨ρz,Sz,Hz,F,ρ,S,δ,Ω,R,.error y,_,e2,trivial⟩
theorem jt0{m:List D->MS D}{cs:List Str}{n' y bn:Str}{j l:Nat}{np hpos py pn ypos spos tpos:Pos}(C:CalR X.prog X.w X.K X.mg X.base k x n m)(Em:ErrM X.K X.mg cs bn)(hr:Room k X.A)(ha:∀ W,MA (X.wish W) O (e::es) fl)
  (hst:X.stack=X.env::X.outer) (hfr:X.env.frame=some X.env.locals) (hN:X.N.Nodup) (hjo:O.contains j=false) (hlo:O.contains l=false) (hjl:j≠l)
  (hj:autoParam (X.N[j]? = some n') zau2._auto_1) (hn:autoParam (X.env.scope.names.lookup n'=some .local) zau2._auto_1) (hl:autoParam (X.N[l]? = some y) zau2._auto_1) (hy:autoParam (X.env.scope.names.lookup y=some .local) zau2._auto_1) (hgx:autoParam (Gl X x) zau2._auto_1) (hg:autoParam (Gl X bn) zau2._auto_1)
  (hdx:autoParam ((x == ("__debug__":Str))=false) zau1._auto_1) (hdb:autoParam ((bn == ("__debug__":Str))=false) zau1._auto_1) (hnd:autoParam ((n' == ("__debug__":Str))=false) zau1._auto_1) (hncd:autoParam ((n' == ("__classdict__":Str))=false) zau1._auto_1) (hs:autoParam (swapsWith (.Name n' pn) (some (.Name y py)) ypos.line X.env=pure false) zau2._auto_1)
  (hs1:autoParam (swapsWith (.Call (.Name x p) (e::es) [] pos) none spos.line X.env=pure false) zau2._auto_1) (hse:autoParam (starEach (e::es) X.env=(false,eval e X.env)::starEach es X.env) zau2._auto_1) (hpl:autoParam ((backTo pos (starEach es X.env)).any (·.1)=false) zau2._auto_1) :
  MSt X O O B (.Try [.Expr (.Call (.Name x p) (e::es) [] pos) spos] [.ExceptHandler (some (.Name bn np)) (some n') [.Assign [.Name y py] (.Name n' pn) ypos] hpos] [] [] tpos) (jn3 m cs j l fl):=by
 have no:∀ {q:Nat},O.contains q=false->q∉O:=fun h z=>by rw[zbc.mpr z] at h;cases h
 obtain⟨f,fd,ps,hln,hm,hk,hb,G⟩:=C.ex;obtain⟨Bc,hB⟩:=Em.atb;rintro pins s σ H Dn I ⟨ρz,Sz,Hz,F,ρ,S,δ,Ω,R,r,Ω',hf,k⟩;refine jui (X:=X) (t:=tEL X.K X.mg O fl) G hr hgx hm hk hb (fun W=>ha W) hst hfr hg hB hN hj hn hl hy hjl hdx hdb hnd hncd hs hs1 hse hpl pins s σ H Dn I ?_;unfold jn3 at hf
 cases e0:jdm m fl δ Ω with
 | none=>rw[e0] at hf;cases hf
 | some pr =>
  obtain⟨r0,Ω0⟩:=pr;rw[e0] at hf
  cases r0 with
  | ok d =>
   cases hf;refine⟨fun _ _ _ _=>False,jl4 C.ar R e0 fun v ρ1 S1 H1 R1 l1 v1 r1=>?_,fun _ _ _ _ _ z=>z.elim⟩;exact k ρ1 S1 σ H1 R1 l1 v1
  | error y0 =>
   obtain⟨q,c',jj,g1,g2,g3,rfl,rfl⟩:=jms hf;refine⟨fun a C' od H1=>∃ ρ1 S1,RM ρz Sz Hz F X.K X.mg O ρ1 S1 H1 σ δ Ω'/\RLe ρ ρ1/\Same (hid H (fob (un F S) σ O)) (hid H1 (fob (un F S1) σ O))/\ρ1 q=some a,jl4 C.ar R e0 fun i' a C' od ρ1 S1 H1 he R1 l1 v1 hρ hH=>?_,fun a C' od H1 hH ⟨ρ1,S1,R1,l1,v1,hρ⟩=>⟨?_,fun H2 sm=>?_⟩⟩
   ·rw[g1] at he;cases he;exact⟨a,C',rfl,hH,ρ1,S1,R1,l1,v1,hρ⟩
   ·obtain⟨a',p1,p2,p3⟩:=R1.sto.ats q _ g2;rw[hρ] at p1;cases p1
    cases p3 with
    | no f C2 w1 w2=>exact⟨C2,none,w2,Em.ex c' g3 C2 w1 Bc hB⟩
    | yes f j2 C2 dx w1 w2 w3=>exact⟨C2,some dx,w3,Em.ex c' g3 C2 w1 Bc hB⟩
   ·have R2:=R1.mono (H':=H2) sm;have hob:∀ {Hx:Hp},Rep ρ1 X.K Hx (.obj q) (.ref a):=rep_obj.mpr ⟨a,hρ,rfl⟩;have R3:=((R2.set (i:=j) (d:=.obj q) (v:=.ref a) (no hjo) hob).set (i:=l) (d:=.obj q) (v:=.ref a) (no hlo) hob).unset (no hjo);refine k ρ1 S1 _ H2 R3 l1 ?_;rw[jds (no hjo),jcv (no hlo),jcv (no hjo)];exact v1.trans (jas sm)
noncomputable def jts(fa:DSt->MS D):DSt->MS D:=fun δ=>(fa δ).b fun x=>MS.o (gNot x)
theorem jwi{a:Expr}{fa:DSt->MS D}(ha:ME X O a fa):ME X O (.UnaryOp .Not a pos) (jts fa):=by
 rintro pins s σ H Q I ⟨ρz,Sz,Hz,F,ρ,S,δ,Ω,R,r,Ω',hf,k⟩;refine jr9 ha pins s σ H Q I ?_;rcases MS.b_inv hf with ⟨x,Ω1,e1,hf⟩|⟨x,e1,rfl⟩
 ·refine⟨ρz,Sz,Hz,F,ρ,S,δ,Ω,R,.ok x,Ω1,e1,fun u ρ1 S1 H1 R1 l1 v1 r1=>?_⟩;obtain⟨z,hz,rfl,rfl⟩:=MS.o_inv hf
  cases x with
  | bl c=>cases hz;exact⟨c,rep_bl.mp r1,k _ ρ1 S1 H1 R1 l1 v1 (rep_bl.mpr rfl)⟩
  | _=>cases hz
 ·exact⟨ρz,Sz,Hz,F,ρ,S,δ,Ω,R,.error x,_,e1,trivial⟩
end
noncomputable def rs1(Ω:Sto):D->Option D
 | .obj i=>match Ω[i]? with
  | some (.lst ds)=>some (.lst ds)
  | _=>none
 | d=>some d
noncomputable def rsL(Ω:Sto):List D->Option (List D)
 | []=>some []
 | d::ds=>(rs1 Ω d).bind fun x=>(rsL Ω ds).map fun xs=>x::xs
noncomputable def rsT(Ω:Sto):D->Option D
 | .tup ds=>(rsL Ω ds).map .tup
 | d=>rs1 Ω d
section
end
inductive NeRI(x y:D)(Ω Ω':Sto)(r:Except XD D):Prop
 | mk (x' y':D) (h1:rsT Ω x=some x') (h2:rsT Ω y=some y') (h3:(okD x'&&okD y'&&decide (depD x'<=20))=true) (h4:r=.ok (.bl !(eqB x' y'))) (h5:Ω'=Ω)
section
end
end DL
namespace L2
open PySem PySem.Spec PyProof.Rows PySem.W
section
variable {X:Cx}
theorem jmr(hn:specialIn X.K (.builtin "object.__class__") "__get__"=some (some (.builtin "getset_descriptor.__get__")))(htk:takesIn X.K (.builtin "object.__class__")=some true) :
  CallR X (.builtin "isinstance") (fun xs H Q=>∃ a C od fr p,∃ as:List Addr,∃ b,xs=[.ref a,.ref p]/\H a=some (XO a C od fr)/\XCls X.K C/\(∀ dx,od=some dx->∃ fs,H dx=some (XDc dx fs))/\H p=some (.tup (as.map V.ref))/\W.kitAny X.K (.ref C) (as.map Value.ref)=some b/\Q (.bl b) H):=by
 intro pins s σ H xs us Q I r h;obtain⟨a,C,od,fr,p,as,b,rfl,ea,cl,hd,hp,hk,q⟩:=h;obtain⟨u,c',rfl,ru,rc⟩:=r.two;cases ru;cases rc;obtain⟨hz,its,vi,o,ho,hc,n,hda⟩:=I.hok p _ hp;have ei:its=as.map Value.ref:=by
  have go:∀ {as:List Addr} {us:List Value},Vals (as.map V.ref) us->us=as.map Value.ref:=by
   intro as
   induction as with
   | nil=>intro us z;rw[List.map_nil] at z;cases z;rfl
   | cons x as ih =>
    intro us z;rw[List.map_cons] at z
    cases z with
    | cons z1 z2=>cases z1;rw[ih z2];rfl
  exact go vi
 subst ei;obtain⟨oc,odd,oda,osl⟩:=o;dsimp only at hc hda;subst hc;subst hda;obtain⟨vs,sl,h0,hf0⟩:=jk1 I ea;have J:∃ ox od',InstAt s.heap a ox C od':=by
  cases od with
  | none=>exact⟨_,_,jlw h0⟩
  | some dx =>
   obtain⟨fs,ed⟩:=hd dx rfl;obtain⟨mA,⟨o,_,_,e,_⟩,_⟩:=jrj I ed;exact⟨_,_,jjm h0 e⟩
 exact W.kia_tup (jry cl.x cl.ga cl.gh cl.cl hn htk) I.kIn J ho hk (fun z=>nomatch z) fun tk=>⟨.bl b,H,I.tok _,rfl,q⟩
noncomputable def jze(as:List Addr):TA:=fun _ H Q=>Q (as.map V.ref) H
end
end L2
namespace DL
open PySem PySem.Spec L2
section
variable {X:Cx}{O:List Nat}{e:Expr}{es:List Expr}{fa:DSt->MS D}{cs fs:List Str}{bn d:Str}{ds:List Str}{p p2 p3 pos:Pos}
inductive ClL(X:Cx)(es:List Expr)(ds:List Str):Prop
 | mk (as:List Addr) (h1:PA X es (jze as)) (h2:Paired (fun (d:Str) (a:Addr)=>X.mg d=some (.ref a)) ds as)
theorem jrr:ClL X [] []:=⟨[],jhz,.nil⟩
theorem jdd(T:ErrT X.K X.mg cs fs bn)(h:ClL X es ds)(hd:autoParam (cs.contains d=true) zau2._auto_1)(hg:autoParam (Gl X d) zau2._auto_1)(hdb:autoParam ((d == ("__debug__":Str))=false) zau1._auto_1)(hs:autoParam (starEach (.Name d p::es) X.env=(false,eval (.Name d p) X.env)::starEach es X.env) zau2._auto_1):ClL X (.Name d p::es) (d::ds):=by
 obtain⟨as,h1,h2⟩:=h;obtain⟨a,ha⟩:=T.ats d (zbc.mp hd);exact⟨a::as,jdo (jlo (v:=.ref a) hg ha rfl hdb) h1 hs,.cons ha h2⟩
theorem jr1{x1}(T:ErrT X.K X.mg cs fs bn)(hL:ClL X es ds)(hds:ds.all (cs.contains ·)=true)(hm:X.mg "isinstance"=none)(ha:ME X O e fa)(hl:ds.length<=100)(hG:autoParam (Gl X "isinstance") zau2._auto_1)
  (he:autoParam (starEach (e::[.Tuple es x1 p3]) X.env=(false,eval e X.env)::starEach [.Tuple es x1 p3] X.env) zau2._auto_1) (he2:autoParam (starEach [.Tuple es x1 p3] X.env=(false,eval (.Tuple es x1 p3) X.env)::starEach [] X.env) zau2._auto_1) (hpl:autoParam ((backTo pos (starEach [.Tuple es x1 p3] X.env)).any (·.1)=false) zau2._auto_1) :
  ME X O (.Call (.Name "isinstance" p) [e,.Tuple es x1 p3] [] pos) (mIsX cs (fun c=>ds.contains c) fa):=by
 obtain⟨as,h1,h2⟩:=hL;rintro pins s σ H Q I ⟨ρz,Sz,Hz,F,ρ,S,δ,Ω,R,r,Ω',hg,k⟩;have kA:∀ c∈cs,∀ C,X.mg c=some (.ref C)->W.kitAny X.K (.ref C) (as.map Value.ref)=some (ds.contains c):=by
  intro c hc C hC
  clear h1 hl he he2 hpl hg k
  induction h2 with
  | nil=>rfl
  | @cons d a ds as z zs ih =>
   rw[List.all_cons,Bool.and_eq_true] at hds;obtain⟨D1,g1,g2⟩:=T.pair c hc d (zbc.mp hds.1) C hC;rw[z] at g1;cases g1
   have ih:=ih hds.2
   show (match W.kitOne X.K (.ref C) (.ref a) with
    | some true=>some true
    | some false=>W.kitAny X.K (.ref C) (as.map Value.ref)
    | none=>none)=_
   rw[g2,List.contains_cons]
   cases hcd:(c == d) with
   | true=>rfl
   | false=>rw[Bool.false_or];exact ih
 have la:(as.map V.ref).length<=sizeLine:=by
  rw[zav,<- h2.length,sizeLine_eq];exact Nat.le_trans hl (by decide)
 refine jg9 (jmr T.sp T.tk) hG hm jc2 (jdo ha (jdo (jsb h1) jhz he2) he) (by decide) (by decide) he hpl pins s σ H Q I ?_;rcases MS.b_inv hg with ⟨x,Ω1,e1,hg⟩|⟨x,e1,rfl⟩
 ·refine⟨ρz,Sz,Hz,F,ρ,S,δ,Ω,R,.ok x,Ω1,e1,fun w ρ1 S1 H1 R1 l1 v1 r1=>?_⟩;obtain⟨i,c,oj,fr,rfl,hi,hj,hc,rfl,rfl⟩:=joe hg;obtain⟨ad,q1,q2⟩:=rep_obj.mp r1;obtain⟨ad',p1,p2,p3⟩:=R1.sto.ats i _ hi;rw[q1] at p1;cases p1
  subst q2;refine⟨la,fun pt hpt=>?_⟩;have sm:Same H1 (upd H1 pt (.tup (as.map V.ref))):=ja3 hpt;have R2:=R1.mono sm;have fin:Q (.bl (ds.contains c)) (upd H1 pt (.tup (as.map V.ref))):=k _ ρ1 S1 _ R2 l1 (v1.trans (jas sm)) (rep_bl.mpr rfl)
  cases p3 with
  | no fr C h1' h2'=>exact⟨ad,C,none,fr,pt,as,ds.contains c,rfl,sm _ _ h2',T.cls c hc C h1',(fun dx z=>nomatch z),jak,kA c hc C h1',fin⟩
  | yes fr j C dx h1' h2' h3' =>
   obtain⟨fl,hj⟩:=hj j rfl;obtain⟨dx',s1,s2,vfs,s3,s4⟩:=R1.sto.ats j _ hj;rw[h2'] at s1;cases s1
   exact⟨ad,C,some dx,fr,pt,as,ds.contains c,rfl,sm _ _ h3',T.cls c hc C h1',(fun dx' z=>by cases z;exact⟨vfs,sm _ _ s3⟩),jak,kA c hc C h1',fin⟩
 ·exact⟨ρz,Sz,Hz,F,ρ,S,δ,Ω,R,.error x,_,e1,trivial⟩
end
end DL
namespace L2
open PySem PySem.Spec PyProof.Rows
section
variable {κ:Type}[DecidableEq κ]
noncomputable def met(f:Nat->κ):Nat->List κ
 | 0=>[]
 | i+1=>if f i∈met f i then met f i else met f i++[f i]
theorem jr2(f:Nat->κ):∀ i,(met f i).length<=i
 | 0=>zac _
 | i+1=>by
  have h:=jr2 f i;unfold met
  split
  ·exact Nat.le_succ_of_le h
  ·rw[zca];exact Nat.succ_le_succ h
theorem jwk(f:Nat->κ)(i:Nat)(x:κ):decide (x∈met f (i+1))=(decide (x∈met f i) || decide (x=f i)):=by
 rw[Bool.eq_iff_iff,Bool.or_eq_true,decide_eq_true_iff,decide_eq_true_iff,decide_eq_true_iff];show x∈(if f i∈met f i then met f i else met f i++[f i])↔_
 split
 ·rename_i h;exact⟨.inl,fun z=>z.elim id fun e=>e ▸ h⟩
 ·rw[List.mem_append,List.mem_singleton]
theorem jtw(f:Nat->κ)(i:Nat):(met f (i+1)).length=if decide (f i∈met f i)=true then (met f i).length else (met f i).length+1:=by
 show (if f i∈met f i then met f i else met f i++[f i]).length=_
 by_cases h:f i∈met f i
 ·rw[if_pos h,decide_eq_true h,if_pos rfl]
 ·rw[if_neg h,decide_eq_false h,zca];rfl
variable {prog:Program}{w:World}{knd:KeyKind prog w κ}{A:Around}{R:Result->Shared->Prop}{I S:Addr}{fp wr:List Addr}{G:Array GenState->Array GenState->Prop}{n:Nat}{P:Nat->Value->Prop}{St:Nat->Shared->Prop}{f:Nat->κ}
noncomputable abbrev SetAt(knd:KeyKind prog w κ)(f:Nat->κ)(h:Heap)(a:Addr)(i:Nat):Prop:=h.SetOf knd a (fun x=>decide (x∈met f i)) (met f i).length
theorem SetAt.go{h h':Heap}{a:Addr}{i:Nat}(z:SetAt knd f h a i)(k:∀ o,h.get? a=some o->h'.get? a=some o):SetAt knd f h' a i:=by
 obtain⟨o,es,ep,t,ho,r⟩:=z;exact⟨o,es,ep,t,k o ho,r⟩
theorem jrb(W:WalksS prog w A.in1 I fp wr G n P St)(hS:S∉fp)(hf:∀ i v,P i v->knd.is (f i) v=true/\v.scannable=true)(hn:n+1<scanBound) :
  ∀ (k i:Nat) (s:Shared),i+k=n->St i s->SetAt knd f s.heap S i->(∀ s',Moved (S::wr) G s s'->SetAt knd f s'.heap S n->R (.ok (.ret .none)) s') ->
   codeAny (model prog w) A (.builtin "set.update.loop" ⟨[.ref S,.ref I],[]⟩) R s:=by
 have nw:S∉wr:=fun z=>hS (W.sub _ z)
 have up:∀ b∈wr,b∈S::wr:=fun _ z=>.tail _ z
 intro k
 induction k with
 | zero =>
  intro i s e st z q;cases e;refine codeAny_builtin PyProof.Rows.F.entry_set_update_loop ?_;rw[Around.under_plainId PyProof.Rows.F.plain_set_update_loop _];exact zay (W.done s _ _ st fun s2 m=>zab (q s2 (m.mono up) (z.go fun o=>m.heap S o nw)))
 | succ k ih =>
  intro i s e st z q;have il:i<n:=by omega
  refine codeAny_builtin PyProof.Rows.F.entry_set_update_loop ?_;rw[Around.under_plainId PyProof.Rows.F.plain_set_update_loop _];refine zay (W.item i s _ _ il st fun v s2 p st2 m=>?_);obtain⟨h1,h2⟩:=hf i v p;have z2:SetAt knd f s2.heap S i:=z.go fun o=>m.heap S o nw
  refine zay (m:=holding [v] (setAdd S v)) (wpAny_holding ?_);unfold setAdd;refine wpAny_holding (zay (knd.pyHash h1 ?_));have room:(met f i).length+1<scanBound:=by have:=jr2 f i;omega
  refine wpAny_setAddHashed_of (s:={ s2 with toks:=s2.toks+1 }) h1 h2 z2 room fun h3 sb z3=>?_
  have z4:SetAt knd f h3 S (i+1):=by
   have e1:(fun x=>decide (x∈met f i) || decide (x=f i))=fun x=>decide (x∈met f (i+1)):=funext fun x=>(jwk f i x).symm
   have z5:=z3;rw[e1,<- jtw f i] at z5;exact z5
  refine zab ⟨plainId_quiet PyProof.Rows.F.plain_set_update_loop _,ih (i+1) _ (by omega) (W.frame _ s2 _ _ st2 (Nat.le_succ _) fun b hb o e2=>?_) z4 fun s5 m5 z6=>?_⟩
  ·rw[sb.2 b fun c=>hS (c ▸ hb)];exact e2
  ·refine q s5 (Moved.trans W.gtrans ((m.mono up).then_heap (Nat.le_succ _) fun b o hb e2=>?_) m5) z6;rw[sb.2 b fun c=>hb (c ▸ zaa)];exact e2
end
noncomputable abbrev nSet(led:Bool):Obj:=⟨.type "set",none,.set #[] 0 (.fresh 0 0 led),#[]⟩
section
variable {κ:Type}[DecidableEq κ]{prog:Program}{w:World}{knd:KeyKind prog w κ}{A:Around}{E:Value->Shared->Prop}{s:Shared}{f:Nat->κ}
theorem jnv{l:Addr}{its:Array Value}{Q:Value->Shared->Prop}(hh:A.handled=none)(hl:s.heap.IsList l its)(hf:∀ i v,its[i]? = some v->knd.is (f i) v=true/\v.scannable=true)(hn:its.size+1<scanBound)
  (q:∀ h2 tk,SetAt knd f h2 s.heap.objs.size its.size->(∀ b o,b<s.heap.objs.size->s.heap.get? b=some o->h2.get? b=some o)->Q (.ref s.heap.objs.size) { s with heap:=h2,toks:=tk }) :
  wpAny (model prog w) A (call (.type "set") [.ref l]) Q E s:=by
 obtain⟨c0,tl,hm⟩:=PySem.F.called_set.mro;have m1:=PySem.F.called_set.made;have m2:=PySem.F.called_set.sub;refine wpAny_call (codeAny_of_tree (zab ⟨Code.quiet_builtin _ (by decide +kernel),codeAny_builtin PySem.F.entry_type_call ?_⟩));rw[Around.under_plain (weight_type_call_type "set" [.ref l] []) rfl];have m3:=PySem.F.called_set.notType;have m4:=PySem.F.called_set.canCreate;have m5:=PySem.F.typeCall_set_1 (.ref l)
 repeat (any_goals (first|assumption|wp_step))
 refine codeAny_mono (code_set_new_1 (.ref l) (E:=E) (Q₁:=fun ob s1=>∃ led,ob=.ref s.heap.objs.size/\s1={ s with heap:=s.heap.push (nSet led) }) fun led=>⟨led,rfl,rfl⟩) fun r s1 hr=>?_
 match r,hr with
 | .error e,hr=>exact hr
 | .ok (.ret ob),hr =>
  obtain⟨led,rfl,rfl⟩:=hr;have g0:(s.heap.push (nSet led)).get? s.heap.objs.size=some (nSet led):=zbz _ rfl;have ty:Shared.TypeIs { s with heap:=s.heap.push (nSet led) } (.ref s.heap.objs.size) "set":=⟨_,g0,rfl⟩
  have i1:=PySem.F.called_set.init.lookup;have i2:=PySem.F.called_set.init.bind (.ref s.heap.objs.size)
  repeat (any_goals (first|assumption|wp_step))
  refine codeAny_mono (codeAny_call_builtin (R:=wants (fun r s2=>r=.none/\∃ h2 tk,s2={ s with heap:=h2,toks:=tk }/\SetAt knd f h2 s.heap.objs.size its.size/\∀ b o,b<s.heap.objs.size->s.heap.get? b=some o->h2.get? b=some o) E) PySem.F.called_set.init.plain PySem.F.entry_set_init (check_set_init_1 ty ?_)) fun r2 s2 hr2=>?_
  ·obtain⟨⟨oc,od,oda,osl⟩,ho,hc,nl,hd⟩:=hl;dsimp only at hc hd;subst hc;subst hd;have ho2:(s.heap.push (nSet led)).get? l=some ⟨.type "list",od,.seq its nl,osl⟩:=zaz _ ho;have u1:=PySem.F.sub_list_set;have u2:=PySem.F.sub_list_frozenset;have u3:(Value.type "list" == Value.type "dict")=false:=by decide
   have li:(s.heap.push (nSet led)).IsList l its:=⟨_,ho2,rfl,nl,rfl⟩
   unfold Builtin.«set.__init__» noKeywords Builtin.Frozenset.updateFrom;generalize hp:pyIter=PI
   wp_walk
   subst hp;refine wpAny_pyIter_list li (zay (wpAny_runValue ?_));have lt:l<s.heap.objs.size:=zbv ho;have sz:(s.heap.push (nSet led)).objs.size=s.heap.objs.size+1:=Heap.size_push _ _;have ni:l≠(s.heap.push (nSet led)).objs.size:=by rw[sz];exact zcv (Nat.lt_succ_of_lt lt)
   refine jrb (knd:=knd) (f:=f) (S:=s.heap.objs.size) ((Walks.list (show A.in1.in1.in1.handled=none by simp[hh]) _ l ni its).toS) (by
    rw[sz];intro z;rcases List.mem_cons.mp z with z|z
    ·exact zcv (Nat.lt_succ_self _) z
    ·exact Nat.ne_of_gt lt (List.mem_singleton.mp z)) hf hn its.size 0 _ (Nat.zero_add _) ⟨⟨_,zbz _ rfl,rfl,rfl⟩,li.push _⟩ ?_ ?_
   ·exact SetOf_congr ((setObjOf_fresh (knd:=knd) led).setOf (zaz _ g0) (by unfold scanBound;omega)) (fun _=>rfl) rfl
   ·rintro⟨h2,g2,d2,t2,o2⟩ mv z;cases (show g2=s.gens from mv.gens);cases (show d2=s.drawn from mv.drawn);cases (show o2=s.os from mv.os);refine zab (zab ⟨rfl,h2,t2,rfl,z,fun b o hb e=>?_⟩);refine mv.heap b o (fun c=>?_) (zaz _ (zaz _ e));rcases List.mem_cons.mp c with c|c
    ·exact zcv hb c
    ·have:=List.mem_singleton.mp c;rw[sz] at this;exact zcv (Nat.lt_succ_of_lt hb) this
  ·match r2,hr2 with
   | .error e,hr2=>exact hr2
   | .ok (.ret r),hr2 =>
    obtain⟨rfl,h2,tk,rfl,z,kp⟩:=hr2
    repeat (any_goals (first|assumption|wp_step))
    exact q _ _ z kp
   | .ok .next,hr2=>exact hr2.elim
   | .ok .brk,hr2=>exact hr2.elim
   | .ok .cont,hr2=>exact hr2.elim
 | .ok .next,hr=>exact hr.elim
 | .ok .brk,hr=>exact hr.elim
 | .ok .cont,hr=>exact hr.elim
theorem jnt{a:Addr}{n:Nat}{Q:Value->Shared->Prop}(z:SetAt knd f s.heap a n)(hn:n<4096)(q:∀ t tk,Q (.int (met f n).length t) { s with toks:=tk }):wpAny (model prog w) A (call (.builtin "len") [.ref a]) Q E s:=by
 obtain⟨o,es,ep,t,ho,ex,hd,_,_,hb,ht,e⟩:=z;refine call_len_set ho ex hd ht (by unfold scanBound at hb;omega) ?_;have:=q (s.toks+1) (s.toks+1+1);rw[<- e] at this;exact this
end
theorem jtx{κ:Type}[DecidableEq κ]{f:Nat->κ}{i:Nat}(h:f i∉met f i):met f (i+1)=met f i++[f i]:=if_neg h
noncomputable def jj7(ks:List Key)(i:Nat):Key:=(ks[i]?).getD (.inl 0)
noncomputable def SetF(P:Program)(w:World)(a:Addr)(ks:List Key):Heap->Prop:=fun h=>SetAt (jev P w) (jj7 ks) h a ks.length
noncomputable def cntK(ks:List Key):Nat:=(met (jj7 ks) ks.length).length
section
variable {X:Cx}
theorem jtm{k:Key}{u:Value}(r:RelV (kV k) u):u.scannable=true:=by
 cases k with
 | inl i=>obtain⟨t,e⟩:=(show ∃ t,u=Value.int i t from r);subst e;rfl
 | inr x=>obtain⟨t,e⟩:=(show ∃ t,u=Value.str x t from r);subst e;rfl
theorem jp2:∀ {ks:List Key} {us:List Value},Vals (ks.map kV) us->∀ (i:Nat) (v:Value),us[i]? = some v->RelV (kV (jj7 ks i)) v
 | [],us,r,i,v,h=>by rw[List.map_nil] at r;cases r;cases h
 | k::ks,us,r,i,v,h=>by
  rw[List.map_cons] at r
  cases r with
  | cons a b =>
   cases i with
   | zero=>cases h;exact a
   | succ i=>exact jp2 b i v h
theorem jnw(hc:X.calm=true):CallR X (.type "set") (fun xs H Q=>∃ p ks,xs=[.ref p]/\SqL X.K H p (ks.map kV)/\ks.length<4000/\∀ l,H l=none->Q (.ref l) (upd H l (.ext (SetF X.prog X.w l ks)))):=by
 intro pins s σ H xs us Q I r h;obtain⟨p,ks,rfl,hq,hn,q⟩:=h;obtain⟨u,rfl,rx⟩:=jkz r;cases rx;obtain⟨its,r',pl,hz⟩:=I.list hq;have hl:its.length=ks.length:=by rw[<- r'.length,zav]
 refine jnv (knd:=jev X.prog X.w) (f:=jj7 ks) (I.ok.hd hc) pl.isList (fun i v e=>?_) (by rw[zbx,hl];unfold scanBound;omega) fun h2 tk z kp=>?_
 ·rw[List.getElem?_toArray] at e;have g:=jp2 r' i v e;exact⟨jyh g,jtm g⟩
 ·have z1:its.toArray.size=ks.length:=by rw[zbx,hl]
  rw[z1] at z;refine⟨.ref s.heap.objs.size,_,I.laid (t':=tk) (fun b o e=>kp b o (zbv e) e) (zac _) ?_,rfl,q _ (I.hok.fresh (zac _))⟩;show SetF X.prog X.w s.heap.objs.size ks h2/\_/\_;obtain⟨o,es,ep,t,ho,w1⟩:=id z;exact⟨z,⟨o,ho⟩,fun h3 h4 z3 k4=>SetAt.go z3 k4⟩
theorem jnu:CallR X (.builtin "len") (fun xs H Q=>∃ a ks,xs=[.ref a]/\H a=some (.ext (SetF X.prog X.w a ks))/\ks.length<4000/\Q (.int (cntK ks)) H):=by
 intro pins s σ H xs us Q I r h;obtain⟨a,ks,rfl,ha,hn,q⟩:=h;obtain⟨u,rfl,rx⟩:=jkz r;cases rx;have z:SetF X.prog X.w a ks s.heap:=(I.hok a _ ha).1;exact jnt z (by omega) fun t tk=>⟨.int (cntK ks),H,I.tok _,⟨t,rfl⟩,q⟩
end
end L2
namespace DL
open PySem PySem.Spec L2
noncomputable def keyD:D->Option Key
 | .str x=>some (.inr x)
 | .int i=>some (.inl i)
 | _=>none
noncomputable def jih:List D->Option (List Key)
 | []=>some []
 | d::ds=>(keyD d).bind fun k=>(jih ds).map fun ks=>k::ks
noncomputable def jtf:D->Option D
 | .lst ds=>(jih ds).bind fun ks=>if ks.length<4000 then some (.int (cntK ks)) else none
 | _=>none
theorem jqr{ρ:Rho}{K:W.Frag}{H:Hp}{d:D}{k:Key}{v:V}(h:keyD d=some k)(r:Rep ρ K H d v):v=kV k:=by
 cases d with
 | str x=>cases h;exact rep_str.mp r
 | int i=>cases h;exact rep_int.mp r
 | _=>cases h
theorem jj8{ρ:Rho}{K:W.Frag}{H:Hp}:∀ {ds:List D} {ks:List Key} {vs:List V},jih ds=some ks->Reps ρ K H ds vs->vs=ks.map kV
 | [],ks,vs,h,r=>by cases h;rw[reps_nil.mp r];rfl
 | d::ds,ks,vs,h,r=>by
  unfold jih at h
  cases hk:keyD d with
  | none=>rw[hk] at h;cases h
  | some k =>
   rw[hk] at h
   cases hs:jih ds with
   | none=>rw[hs] at h;cases h
   | some ks' =>
    rw[hs] at h;cases h;obtain⟨v,vs',rfl,q1,q2⟩:=reps_cons.mp r;rw[jqr hk q1,jj8 hs q2];rfl
section
variable {X:Cx}{O:List Nat}{E:XK}{e:Expr}{fa:DSt->M D}{p p2 p3 p4:Pos}
theorem js3(hc:X.calm=true)(ms:X.mg "set"=none)(ml:X.mg "len"=none)(ha:DE X O E e fa)(gs:autoParam (Gl X "set") zau2._auto_1)(gl:autoParam (Gl X "len") zau2._auto_1)
  (he:autoParam (starEach [e] X.env=(false,eval e X.env)::starEach [] X.env) zau2._auto_1) (he2:autoParam (starEach [.Call (.Name "set" p2) [e] [] p3] X.env=(false,eval (.Call (.Name "set" p2) [e] [] p3) X.env)::starEach [] X.env) zau2._auto_1)
  (hp:autoParam ((backTo p3 (starEach [] X.env)).any (·.1)=false) zau2._auto_1) (hp2:autoParam ((backTo p4 (starEach [] X.env)).any (·.1)=false) zau2._auto_1) :
  DE X O E (.Call (.Name "len" p) [.Call (.Name "set" p2) [e] [] p3] [] p4) (f1 jtf fa):=by
 rintro pins s σ H Q I ⟨ρ,Hz,F,δ,r,R,hf,k⟩;refine jg9 jnu gl ml jea (jdo (jkl (jnw hc) gs ms jva (jdo ha jhz he) (by decide) (by decide) he hp) jhz he2) (by decide) (by decide) he2 hp2 pins s σ H Q I ?_;rcases M.b_inv hf with ⟨x,e1,hf⟩|⟨x,e1,rfl⟩
 ·refine⟨ρ,Hz,F,δ,.ok x,R,e1,fun v H1 s1 r1=>?_⟩;obtain⟨d,hd,rfl⟩:=M.o_inv hf
  cases x with
  | lst ds =>
   have hd:((jih ds).bind fun ks=>if ks.length<4000 then some (D.int (cntK ks)) else none)=some d:=hd
   cases hk:jih ds with
   | none=>rw[hk] at hd;cases hd
   | some ks =>
    rw[hk] at hd;have hd2:(if ks.length<4000 then some (D.int (cntK ks)) else none)=some d:=hd
    split at hd2
    ·rename_i hn;cases hd2;obtain⟨a,ys,rfl,q1,q2⟩:=rep_lst.mp r1;rw[jj8 hk q2] at q1;exact⟨a,ks,rfl,jc1 jam q1,hn,fun l hl=>⟨l,ks,rfl,jak,hn,k _ _ (s1.trans (ja3 hl)) (rep_int.mpr rfl)⟩⟩
    ·cases hd2
  | _=>cases hd
 ·exact⟨ρ,Hz,F,δ,.error x,R,e1,k⟩
end
theorem js0{ks:List Key}(h:ks.Nodup):cntK ks=ks.length:=by
 have go:∀ i,i<=ks.length->met (jj7 ks) i=ks.take i:=by
  intro i
  induction i with
  | zero=>intro _;rfl
  | succ i ih =>
   intro hi;have il:i<ks.length:=hi;have e:jj7 ks i=ks[i]:=by unfold jj7;rw[zax il];rfl
   have ni:jj7 ks i∉ks.take i:=by
    rw[e];intro c;obtain⟨j,hj,ej⟩:=List.mem_take_iff_getElem.mp c;have jl:j<i:=zcx hj (Nat.min_le_left _ _);exact absurd ((List.getElem_inj h).mp ej) (zcv jl)
   have im:=ih (Nat.le_of_lt il);rw[jtx (by rw[im];exact ni),im,e,List.take_append_getElem il]
 unfold cntK;rw[go _ (zac _),List.take_length]
theorem joj(xs:List Str):jih (xs.map .str)=some (xs.map .inr):=by
 induction xs with
 | nil=>rfl
 | cons x xs ih=>rw[List.map_cons];unfold jih;rw[ih];rfl
theorem jqu{xs:List Str}(h:xs.Nodup)(hn:xs.length<4000):jtf (.lst (xs.map .str))=some (.int xs.length):=by
 show ((jih (xs.map .str)).bind fun ks=>if ks.length<4000 then some (D.int (cntK ks)) else none)=_;rw[joj];show (if (xs.map (Sum.inr:Str->Key)).length<4000 then _ else none)=_;rw[zav,if_pos hn,js0 (List.Pairwise.map _ (fun a b c e=>c (Sum.inr.inj e)) h),zav]
noncomputable def txtD:D->Option (List D)
 | .str x=>some ((List.range x.cps.size).map fun i=>.str ⟨#[x.cps.getD i 0]⟩)
 | _=>none
noncomputable def jvz(f:DSt->M D):DSt->M (List D):=fun δ=>(f δ).b fun d=>M.o (txtD d)
section
variable {X:Cx}{O:List Nat}{E:XK}{tg iter:Expr}{fa:DSt->M D}
theorem jvd(h:DE X O E iter fa):DI X O E tg iter (jvz fa):=by
 rintro pins s σ H R I ⟨ρ,Hz,F,δ,r,RS0,hf,k⟩;refine jwz h pins s σ H R I ?_;rcases M.b_inv hf with ⟨d,e1,hf⟩|⟨y,e1,rfl⟩
 ·refine⟨ρ,Hz,F,δ,.ok d,RS0,e1,fun v H1 s1 r1=>?_⟩;obtain⟨ds,hd,rfl⟩:=M.o_inv hf
  cases d with
  | str x =>
   cases hd;refine⟨x,rep_str.mp r1,k _ H1 s1 (jog (by rw[zav,List.length_range]) fun i d hi H=>?_)⟩;rw[zba] at hi;obtain⟨j,hj,rfl⟩:=Option.map_eq_some_iff.mp hi;obtain⟨hl,e⟩:=zbb.mp hj;rw[List.getElem_range] at e;subst e;exact rep_str.mpr rfl
  | _=>cases hd
 ·exact⟨ρ,Hz,F,δ,.error y,RS0,e1,k⟩
end
end DL
namespace MyLaw
open PySem PySem.Spec L2 DL
noncomputable def top(i:Nat):Stmt:=PySem.Challenge.pw_apartbook_k12_broken_books.main.body.getD i (.Pass ⟨0,0,0,0⟩)
noncomputable abbrev jdy:Stmt:=top 35
noncomputable abbrev jfa:Stmt:=top 34
noncomputable abbrev jc8:Stmt:=top 37
noncomputable abbrev jcp:Stmt:=top 38
noncomputable abbrev jda:Stmt:=top 39
noncomputable abbrev jb2:Stmt:=top 40
noncomputable abbrev jb3:Stmt:=top 41
noncomputable abbrev jco:Stmt:=top 42
noncomputable abbrev jc7:Stmt:=top 43
noncomputable abbrev jb4:Stmt:=top 45
noncomputable abbrev jbc:Stmt:=top 46
noncomputable abbrev jb8:Stmt:=top 44
noncomputable abbrev jcq:Stmt:=top 48
noncomputable abbrev jct:Stmt:=top 19
noncomputable abbrev jgm:Stmt:=top 32
noncomputable abbrev jbh:Stmt:=jsz (top 6) 0
noncomputable abbrev jaz:Stmt:=top 25
noncomputable abbrev jcs:Stmt:=top 30
noncomputable abbrev jcn:Stmt:=top 16
noncomputable abbrev jdf:Stmt:=top 17
noncomputable abbrev jb0:Stmt:=top 27
noncomputable abbrev jb1:Stmt:=top 28
noncomputable abbrev jbz:Stmt:=top 29
noncomputable abbrev jdx:Stmt:=top 26
noncomputable abbrev jb5:Stmt:=top 31
noncomputable abbrev jbi:Stmt:=top 24
noncomputable abbrev jc9:Stmt:=top 47
noncomputable abbrev jcr:Stmt:=top 36
noncomputable abbrev jkq:Stmt:=top 49
noncomputable abbrev xcs:List Str:=["Broken","Folded","NoBook","NoDeed","NoLine","NoName","NoPaper","NoRule","NoText","NotPlain","OutOfRange","ShortShare"]
noncomputable abbrev xfs:List Str:=["place","name","line","lack"]
abbrev jdb(P:Program)(w:World)(K:W.Frag)(mg:Str->Option Value)(base:Heap)(n:Nat)(x:Str)(t:Stmt)(N:List Str)(g:DSt->M Out):Prop:=∀ (f:Addr) (cdv:Value) (A:Around) (outer:List Env) (s:Shared) (H:Hp) (E:XK),Room n (A.deeper (PyProof.Rows.envOfC x (jac t) s.heap.objs.size f cdv))->DSs (cxOf CX0 P w K mg base N x (jac t) f cdv A outer s H E).nox [] [] [] E (jai t) g
abbrev jp9(P:Program)(w:World)(K:W.Frag)(mg:Str->Option Value)(base:Heap)(n:Nat)(x:Str)(t:Stmt)(N:List Str)(g:DSt->MS Out):Prop:=∀ (f:Addr) (cdv:Value) (A:Around) (outer:List Env) (s:Shared) (H:Hp) (E:XK),Room n (A.deeper (PyProof.Rows.envOfC x (jac t) s.heap.objs.size f cdv))->MSs (cxOf CX0 P w K mg base N x (jac t) f cdv A outer s H E).nox [] [] [] (jai t) g
structure Txt(K:W.Frag)(mg:Str->Option Value):Prop where
 errs:ErrT K mg xcs xfs "BookError"
 errm:ErrM K mg xcs "BookError"
 n_Folded:NewAt K mg "Folded"
 n_NoBook:NewAt K mg "NoBook"
 n_OutOfRange:NewAt K mg "OutOfRange"
 f_law_mix:jbq K mg "_law_mix" jdy ["_law_number","_law_place"]
 f_law_at:jbq K mg "_law_at" jfa ["_law_script","_law_k"]
 f_law_draw:jbq K mg "_law_draw" jc8 ["_law_script","_law_k"]
 f_law_named:jbq K mg "_law_named" jcp ["_law_k","_law_number"]
 f_law_wide:jbq K mg "_law_wide" jda ["_law_script","_law_k","_law_most"]
 f_law_items:jbq K mg "_law_items" jb2 ["_law_script","_law_many","_law_most"]
 f_law_rules:jbq K mg "_law_rules" jb3 ["_law_script","_law_items_here","_law_many","_law_most"]
 f_law_deeds:jbq K mg "_law_deeds" jco ["_law_script","_law_items_here","_law_many"]
 f_law_book:jbq K mg "_law_book" jc7 ["_law_script","_law_counts_here"]
 f_law_spare:jbq K mg "_law_spare" jb4 ["_law_rule","_law_state"]
 f_law_lessened:jbq K mg "_law_lessened" jbc ["_law_book_here","_law_number"]
 f_law_counts:jbq K mg "_law_counts" jb8 ["_law_script"]
 f_law_right:jbq K mg "_law_right" jcq ["_law_kept_here","_law_due"]
 f_value_of:jbq K mg "value_of" jct ["form","values"]
 f_spare:jbq K mg "spare" jgm ["book","rule","state"]
 f_Broken_init__:IniXAt K mg "Broken" "Broken.__init__" jbh ["self","name"]
 f_refuse_broken:jbq K mg "refuse_broken" jaz ["book","state"]
 f_names_of:jbq K mg "names_of" jcs ["parts"]
 f_is_letter:jbq K mg "is_letter" jcn ["sign"]
 f_is_name:jbq K mg "is_name" jdf ["word"]
 f_are_named:jbq K mg "are_named" jb0 ["parts","most"]
 f_are_rules:jbq K mg "are_rules" jb1 ["book"]
 f_are_deeds:jbq K mg "are_deeds" jbz ["book"]
 f_is_book:jbq K mg "is_book" jdx ["book"]
 f_starts_of:jbq K mg "starts_of" jb5 ["book"]
 f_check_book:jbq K mg "check_book" jbi ["book"]
 f_law_kept:jbq K mg "_law_kept" jc9 ["_law_book_here"]
 f_law_whole:jbq K mg "_law_whole" jcr ["_law_found"]
 f_law:jbq K mg "law" jkq ["_law_script"]
 g_MOST_DEEDS:∃ t,mg "MOST_DEEDS"=some (.int 6 t)
 g_MOST_ITEMS:∃ t,mg "MOST_ITEMS"=some (.int 4 t)
 g_MOST_RULES:∃ t,mg "MOST_RULES"=some (.int 5 t)
 g_NAME_LENGTH:∃ t,mg "NAME_LENGTH"=some (.int 10 t)
 b_ValueError:mg "ValueError"=none
 b_all:mg "all"=none
 b_bool:mg "bool"=none
 b_enumerate:mg "enumerate"=none
 b_int:mg "int"=none
 b_isinstance:mg "isinstance"=none
 b_len:mg "len"=none
 b_list:mg "list"=none
 b_range:mg "range"=none
 b_set:mg "set"=none
 b_sum:mg "sum"=none
 b_tuple:mg "tuple"=none
 b_zip:mg "zip"=none
section
variable {P:Program}{w:World}{K:W.Frag}{mg:Str->Option Value}{base:Heap}
theorem sc_law_mix:FnScope ["_law_number","_law_place","_law_part"] ["_law_number","_law_place"] (jac jdy):=⟨rfl,rfl,rfl,by decide +kernel,rfl,by decide +kernel,by decide +kernel⟩
noncomputable def jhm:DSt->M Out:=(gSeq (gSet 2 (f2 gMod (f2 jbk (f2 gCat (f2 gCat (f2 gMod (fVar 0) (fC (.int 2147483629))) (fVar 1)) (fC (.int 1))) (f2 gCat (f2 jbk (f2 jbk (fC (.int 8)) (fVar 1)) (fVar 1)) (fC (.int 48271)))) (fC (.int 2147483647))))
  (gRet (f2 gMod (f2 jbk (fVar 2) (fVar 2)) (fC (.int 2147483587)))))
noncomputable def jbs:List D->M D:=mir 2 3 jhm
theorem jjt(T:Txt K mg):jdb P w K mg base 1 "_law_mix" jdy ["_law_number","_law_place","_law_part"] jhm:=fun f cdv A outer s H E hr =>
 (jal (jbd (i:=2) sc_law_mix.nd (jaj jbp ja9 (jaj jbb jax (jaj jat jau (jaj jat jau (jaj jbp ja9 (jab 0) jae) (jab 1)) jae) (jaj jat jau (jaj jbb jax (jaj jbb jax jae (jab 1)) (jab 1)) jae)) jae))
  (jaq (ja6 (jaj jbp ja9 (jaj jbb jax (jab 2) (jab 2)) jae))))
theorem jdw(T:Txt K mg):Cal P w K mg base 2 "_law_mix" 2 jbs:=jbm T.f_law_mix sc_law_mix (jjt T)
theorem jpo:FnScope ["_law_script","_law_k"] ["_law_script","_law_k"] (jac jfa):=⟨rfl,rfl,rfl,by decide +kernel,rfl,by decide +kernel,by decide +kernel⟩
noncomputable def jjb:DSt->M Out:=(gSeq (gIf (t2 gLt (fVar 1) (fL kLen (jad (fVar 0) fNil))) (gRet (f2 gIx (fVar 0) (fVar 1))) gNx)
  (gRet (f2 gCat (f2 jbk (fC (.int 19)) (fVar 1)) (fC (.int 8)))))
noncomputable def jcd:List D->M D:=mir 2 2 jjb
theorem jk4(T:Txt K mg):jdb P w K mg base 1 "_law_at" jfa ["_law_script","_law_k"] jjb:=fun f cdv A outer s H E hr =>
 (jal (jk7 (jfx jo2 jdn (jab 1) (ja2 jbn jdc rfl T.b_len jea (jaa (jab 0) jaf)) (jce _)) (jaq (ja6 (ja0 jan jao (jab 0) (jab 1)))) jff)
  (jaq (ja6 (jaj jat jau (jaj jbb jax jae (jab 1)) jae))))
theorem jdv(T:Txt K mg):Cal P w K mg base 2 "_law_at" 2 jcd:=jbm T.f_law_at jpo (jk4 T)
theorem jlr:FnScope ["_law_script","_law_k"] ["_law_script","_law_k"] (jac jc8):=⟨rfl,rfl,rfl,by decide +kernel,rfl,by decide +kernel,by decide +kernel⟩
noncomputable def jgb:DSt->M Out:=(gRet (jav jbs (jad (jav jcd (jad (fVar 0) (jad (f2 gCat (fC (.int 1)) (f2 gMod (fVar 1) (fC (.int 62)))) fNil))) (jad (f2 gCat (fC (.int 100)) (fVar 1)) fNil))))
noncomputable def jbg:List D->M D:=mir 2 2 jgb
theorem jiy(T:Txt K mg):jdb P w K mg base 2 "_law_draw" jc8 ["_law_script","_law_k"] jgb:=fun f cdv A outer s H E hr =>
 (jaq (ja6 (jah (jdw T) (hr.mono (by decide)) (jaa (jah (jdv T) (hr.mono (by decide)) (jaa (jab 0) (jaa (jaj jat jau jae (jaj jbp ja9 (jab 1) jae)) jaf))) (jaa (jaj jat jau jae (jab 1)) jaf)))))
theorem jbo(T:Txt K mg):Cal P w K mg base 3 "_law_draw" 2 jbg:=jbm T.f_law_draw jlr (jiy T)
theorem sc_law_named:FnScope ["_law_k","_law_number","_law_place"] ["_law_k","_law_number"] (jac jcp):=⟨rfl,rfl,rfl,by decide +kernel,rfl,by decide +kernel,by decide +kernel⟩
noncomputable def jfl:DSt->M Out:=(gSeq (gIf (t2 gEq (f2 gMod (fVar 1) (fC (.int 2))) (fC (.int 0))) (gRet (f2 gCat (f2 jbk (f2 gIx (fC (.str "abcdefg")) (fVar 0)) (f2 gCat (fC (.int 1)) (f2 gMod (f2 jeq (fVar 1) (fC (.int 2))) (fC (.int 9))))) (f2 gIx (fC (.str "xyz")) (f2 gMod (f2 jeq (fVar 1) (fC (.int 18))) (fC (.int 3)))))) gNx)
  (gSeq (gSet 2 (f2 gMod (f2 jeq (fVar 1) (fC (.int 2))) (fC (.int 10))))
  (gRet (f2 gCat (f2 gCat (f2 jbk (fC (.str "m")) (fVar 2)) (f2 gIx (fC (.str "abcdefg")) (fVar 0))) (f2 jbk (fC (.str "m")) (f2 gSub (fC (.int 9)) (fVar 2)))))))
noncomputable def jcj:List D->M D:=mir 2 3 jfl
theorem jh9(T:Txt K mg):jdb P w K mg base 1 "_law_named" jcp ["_law_k","_law_number","_law_place"] jfl:=fun f cdv A outer s H E hr =>
 (jal (jk7 (jfx (jgu (hu30 hr)) jgw (jaj jbp ja9 (jab 1) jae) jae (jce _)) (jaq (ja6 (jaj jat jau (jaj jbb jax (ja0 jan jao jhh (jab 0)) (jaj jat jau jae (jaj jbp ja9 (jaj jc4 jc5 (jab 1) jae) jae))) (ja0 jan jao jhh (jaj jbp ja9 (jaj jc4 jc5 (jab 1) jae) jae))))) jff)
  (jal (jbd (i:=2) sc_law_named.nd (jaj jbp ja9 (jaj jc4 jc5 (jab 1) jae) jae))
  (jaq (ja6 (jaj jat jau (jaj jat jau (jaj jbb jax jhh (jab 2)) (ja0 jan jao jhh (jab 0))) (jaj jbb jax jhh (jaj jgv jez jae (jab 2))))))))
theorem jex(T:Txt K mg):Cal P w K mg base 2 "_law_named" 2 jcj:=jbm T.f_law_named sc_law_named (jh9 T)
theorem sc_law_wide:FnScope ["_law_script","_law_k","_law_most","_law_number"] ["_law_script","_law_k","_law_most"] (jac jda):=⟨rfl,rfl,rfl,by decide +kernel,rfl,by decide +kernel,by decide +kernel⟩
noncomputable def jgc:DSt->M Out:=(gSeq (gSet 3 (jav jbg (jad (fVar 0) (jad (fVar 1) fNil))))
  (gSeq (gIf (t2 gEq (f2 gMod (fVar 3) (fC (.int 8))) (fC (.int 0))) (gRet (f2 gCat (f2 gSub (f2 gMod (jav jcd (jad (fVar 0) (jad (f2 gCat (fC (.int 1)) (f2 gMod (fVar 1) (fC (.int 62)))) fNil))) (f2 gSub (f2 jbk (fC (.int 2)) (fVar 2)) (fC (.int 1)))) (fVar 2)) (fC (.int 1)))) gNx)
  (gRet (f2 gSub (f2 gMod (f2 jeq (fVar 3) (fC (.int 8))) (fC (.int 13))) (fC (.int 6))))))
noncomputable def ja5:List D->M D:=mir 3 4 jgc
theorem ji0(T:Txt K mg):jdb P w K mg base 3 "_law_wide" jda ["_law_script","_law_k","_law_most","_law_number"] jgc:=fun f cdv A outer s H E hr =>
 (jal (jbd (i:=3) sc_law_wide.nd (jah (jbo T) (hr.mono (by decide)) (jaa (jab 0) (jaa (jab 1) jaf))))
  (jal (jk7 (jfx (jgu (hu30 hr)) jgw (jaj jbp ja9 (jab 3) jae) jae (jce _)) (jaq (ja6 (jaj jat jau (jaj jgv jez (jaj jbp ja9 (jah (jdv T) (hr.mono (by decide)) (jaa (jab 0) (jaa (jaj jat jau jae (jaj jbp ja9 (jab 1) jae)) jaf))) (jaj jgv jez (jaj jbb jax jae (jab 2)) jae)) (jab 2)) jae))) jff)
  (jaq (ja6 (jaj jgv jez (jaj jbp ja9 (jaj jc4 jc5 (jab 3) jae) jae) jae)))))
theorem jcl(T:Txt K mg):Cal P w K mg base 4 "_law_wide" 3 ja5:=jbm T.f_law_wide sc_law_wide (ji0 T)
theorem sc_law_items:FnScope ["_law_script","_law_many","_law_most","_law_number"] ["_law_script","_law_many","_law_most"] (jac jb2):=⟨rfl,rfl,rfl,by decide +kernel,rfl,by decide +kernel,by decide +kernel⟩
noncomputable def jei:DSt->M D:=(fL jf1 (jad (jav jcj (jad (fVar 0) (jad (fVar 3) fNil))) (jad (jav ja5 (jad (fVar 1) (jad (f2 gCat (fC (.int 10)) (fVar 0)) (jad (fVar 2) fNil)))) fNil)))
noncomputable def jfk:DSt->M Out:=(gSeq (gSet 3 (jav jbg (jad (fVar 0) (jad (fC (.int 1)) fNil))))
  (gRet (jep 1 [("_law_script",0),("_law_most",2),("_law_number",3)] (jfb jbt (jad (fVar 1) fNil)) (DL.gName 0) tYes jei)))
noncomputable def jd5:List D->M D:=mir 3 4 jfk
theorem jh8(T:Txt K mg):jdb P w K mg base 4 "_law_items" jb2 ["_law_script","_law_many","_law_most","_law_number"] jfk:=fun f cdv A outer s H E hr =>
 (jal (jbd (i:=3) sc_law_items.nd (jah (jbo T) (hr.mono (by decide)) (jaa (jab 0) (jaa jae jaf))))
  (jaq (ja6 (jcy (own:=["_law_k"]) (caps:=[("_law_script",0),("_law_most",2),("_law_number",3)]) rfl (jcf (N:=["_law_script","_law_many","_law_most","_law_number"]) (osc:=jac jb2) rfl rfl rfl (by decide +kernel)) (je3 rfl T.b_range (jaa (jab 1) jaf)) (fun _ _ _ _=>(jbw (i:=0) (show (["_law_k","_law_script","_law_most","_law_number"]:List Str).Nodup from by decide +kernel))) (fun _ _ _ _=>jcg) (fun _ _ _ _=>(jfw (jaa (jah (jex T) (hr.mono (by decide)) (jaa (jab 0) (jaa (jab 3) jaf))) (jaa (jah (jcl T) (hr.mono (by decide)) (jaa (jab 1) (jaa (jaj jat jau jae (jab 0)) (jaa (jab 2) jaf)))) jaf))))))))
theorem jkh(T:Txt K mg):Cal P w K mg base 5 "_law_items" 3 jd5:=jbm T.f_law_items sc_law_items (jh8 T)
theorem sc_law_rules:FnScope ["_law_script","_law_items_here","_law_many","_law_most","_law_rules_here","_law_k","_law_numbers","_law_rest","_law_many_times","_law_item"] ["_law_script","_law_items_here","_law_many","_law_most"] (jac jb3):=⟨rfl,rfl,rfl,by decide +kernel,rfl,by decide +kernel,by decide +kernel⟩
noncomputable def jek:DSt->M D:=(jav ja5 (jad (fVar 1) (jad (f2 gCat (f2 gCat (fC (.int 20)) (f2 jbk (fC (.int 5)) (fVar 3))) (fVar 0)) (jad (fVar 2) fNil))))
noncomputable def jed:DSt->M Out:=(gSet 7 (f2 gSub (fVar 7) (f2 jbk (fVar 8) (f2 gIx (fVar 9) (fC (.int 1))))))
noncomputable def jee:DSt->M Out:=(gSeq (gSet 6 (fL kTuple (jad (jep 1 [("_law_script",0),("_law_most",3),("_law_k",5)] (jfb jbt (jad (fL kLen (jad (fVar 1) fNil)) fNil)) (DL.gName 0) tYes jek) fNil)))
  (gSeq (gSet 7 (f2 jbk (f2 gMod (jav jbg (jad (fVar 0) (jad (f2 gCat (fC (.int 50)) (fVar 5)) fNil))) (fC (.int 30))) (f2 gMod (jav jbg (jad (fVar 0) (jad (f2 gCat (fC (.int 60)) (fVar 5)) fNil))) (fC (.int 3)))))
  (gSeq (gFor (jfb jd9 (jad (fVar 6) (jad (fVar 1) fNil))) (jdg 8 9) jed)
  (gApp 4 (fL jf1 (jad (jav jcj (jad (fVar 5) (jad (jav jbg (jad (fVar 0) (jad (fC (.int 2)) fNil))) fNil))) (jad (fVar 6) (jad (fVar 7) fNil))))))))
noncomputable def jfm:DSt->M Out:=(gSeq (gSet 4 (fL jb9 fNil))
  (gSeq (gFor (jfb jbt (jad (fVar 2) fNil)) (DL.gName 5) jee)
  (gRet (fVar 4))))
noncomputable def jd6:List D->M D:=mir 4 10 jfm
theorem jib(T:Txt K mg):jdb P w K mg base 4 "_law_rules" jb3 ["_law_script","_law_items_here","_law_many","_law_most","_law_rules_here","_law_k","_law_numbers","_law_rest","_law_many_times","_law_item"] jfm:=fun f cdv A outer s H E hr =>
 (jal (jma (i:=4) sc_law_rules.nd jaf)
  (jal (jhi PassesOwn.never rfl (je3 rfl T.b_range (jaa (jab 2) jaf)) (jbw (i:=5) sc_law_rules.nd) (jal (jbd (i:=6) sc_law_rules.nd (jbr jcb jem rfl T.b_tuple jft (jaa (jcy (own:=["_law_j"]) (caps:=[("_law_script",0),("_law_most",3),("_law_k",5)]) rfl (jcf (N:=["_law_script","_law_items_here","_law_many","_law_most","_law_rules_here","_law_k","_law_numbers","_law_rest","_law_many_times","_law_item"]) (osc:=jac jb3) rfl rfl rfl (by decide +kernel)) (je3 rfl T.b_range (jaa (ja2 jbn jdc rfl T.b_len jea (jaa (jab 1) jaf)) jaf)) (fun _ _ _ _=>(jbw (i:=0) (show (["_law_j","_law_script","_law_most","_law_k"]:List Str).Nodup from by decide +kernel))) (fun _ _ _ _=>jcg) (fun _ _ _ _=>(jah (jcl T) (hr.mono (by decide)) (jaa (jab 1) (jaa (jaj jat jau (jaj jat jau jae (jaj jbb jax jae (jab 3))) (jab 0)) (jaa (jab 2) jaf)))))) jaf)))
  (jal (jbd (i:=7) sc_law_rules.nd (jaj jbb jax (jaj jbp ja9 (jah (jbo T) (hr.mono (by decide)) (jaa (jab 0) (jaa (jaj jat jau jae (jab 5)) jaf))) jae) (jaj jbp ja9 (jah (jbo T) (hr.mono (by decide)) (jaa (jab 0) (jaa (jaj jat jau jae (jab 5)) jaf))) jae)))
  (jal (jhi PassesOwn.never rfl (jn2 rfl T.b_zip (jaa (jab 6) (jaa (jab 1) jaf))) (jf9 (i:=8) (j:=9) rfl sc_law_rules.nd) (jaq (jbd (i:=7) sc_law_rules.nd (jaj jgv jez (jab 7) (jaj jbb jax (jab 8) (ja0 jan jao (jab 9) jae))))))
  (jaq (jl9 (i:=4) rfl (jfw (jaa (jah (jex T) (hr.mono (by decide)) (jaa (jab 5) (jaa (jah (jbo T) (hr.mono (by decide)) (jaa (jab 0) (jaa jae jaf))) jaf))) (jaa (jab 6) (jaa (jab 7) jaf))))))))))
  (ji9 (O':=[]) (by decide) (jaq (ja6 (jab 4))))))
theorem jki(T:Txt K mg):Cal P w K mg base 5 "_law_rules" 4 jd6:=jbm T.f_law_rules sc_law_rules (jib T)
theorem sc_law_deeds:FnScope ["_law_script","_law_items_here","_law_many","_law_deeds_here","_law_k","_law_low","_law_changes","_law_j","_law_some","_law_one","_law_high"] ["_law_script","_law_items_here","_law_many"] (jac jco):=⟨rfl,rfl,rfl,by decide +kernel,rfl,by decide +kernel,by decide +kernel⟩
noncomputable def jdh:DSt->M Out:=(gSeq (gSet 8 (f2 gMod (jav jbg (jad (fVar 0) (jad (f2 gCat (f2 gCat (fC (.int 80)) (f2 jbk (fC (.int 5)) (fVar 4))) (fVar 7)) fNil))) (fC (.int 3))))
  (gSeq (gSet 9 (f2 jbk (jav ja5 (jad (fVar 0) (jad (f2 gCat (f2 gCat (fC (.int 120)) (f2 jbk (fC (.int 5)) (fVar 4))) (fVar 7)) (jad (f2 gPow (fC (.int 10)) (fC (.int 23))) fNil)))) (fL jmw (jad (f2 gNe (fVar 8) (fC (.int 1))) fNil))))
  (gApp 6 (fL jf1 (jad (fVar 9) (jad (f2 jbk (jav ja5 (jad (fVar 0) (jad (f2 gCat (f2 gCat (fC (.int 160)) (f2 jbk (fC (.int 5)) (fVar 4))) (fVar 7)) (jad (f2 gPow (fC (.int 10)) (fC (.int 23))) fNil)))) (fL jmw (jad (f2 gEq (fVar 8) (fC (.int 2))) fNil))) fNil))))))
noncomputable def jec:DSt->M Out:=(gSeq (gSet 5 (jav ja5 (jad (fVar 0) (jad (f2 gCat (fC (.int 70)) (fVar 4)) (jad (f2 gPow (fC (.int 10)) (fC (.int 23))) fNil)))))
  (gSeq (gSet 6 (fL jb9 fNil))
  (gSeq (gFor (jfb jbt (jad (fL kLen (jad (fVar 1) fNil)) fNil)) (DL.gName 7) jdh)
  (gSeq (gSet 10 (f2 gCat (fVar 5) (f2 gMod (jav jbg (jad (fVar 0) (jad (f2 gCat (fC (.int 200)) (fVar 4)) fNil))) (fC (.int 9)))))
  (gApp 3 (fL jf1 (jad (jav jcj (jad (fVar 4) (jad (jav jbg (jad (fVar 0) (jad (fC (.int 3)) fNil))) fNil))) (jad (fVar 5) (jad (fVar 10) (jad (fL kTuple (jad (fVar 6) fNil)) fNil))))))))))
noncomputable def jfj:DSt->M Out:=(gSeq (gSet 3 (fL jb9 fNil))
  (gSeq (gFor (jfb jbt (jad (fVar 2) fNil)) (DL.gName 4) jec)
  (gRet (fVar 3))))
noncomputable def jd4:List D->M D:=mir 3 11 jfj
theorem jh7(T:Txt K mg):jdb P w K mg base 4 "_law_deeds" jco ["_law_script","_law_items_here","_law_many","_law_deeds_here","_law_k","_law_low","_law_changes","_law_j","_law_some","_law_one","_law_high"] jfj:=fun f cdv A outer s H E hr =>
 (jal (jma (i:=3) sc_law_deeds.nd jaf)
  (jal (jhi PassesOwn.never rfl (je3 rfl T.b_range (jaa (jab 2) jaf)) (jbw (i:=4) sc_law_deeds.nd) (jal (jbd (i:=5) sc_law_deeds.nd (jah (jcl T) (hr.mono (by decide)) (jaa (jab 0) (jaa (jaj jat jau jae (jab 4)) (jaa (jaj jiv jgk jae jae) jaf)))))
  (jal (jma (i:=6) sc_law_deeds.nd jaf)
  (jal (jhi PassesOwn.never rfl (je3 rfl T.b_range (jaa (ja2 jbn jdc rfl T.b_len jea (jaa (jab 1) jaf)) jaf)) (jbw (i:=7) sc_law_deeds.nd) (jal (jbd (i:=8) sc_law_deeds.nd (jaj jbp ja9 (jah (jbo T) (hr.mono (by decide)) (jaa (jab 0) (jaa (jaj jat jau (jaj jat jau jae (jaj jbb jax jae (jab 4))) (jab 7)) jaf))) jae))
  (jal (jbd (i:=9) sc_law_deeds.nd (jaj jbb jax (jah (jcl T) (hr.mono (by decide)) (jaa (jab 0) (jaa (jaj jat jau (jaj jat jau jae (jaj jbb jax jae (jab 4))) (jab 7)) (jaa (jaj jiv jgk jae jae) jaf)))) (jbr jjv jl3 rfl T.b_int jnm (jaa (jgr (jo4 (hu30 hr)) jo6 (jab 8) jae (jce _)) jaf))))
  (jaq (jl9 (i:=6) rfl (jfw (jaa (jab 9) (jaa (jaj jbb jax (jah (jcl T) (hr.mono (by decide)) (jaa (jab 0) (jaa (jaj jat jau (jaj jat jau jae (jaj jbb jax jae (jab 4))) (jab 7)) (jaa (jaj jiv jgk jae jae) jaf)))) (jbr jjv jl3 rfl T.b_int jnm (jaa (jgr (jgu (hu30 hr)) jgw (jab 8) jae (jce _)) jaf))) jaf))))))))
  (jal (jbd (i:=10) sc_law_deeds.nd (jaj jat jau (jab 5) (jaj jbp ja9 (jah (jbo T) (hr.mono (by decide)) (jaa (jab 0) (jaa (jaj jat jau jae (jab 4)) jaf))) jae)))
  (ji9 (O':=[3]) (by decide) (jaq (jl9 (i:=3) rfl (jfw (jaa (jah (jex T) (hr.mono (by decide)) (jaa (jab 4) (jaa (jah (jbo T) (hr.mono (by decide)) (jaa (jab 0) (jaa jae jaf))) jaf))) (jaa (jab 5) (jaa (jab 10) (jaa (jbr jcb jem rfl T.b_tuple jft (jaa (jab 6) jaf)) jaf)))))))))))))
  (ji9 (O':=[]) (by decide) (jaq (ja6 (jab 3))))))
theorem jkg(T:Txt K mg):Cal P w K mg base 5 "_law_deeds" 3 jd4:=jbm T.f_law_deeds sc_law_deeds (jh7 T)
theorem sc_law_book:FnScope ["_law_script","_law_counts_here","_law_big","_law_items_here"] ["_law_script","_law_counts_here"] (jac jc7):=⟨rfl,rfl,rfl,by decide +kernel,rfl,by decide +kernel,by decide +kernel⟩
noncomputable def jga:DSt->M Out:=(gSeq (gSet 2 (f2 gMod (jav jbs (jad (jav jcd (jad (fVar 0) (jad (fC (.int 0)) fNil))) (jad (fC (.int 2)) fNil))) (fC (.int 2))))
  (gSeq (gSet 3 (jav jd5 (jad (fVar 0) (jad (f2 gIx (fVar 1) (fC (.int 0))) (jad (f2 gIx (fL jb9 (jad (fC (.int 7)) (jad (f2 gPow (fC (.int 10)) (fC (.int 23))) fNil))) (fVar 2)) fNil)))))
  (gRet (fL jf1 (jad (fVar 3) (jad (jav jd6 (jad (fVar 0) (jad (fVar 3) (jad (f2 gIx (fVar 1) (fC (.int 1))) (jad (f2 gIx (fL jb9 (jad (f2 gPow (fC (.int 10)) (fC (.int 23))) (jad (fC (.int 7)) fNil))) (fVar 2)) fNil))))) (jad (jav jd4 (jad (fVar 0) (jad (fVar 3) (jad (f2 gIx (fVar 1) (fC (.int 2))) fNil)))) fNil)))))))
noncomputable def jdu:List D->M D:=mir 2 4 jga
theorem jix(T:Txt K mg):jdb P w K mg base 5 "_law_book" jc7 ["_law_script","_law_counts_here","_law_big","_law_items_here"] jga:=fun f cdv A outer s H E hr =>
 (jal (jbd (i:=2) sc_law_book.nd (jaj jbp ja9 (jah (jdw T) (hr.mono (by decide)) (jaa (jah (jdv T) (hr.mono (by decide)) (jaa (jab 0) (jaa jae jaf))) (jaa jae jaf))) jae))
  (jal (jbd (i:=3) sc_law_book.nd (jah (jkh T) (hr.mono (by decide)) (jaa (jab 0) (jaa (ja0 jan jao (jab 1) jae) (jaa (ja0 jan jao (jjz (jaa jae (jaa (jaj jiv jgk jae jae) jaf))) (jab 2)) jaf)))))
  (jaq (ja6 (jfw (jaa (jab 3) (jaa (jah (jki T) (hr.mono (by decide)) (jaa (jab 0) (jaa (jab 3) (jaa (ja0 jan jao (jab 1) jae) (jaa (ja0 jan jao (jjz (jaa (jaj jiv jgk jae jae) (jaa jae jaf))) (jab 2)) jaf))))) (jaa (jah (jkg T) (hr.mono (by decide)) (jaa (jab 0) (jaa (jab 3) (jaa (ja0 jan jao (jab 1) jae) jaf)))) jaf))))))))
theorem jlk(T:Txt K mg):Cal P w K mg base 6 "_law_book" 2 jdu:=jbm T.f_law_book sc_law_book (jix T)
theorem jku:FnScope ["_law_rule","_law_state"] ["_law_rule","_law_state"] (jac jb4):=⟨rfl,rfl,rfl,by decide +kernel,rfl,by decide +kernel,by decide +kernel⟩
noncomputable def jel:DSt->M D:=(f2 jbk (fVar 0) (fVar 1))
noncomputable def jd0:DSt->M Out:=(gRet (f2 gCat (fL kSum (jad (jep 2 [] (jfb jd9 (jad (f2 gIx (fVar 0) (fC (.int 1))) (jad (fVar 1) fNil))) (jdg 0 1) tYes jel) fNil)) (f2 gIx (fVar 0) (fC (.int 2)))))
noncomputable def ja7:List D->M D:=mir 2 2 jd0
theorem jic(T:Txt K mg):jdb P w K mg base 1 "_law_spare" jb4 ["_law_rule","_law_state"] jd0:=fun f cdv A outer s H E hr =>
 (jaq (ja6 (jaj jat jau (ja2 (jjy rfl) jnp rfl T.b_sum jro (jaa (jcy (own:=["_law_many","_law_number"]) (caps:=[]) rfl (jcf (N:=["_law_rule","_law_state"]) (osc:=jac jb4) rfl rfl rfl (by decide +kernel)) (jn2 rfl T.b_zip (jaa (ja0 jan jao (jab 0) jae) (jaa (jab 1) jaf))) (fun _ _ _ _=>(jf9 (i:=0) (j:=1) rfl (show (["_law_many","_law_number"]:List Str).Nodup from by decide +kernel))) (fun _ _ _ _=>jcg) (fun _ _ _ _=>(jaj jbb jax (jab 0) (jab 1)))) jaf)) (ja0 jan jao (jab 0) jae))))
theorem jey(T:Txt K mg):Cal P w K mg base 2 "_law_spare" 2 ja7:=jbm T.f_law_spare jku (jic T)
theorem sc_law_lessened:FnScope ["_law_book_here","_law_number","_law_rules_here","_law_starts","_law_k","_law_rule","_law_rest"] ["_law_book_here","_law_number"] (jac jbc):=⟨rfl,rfl,rfl,by decide +kernel,rfl,by decide +kernel,by decide +kernel⟩
noncomputable def jej:DSt->M D:=(f2 gIx (fVar 0) (fC (.int 1)))
noncomputable def jbl:DSt->M Out:=(gSeq (gSet 6 (f2 gIx (fVar 5) (fC (.int 2))))
  (gSeq (gIf (t2 gEq (f2 gMod (f2 jeq (fVar 1) (f2 gIx (fL jb9 (jad (fC (.int 1)) (jad (fC (.int 2)) (jad (fC (.int 4)) (jad (fC (.int 8)) (jad (fC (.int 16)) fNil)))))) (fVar 4))) (fC (.int 2))) (fC (.int 1))) (gSet 6 (f2 gSub (f2 gSub (f2 gSub (fVar 6) (jav ja7 (jad (fVar 5) (jad (fVar 3) fNil)))) (fC (.int 1))) (f2 jbk (f2 gMod (f2 jeq (fVar 1) (fC (.int 32))) (fC (.int 3))) (f2 jeq (fVar 1) (fC (.int 128)))))) gNx)
  (gApp 2 (fL jf1 (jad (f2 gIx (fVar 5) (fC (.int 0))) (jad (f2 gIx (fVar 5) (fC (.int 1))) (jad (fVar 6) fNil)))))))
noncomputable def jdl:DSt->M Out:=(gSeq (gSet 2 (fL jb9 fNil))
  (gSeq (gSet 3 (jep 1 [] (jif (f2 gIx (fVar 0) (fC (.int 0)))) (DL.gName 0) tYes jej))
  (gSeq (gFor (jfb je4 (jad (f2 gIx (fVar 0) (fC (.int 1))) fNil)) (jdg 4 5) jbl)
  (gRet (fL jf1 (jad (f2 gIx (fVar 0) (fC (.int 0))) (jad (fVar 2) (jad (f2 gIx (fVar 0) (fC (.int 2))) fNil))))))))
noncomputable def jcu:List D->M D:=mir 2 7 jdl
theorem jf8(T:Txt K mg):jdb P w K mg base 2 "_law_lessened" jbc ["_law_book_here","_law_number","_law_rules_here","_law_starts","_law_k","_law_rule","_law_rest"] jdl:=fun f cdv A outer s H E hr =>
 (jal (jma (i:=2) sc_law_lessened.nd jaf)
  (jal (js5 (i:=3) sc_law_lessened.nd (own:=["_law_item"]) (caps:=[]) rfl (jcf (N:=["_law_book_here","_law_number","_law_rules_here","_law_starts","_law_k","_law_rule","_law_rest"]) (osc:=jac jbc) rfl rfl rfl (by decide +kernel)) (jgs (ja0 jan jao (jab 0) jae)) (fun _ _ _ _=>(jbw (i:=0) (show (["_law_item"]:List Str).Nodup from by decide +kernel))) (fun _ _ _ _=>jcg) (fun _ _ _ _=>(ja0 jan jao (jab 0) jae)))
  (jal (jhi PassesOwn.never rfl (jk6 rfl T.b_enumerate (jaa (ja0 jan jao (jab 0) jae) jaf)) (jf9 (i:=4) (j:=5) rfl sc_law_lessened.nd) (jal (jbd (i:=6) sc_law_lessened.nd (ja0 jan jao (jab 5) jae))
  (jal (jk7 (jfx (jgu (hu30 hr)) jgw (jaj jbp ja9 (jaj jc4 jc5 (jab 1) (ja0 jan jao (jjz (jaa jae (jaa jae (jaa jae (jaa jae (jaa jae jaf)))))) (jab 4))) jae) jae (jce _)) (jaq (jbd (i:=6) sc_law_lessened.nd (jaj jgv jez (jaj jgv jez (jaj jgv jez (jab 6) (jah (jey T) (hr.mono (by decide)) (jaa (jab 5) (jaa (jab 3) jaf)))) jae) (jaj jbb jax (jaj jbp ja9 (jaj jc4 jc5 (jab 1) jae) jae) (jaj jc4 jc5 (jab 1) jae))))) jff)
  (jaq (jl9 (i:=2) rfl (jfw (jaa (ja0 jan jao (jab 5) jae) (jaa (ja0 jan jao (jab 5) jae) (jaa (jab 6) jaf)))))))))
  (ji9 (O':=[]) (by decide) (jaq (ja6 (jfw (jaa (ja0 jan jao (jab 0) jae) (jaa (jab 2) (jaa (ja0 jan jao (jab 0) jae) jaf))))))))))
theorem jhx(T:Txt K mg):Cal P w K mg base 3 "_law_lessened" 2 jcu:=jbm T.f_law_lessened sc_law_lessened (jf8 T)
theorem sc_law_counts:FnScope ["_law_script","_law_number"] ["_law_script"] (jac jb8):=⟨rfl,rfl,rfl,by decide +kernel,rfl,by decide +kernel,by decide +kernel⟩
noncomputable def jer:DSt->M Out:=(gSeq (gSet 1 (jav jbs (jad (jav jcd (jad (fVar 0) (jad (fC (.int 0)) fNil))) (jad (fC (.int 1)) fNil))))
  (gRet (fL jb9 (jad (f2 gCat (fC (.int 1)) (f2 gMod (fVar 1) (fC (.int 4)))) (jad (f2 gCat (fC (.int 1)) (f2 gMod (f2 jeq (fVar 1) (fC (.int 4))) (fC (.int 5)))) (jad (f2 gCat (fC (.int 1)) (f2 gMod (f2 jeq (fVar 1) (fC (.int 20))) (fC (.int 6)))) fNil))))))
noncomputable def jdi:List D->M D:=mir 1 2 jer
theorem jhd(T:Txt K mg):jdb P w K mg base 2 "_law_counts" jb8 ["_law_script","_law_number"] jer:=fun f cdv A outer s H E hr =>
 (jal (jbd (i:=1) sc_law_counts.nd (jah (jdw T) (hr.mono (by decide)) (jaa (jah (jdv T) (hr.mono (by decide)) (jaa (jab 0) (jaa jae jaf))) (jaa jae jaf))))
  (jaq (ja6 (jjz (jaa (jaj jat jau jae (jaj jbp ja9 (jab 1) jae)) (jaa (jaj jat jau jae (jaj jbp ja9 (jaj jc4 jc5 (jab 1) jae) jae)) (jaa (jaj jat jau jae (jaj jbp ja9 (jaj jc4 jc5 (jab 1) jae) jae)) jaf)))))))
theorem jjh(T:Txt K mg):Cal P w K mg base 3 "_law_counts" 1 jdi:=jbm T.f_law_counts sc_law_counts (jhd T)
theorem jkt:FnScope ["_law_kept_here","_law_due"] ["_law_kept_here","_law_due"] (jac jcq):=⟨rfl,rfl,rfl,by decide +kernel,rfl,by decide +kernel,by decide +kernel⟩
noncomputable def jdz:DSt->MS Out:=(eSeq (lF (gIf (t2 gIs (fVar 1) (fC .non)) (gRet (f2 gIs (fVar 0) (fC .non))) gNx))
  (eSeq (eIf (mOr (mNot (mTru (mIsX xcs (fun c=>c == "Broken") (lF (fVar 0))))) (mOr (mNot (mTru (mIsX xcs (fun _=>true) (lF (fVar 0))))) (mB (m2 gNe (jmz xcs "name" (lF (fVar 0))) (lF (fVar 1)))))) (lF (gRet (fC (.bl false)))) eNx)
  (eSeq (eIf (mTru (mIsX xcs (fun c=>(["Folded","NoBook","NoDeed","NoLine","NoName","NoPaper","NoRule","NoText"]:List Str).contains c) (lF (fVar 0)))) (lF (gRet (fC (.bl false)))) eNx)
  (eRet (jts (mIsX xcs (fun c=>(["NotPlain","OutOfRange","ShortShare"]:List Str).contains c) (lF (fVar 0))))))))
noncomputable def jck:List D->MS D:=mirE 2 2 jdz
theorem jia(T:Txt K mg):jp9 P w K mg base 1 "_law_right" jcq ["_law_kept_here","_law_due"] jdz:=fun f cdv A outer s H E hr =>
 (jbv (jc0 (jk7 (jfx jo1 jo5 (jab 1) jj0 (jce _)) (jaq (ja6 (jgr jo1 jo5 (jab 0) jj0 (jce _)))) jff))
  (jbv (jwm (MW.mt (jwp (jr5 (jow (jwg (d:="Broken") T.errs rfl T.b_isinstance (jd7 (jab 0))))) (jwp (jr5 (jow (jwh T.errs T.b_isinstance T.b_ValueError (jd7 (jab 0))))) (jwq (jwn (jo4 (hu30 hr)) jo6 (jtu T.errs rfl (jd7 (jab 0))) (jd7 (jab 1)) (jce _)))))) (jgi (jc0 (ja6 js2))) jjd)
  (jbv (jwm (jow (jr1 (ds:=["Folded","NoBook","NoDeed","NoLine","NoName","NoPaper","NoRule","NoText"]) T.errs (jdd (d:="Folded") T.errs (jdd (d:="NoBook") T.errs (jdd (d:="NoDeed") T.errs (jdd (d:="NoLine") T.errs (jdd (d:="NoName") T.errs (jdd (d:="NoPaper") T.errs (jdd (d:="NoRule") T.errs (jdd (d:="NoText") T.errs jrr)))))))) rfl T.b_isinstance (jd7 (jab 0)) (by decide))) (jgi (jc0 (ja6 js2))) jjd)
  (jgi (jr3 (jwi (jr1 (ds:=["NotPlain","OutOfRange","ShortShare"]) T.errs (jdd (d:="NotPlain") T.errs (jdd (d:="OutOfRange") T.errs (jdd (d:="ShortShare") T.errs jrr))) rfl T.b_isinstance (jd7 (jab 0)) (by decide))))))))
theorem jgt(T:Txt K mg):CalE P w K mg base 2 "_law_right" 2 jck:=jnq T.f_law_right jkt (jia T)
theorem jlt:FnScope ["form","values"] ["form","values"] (jac jct):=⟨rfl,rfl,rfl,by decide +kernel,rfl,by decide +kernel,by decide +kernel⟩
noncomputable def jhf:DSt->M D:=(f2 jbk (fVar 0) (fVar 1))
noncomputable def jge:DSt->M Out:=(gRet (f2 gCat (fL kSum (jad (jep 2 [] (jfb jd9 (jad (f2 gIx (fVar 0) (fC (.int 0))) (jad (fVar 1) fNil))) (jdg 0 1) tYes jhf) fNil)) (f2 gIx (fVar 0) (fC (.int 1)))))
noncomputable def je8:List D->M D:=mir 2 2 jge
theorem ji2(T:Txt K mg):jdb P w K mg base 1 "value_of" jct ["form","values"] jge:=fun f cdv A outer s H E hr =>
 (jaq (ja6 (jaj jat jau (ja2 (jjy rfl) jnp rfl T.b_sum jro (jaa (jcy (own:=["coefficient","value"]) (caps:=[]) rfl (jcf (N:=["form","values"]) (osc:=jac jct) rfl rfl rfl (by decide +kernel)) (jn2 rfl T.b_zip (jaa (ja0 jan jao (jab 0) jae) (jaa (jab 1) jaf))) (fun _ _ _ _=>(jf9 (i:=0) (j:=1) rfl (show (["coefficient","value"]:List Str).Nodup from by decide +kernel))) (fun _ _ _ _=>jcg) (fun _ _ _ _=>(jaj jbb jax (jab 0) (jab 1)))) jaf)) (ja0 jan jao (jab 0) jae))))
theorem jlm(T:Txt K mg):Cal P w K mg base 2 "value_of" 2 je8:=jbm T.f_value_of jlt (ji2 T)
theorem jra:FnScope ["book","rule","state"] ["book","rule","state"] (jac jgm):=⟨rfl,rfl,rfl,by decide +kernel,rfl,by decide +kernel,by decide +kernel⟩
noncomputable def jla:DSt->M Out:=(gRet (jav je8 (jad (fL jf1 (jad (f2 gIx (f2 gIx (f2 gIx (fVar 0) (fC (.int 1))) (fVar 1)) (fC (.int 1))) (jad (f2 gIx (f2 gIx (f2 gIx (fVar 0) (fC (.int 1))) (fVar 1)) (fC (.int 2))) fNil))) (jad (fVar 2) fNil))))
noncomputable def jgh:List D->M D:=mir 3 3 jla
theorem jmp(T:Txt K mg):jdb P w K mg base 2 "spare" jgm ["book","rule","state"] jla:=fun f cdv A outer s H E hr =>
 (jaq (ja6 (jah (jlm T) (hr.mono (by decide)) (jaa (jfw (jaa (ja0 jan jao (ja0 jan jao (ja0 jan jao (jab 0) jae) (jab 1)) jae) (jaa (ja0 jan jao (ja0 jan jao (ja0 jan jao (jab 0) jae) (jab 1)) jae) jaf))) (jaa (jab 2) jaf)))))
theorem jme(T:Txt K mg):Cal P w K mg base 3 "spare" 3 jgh:=jbm T.f_spare jra (jmp T)
theorem jg4:FnScope ["self","name"] ["self","name"] (jac jbh):=⟨rfl,rfl,rfl,by decide +kernel,rfl,by decide +kernel,by decide +kernel⟩
noncomputable def jcc:DSt->MS Out:=(js7 xcs "name" (lF (fVar 0)) (lF (fVar 1)))
noncomputable def jbf:List D->MS D:=mirE 2 2 jcc
theorem jfr(T:Txt K mg):jp9 P w K mg base 1 "Broken.__init__" jbh ["self","name"] jcc:=fun f cdv A outer s H E hr =>
 (jgi (jtz T.errs rfl (jd7 (jab 0)) (jd7 (jab 1))))
theorem jg2(T:Txt K mg):IniXE P w K mg base 2 "Broken" 2 jbf:=jqn T.f_Broken_init__ jg4 (jfr T) (by decide)
theorem sc_refuse_broken:FnScope ["book","state","place","rule"] ["book","state"] (jac jaz):=⟨rfl,rfl,rfl,by decide +kernel,rfl,by decide +kernel,by decide +kernel⟩
noncomputable def jaw:DSt->MS Out:=(eIf (lF (t2 gLt (jav jgh (jad (fVar 0) (jad (fVar 2) (jad (fVar 1) fNil)))) (fC (.int 0)))) (jj1 xcs (jka "Broken" jbf (lF (jad (f2 gIx (fVar 3) (fC (.int 0))) fNil)))) eNx)
noncomputable def jde:DSt->MS Out:=(eFor (lF (jfb je4 (jad (f2 gIx (fVar 0) (fC (.int 1))) fNil))) (jdg 2 3) jaw)
noncomputable def jay:List D->MS D:=mirE 2 4 jde
theorem jfs(T:Txt K mg)(f:Addr)(cdv:Value)(A:Around)(outer:List Env)(s:Shared)(H:Hp)(E:XK)(hr:Room 3 (A.deeper (PyProof.Rows.envOfC "refuse_broken" (jac jaz) s.heap.objs.size f cdv))) :
  MSsr (cxOf (CX1 P w) P w K mg base ["book","state","place","rule"] "refuse_broken" (jac jaz) f cdv A outer s H E) [] [] [] E (jai jaz) jde :=
 (jf3 (jt1 PassesOwn.leaving rfl (jty (jk6 rfl T.b_enumerate (jaa (ja0 jan jao (jab 0) jae) jaf))) (jf9 (i:=2) (j:=3) rfl sc_refuse_broken.nd) (jf3 (jr4 (jov (jfx jo2 jdn (jah (jme T) (hr.mono (by decide)) (jaa (jab 0) (jaa (jab 2) (jaa (jab 1) jaf)))) jae (jce _))) (jf3 (jkb T.errs rfl juv (jqx (jg2 T) (hr.mono (by decide)) (jfp (jaa (ja0 jan jao (jab 3) jae) jaf))))) (jou jjd)))))
theorem jg3(T:Txt K mg):CalR P w K mg base 4 "refuse_broken" 2 jay:=jnr T.f_refuse_broken sc_refuse_broken (jfs T)
theorem jls:FnScope ["parts"] ["parts"] (jac jcs):=⟨rfl,rfl,rfl,by decide +kernel,rfl,by decide +kernel,by decide +kernel⟩
noncomputable def jhe:DSt->M D:=(f2 gIx (fVar 0) (fC (.int 0)))
noncomputable def jgd:DSt->M Out:=(gRet (jep 1 [] (jif (fVar 0)) (DL.gName 0) tYes jhe))
noncomputable def je7:List D->M D:=mir 1 1 jgd
theorem ji1(T:Txt K mg):jdb P w K mg base 1 "names_of" jcs ["parts"] jgd:=fun f cdv A outer s H E hr =>
 (jaq (ja6 (jcy (own:=["part"]) (caps:=[]) rfl (jcf (N:=["parts"]) (osc:=jac jcs) rfl rfl rfl (by decide +kernel)) (jgs (jab 0)) (fun _ _ _ _=>(jbw (i:=0) (show (["part"]:List Str).Nodup from by decide +kernel))) (fun _ _ _ _=>jcg) (fun _ _ _ _=>(ja0 jan jao (jab 0) jae)))))
theorem jll(T:Txt K mg):Cal P w K mg base 2 "names_of" 1 je7:=jbm T.f_names_of jls (ji1 T)
theorem jks:FnScope ["sign"] ["sign"] (jac jcn):=⟨rfl,rfl,rfl,by decide +kernel,rfl,by decide +kernel,by decide +kernel⟩
noncomputable def jhl:DSt->M Out:=(gRet (jip gLe gLe (fC (.str "a")) (fVar 0) (fC (.str "z"))))
noncomputable def jht:List D->M D:=mir 1 1 jhl
theorem jh6(T:Txt K mg):jdb P w K mg base 1 "is_letter" jcn ["sign"] jhl:=fun f cdv A outer s H E hr =>
 (jaq (ja6 (ji8 jhy jdn jhy jdn jhh (jab 0) jhh)))
theorem jkf(T:Txt K mg):Cal P w K mg base 2 "is_letter" 1 jht:=jbm T.f_is_letter jks (jh6 T)
theorem jnb:FnScope ["word"] ["word"] (jac jdf):=⟨rfl,rfl,rfl,by decide +kernel,rfl,by decide +kernel,by decide +kernel⟩
noncomputable def jmq:DSt->M D:=(jav jht (jad (fVar 0) fNil))
noncomputable def jj3:DSt->M Out:=(gRet (fAnd (jip gLe gLe (fC (.int 1)) (fL kLen (jad (fVar 0) fNil)) (fC (.int 10))) (fL kAll (jad (jep 1 [] (jvz (fVar 0)) (DL.gName 0) tYes jmq) fNil))))
noncomputable def jeu:List D->M D:=mir 1 1 jj3
theorem jjs(T:Txt K mg):jdb P w K mg base 2 "is_name" jdf ["word"] jj3:=fun f cdv A outer s H E hr =>
 (jaq (ja6 (jfv (ji8 jhy jdn jhy jdn jae (ja2 jbn jdc rfl T.b_len jea (jaa (jab 0) jaf)) (jg5 rfl T.g_NAME_LENGTH.choose_spec)) (jhg (ja2 (jfu rfl) ji4 rfl T.b_all jl2 (jaa (jcy (own:=["sign"]) (caps:=[]) rfl (jcf (N:=["word"]) (osc:=jac jdf) rfl rfl rfl (by decide +kernel)) (jvd (jab 0)) (fun _ _ _ _=>(jbw (i:=0) (show (["sign"]:List Str).Nodup from by decide +kernel))) (fun _ _ _ _=>jcg) (fun _ _ _ _=>(jah (jkf T) (hr.mono (by decide)) (jaa (jab 0) jaf)))) jaf))))))
theorem jm5(T:Txt K mg):Cal P w K mg base 3 "is_name" 1 jeu:=jbm T.f_is_name jnb (jjs T)
theorem sc_are_named:FnScope ["parts","most","names"] ["parts","most"] (jac jb0):=⟨rfl,rfl,rfl,by decide +kernel,rfl,by decide +kernel,by decide +kernel⟩
noncomputable def jeg:DSt->M D:=(jav jeu (jad (fVar 0) fNil))
noncomputable def jfh:DSt->M Out:=(gSeq (gSet 2 (jav je7 (jad (fVar 0) fNil)))
  (gRet (fAnd (jip gLe gLe (fC (.int 1)) (fL kLen (jad (fVar 2) fNil)) (fVar 1)) (fAnd (fL kAll (jad (jep 1 [] (jif (fVar 2)) (DL.gName 0) tYes jeg) fNil)) (f2 gEq (f1 jtf (fVar 2)) (fL kLen (jad (fVar 2) fNil)))))))
noncomputable def jci:List D->M D:=mir 2 3 jfh
theorem jh4(T:Txt K mg):jdb P w K mg base 3 "are_named" jb0 ["parts","most","names"] jfh:=fun f cdv A outer s H E hr =>
 (jal (jbd (i:=2) sc_are_named.nd (jah (jll T) (hr.mono (by decide)) (jaa (jab 0) jaf)))
  (jaq (ja6 (jfv (ji8 jhy jdn jhy jdn jae (ja2 jbn jdc rfl T.b_len jea (jaa (jab 2) jaf)) (jab 1)) (jfv (ja2 (jfu rfl) ji4 rfl T.b_all jl2 (jaa (jcy (own:=["name"]) (caps:=[]) rfl (jcf (N:=["parts","most","names"]) (osc:=jac jb0) rfl rfl rfl (by decide +kernel)) (jgs (jab 2)) (fun _ _ _ _=>(jbw (i:=0) (show (["name"]:List Str).Nodup from by decide +kernel))) (fun _ _ _ _=>jcg) (fun _ _ _ _=>(jah (jm5 T) (hr.mono (by decide)) (jaa (jab 0) jaf)))) jaf)) (jhg (jgr (jgu (hu30 hr)) jgw (js3 rfl T.b_set T.b_len (jab 2)) (ja2 jbn jdc rfl T.b_len jea (jaa (jab 2) jaf)) (jce _))))))))
theorem jew(T:Txt K mg):Cal P w K mg base 4 "are_named" 2 jci:=jbm T.f_are_named sc_are_named (jh4 T)
theorem sc_are_rules:FnScope ["book","width"] ["book"] (jac jb1):=⟨rfl,rfl,rfl,by decide +kernel,rfl,by decide +kernel,by decide +kernel⟩
noncomputable def jeh:DSt->M D:=(f2 gEq (fL kLen (jad (f2 gIx (fVar 0) (fC (.int 1))) fNil)) (fVar 1))
noncomputable def jfi:DSt->M Out:=(gSeq (gSet 1 (fL kLen (jad (f2 gIx (fVar 0) (fC (.int 0))) fNil)))
  (gRet (fAnd (jav jci (jad (f2 gIx (fVar 0) (fC (.int 1))) (jad (fC (.int 5)) fNil))) (fL kAll (jad (jep 1 [("width",1)] (jif (f2 gIx (fVar 0) (fC (.int 1)))) (DL.gName 0) tYes jeh) fNil)))))
noncomputable def jd3:List D->M D:=mir 1 2 jfi
theorem jh5(T:Txt K mg):jdb P w K mg base 4 "are_rules" jb1 ["book","width"] jfi:=fun f cdv A outer s H E hr =>
 (jal (jbd (i:=1) sc_are_rules.nd (ja2 jbn jdc rfl T.b_len jea (jaa (ja0 jan jao (jab 0) jae) jaf)))
  (jaq (ja6 (jfv (jah (jew T) (hr.mono (by decide)) (jaa (ja0 jan jao (jab 0) jae) (jaa (jg5 rfl T.g_MOST_RULES.choose_spec) jaf))) (jhg (ja2 (jfu rfl) ji4 rfl T.b_all jl2 (jaa (jcy (own:=["rule"]) (caps:=[("width",1)]) rfl (jcf (N:=["book","width"]) (osc:=jac jb1) rfl rfl rfl (by decide +kernel)) (jgs (ja0 jan jao (jab 0) jae)) (fun _ _ _ _=>(jbw (i:=0) (show (["rule","width"]:List Str).Nodup from by decide +kernel))) (fun _ _ _ _=>jcg) (fun _ _ _ _=>(jgr (jgu (hu30 hr)) jgw (ja2 jbn jdc rfl T.b_len jea (jaa (ja0 jan jao (jab 0) jae) jaf)) (jab 1) (jce _)))) jaf)))))))
theorem jke(T:Txt K mg):Cal P w K mg base 5 "are_rules" 1 jd3:=jbm T.f_are_rules sc_are_rules (jh5 T)
theorem sc_are_deeds:FnScope ["book","width"] ["book"] (jac jbz):=⟨rfl,rfl,rfl,by decide +kernel,rfl,by decide +kernel,by decide +kernel⟩
noncomputable def jef:DSt->M D:=(fAnd (f2 gEq (fL kLen (jad (f2 gIx (fVar 0) (fC (.int 3))) fNil)) (fVar 1)) (f2 gLe (f2 gIx (fVar 0) (fC (.int 1))) (f2 gIx (fVar 0) (fC (.int 2)))))
noncomputable def jfg:DSt->M Out:=(gSeq (gSet 1 (fL kLen (jad (f2 gIx (fVar 0) (fC (.int 0))) fNil)))
  (gRet (fAnd (jav jci (jad (f2 gIx (fVar 0) (fC (.int 2))) (jad (fC (.int 6)) fNil))) (fL kAll (jad (jep 1 [("width",1)] (jif (f2 gIx (fVar 0) (fC (.int 2)))) (DL.gName 0) tYes jef) fNil)))))
noncomputable def jd2:List D->M D:=mir 1 2 jfg
theorem jh3(T:Txt K mg):jdb P w K mg base 4 "are_deeds" jbz ["book","width"] jfg:=fun f cdv A outer s H E hr =>
 (jal (jbd (i:=1) sc_are_deeds.nd (ja2 jbn jdc rfl T.b_len jea (jaa (ja0 jan jao (jab 0) jae) jaf)))
  (jaq (ja6 (jfv (jah (jew T) (hr.mono (by decide)) (jaa (ja0 jan jao (jab 0) jae) (jaa (jg5 rfl T.g_MOST_DEEDS.choose_spec) jaf))) (jhg (ja2 (jfu rfl) ji4 rfl T.b_all jl2 (jaa (jcy (own:=["deed"]) (caps:=[("width",1)]) rfl (jcf (N:=["book","width"]) (osc:=jac jbz) rfl rfl rfl (by decide +kernel)) (jgs (ja0 jan jao (jab 0) jae)) (fun _ _ _ _=>(jbw (i:=0) (show (["deed","width"]:List Str).Nodup from by decide +kernel))) (fun _ _ _ _=>jcg) (fun _ _ _ _=>(jfv (jgr (jgu (hu30 hr)) jgw (ja2 jbn jdc rfl T.b_len jea (jaa (ja0 jan jao (jab 0) jae) jaf)) (jab 1) (jce _)) (jhg (jgr jhy jdn (ja0 jan jao (jab 0) jae) (ja0 jan jao (jab 0) jae) (jce _)))))) jaf)))))))
theorem jkd(T:Txt K mg):Cal P w K mg base 5 "are_deeds" 1 jd2:=jbm T.f_are_deeds sc_are_deeds (jh3 T)
theorem jna:FnScope ["book"] ["book"] (jac jdx):=⟨rfl,rfl,rfl,by decide +kernel,rfl,by decide +kernel,by decide +kernel⟩
noncomputable def jhk:DSt->M Out:=(gRet (fAnd (jav jci (jad (f2 gIx (fVar 0) (fC (.int 0))) (jad (fC (.int 4)) fNil))) (fAnd (jav jd3 (jad (fVar 0) fNil)) (jav jd2 (jad (fVar 0) fNil)))))
noncomputable def jet:List D->M D:=mir 1 1 jhk
theorem jjr(T:Txt K mg):jdb P w K mg base 5 "is_book" jdx ["book"] jhk:=fun f cdv A outer s H E hr =>
 (jaq (ja6 (jfv (jah (jew T) (hr.mono (by decide)) (jaa (ja0 jan jao (jab 0) jae) (jaa (jg5 rfl T.g_MOST_ITEMS.choose_spec) jaf))) (jfv (jah (jke T) (hr.mono (by decide)) (jaa (jab 0) jaf)) (jhg (jah (jkd T) (hr.mono (by decide)) (jaa (jab 0) jaf)))))))
theorem jm4(T:Txt K mg):Cal P w K mg base 6 "is_book" 1 jet:=jbm T.f_is_book jna (jjr T)
theorem jkw:FnScope ["book"] ["book"] (jac jb5):=⟨rfl,rfl,rfl,by decide +kernel,rfl,by decide +kernel,by decide +kernel⟩
noncomputable def jgp:DSt->M D:=(f2 gIx (fVar 0) (fC (.int 1)))
noncomputable def jfn:DSt->M Out:=(gRet (fL kTuple (jad (jep 1 [] (jif (f2 gIx (fVar 0) (fC (.int 0)))) (DL.gName 0) tYes jgp) fNil)))
noncomputable def jbx:List D->M D:=mir 1 1 jfn
theorem jie(T:Txt K mg):jdb P w K mg base 1 "starts_of" jb5 ["book"] jfn:=fun f cdv A outer s H E hr =>
 (jaq (ja6 (jbr jcb jem rfl T.b_tuple jft (jaa (jcy (own:=["item"]) (caps:=[]) rfl (jcf (N:=["book"]) (osc:=jac jb5) rfl rfl rfl (by decide +kernel)) (jgs (ja0 jan jao (jab 0) jae)) (fun _ _ _ _=>(jbw (i:=0) (show (["item"]:List Str).Nodup from by decide +kernel))) (fun _ _ _ _=>jcg) (fun _ _ _ _=>(ja0 jan jao (jab 0) jae))) jaf))))
theorem jkk(T:Txt K mg):Cal P w K mg base 2 "starts_of" 1 jbx:=jbm T.f_starts_of jkw (jie T)
theorem jjk:FnScope ["book"] ["book"] (jac jbi):=⟨rfl,rfl,rfl,by decide +kernel,rfl,by decide +kernel,by decide +kernel⟩
noncomputable def jcx:DSt->MS Out:=(eSeq (eIf (lF (DL.tNot (tTru (jav jet (jad (fVar 0) fNil))))) (jj1 xcs (jwe "NoBook")) eNx)
  (jmt (jdm jay (lF (jad (fVar 0) (jad (jav jbx (jad (fVar 0) fNil)) fNil))))))
noncomputable def jb6:List D->MS D:=mirE 1 1 jcx
theorem jhc(T:Txt K mg)(f:Addr)(cdv:Value)(A:Around)(outer:List Env)(s:Shared)(H:Hp)(E:XK)(hr:Room 6 (A.deeper (PyProof.Rows.envOfC "check_book" (jac jbi) s.heap.objs.size f cdv))) :
  MSsr (cxOf (CX1 P w) P w K mg base ["book"] "check_book" (jac jbi) f cdv A outer s H E) [] [] [] E (jai jbi) jcx :=
 (jot (jr4 (jov (jrs (jrt (jah (jm4 T) (hr.mono (by decide)) (jaa (jab 0) jaf))))) (jf3 (jkb T.errs rfl juv (jtv T.n_NoBook))) (jou jjd))
  (jf3 (jos (jg3 T) (hr.mono (by decide)) juv (jfp (jaa (jab 0) (jaa (jah (jkk T) (hr.mono (by decide)) (jaa (jab 0) jaf)) jaf))))))
theorem jjg(T:Txt K mg):CalR P w K mg base 7 "check_book" 1 jb6:=jnr T.f_check_book jjk (jhc T)
theorem sc_law_kept:FnScope ["_law_book_here","_law_kept_here","e"] ["_law_book_here"] (jac jc9):=⟨rfl,rfl,rfl,by decide +kernel,rfl,by decide +kernel,by decide +kernel⟩
noncomputable def je5:DSt->MS Out:=(eSeq (lF (gSet 1 (fC .non)))
  (eSeq (jn3 jb6 xcs 2 1 (lF (jad (fVar 0) fNil)))
  (lF (gRet (fVar 1)))))
noncomputable def jb7:List D->MS D:=mirE 1 3 je5
theorem jiz(T:Txt K mg):jp9 P w K mg base 7 "_law_kept" jc9 ["_law_book_here","_law_kept_here","e"] je5:=fun f cdv A outer s H E hr =>
 (jbv (jc0 (jbd (i:=1) sc_law_kept.nd jj0))
  (jbv (jt0 (j:=2) (l:=1) (jjg T) T.errm (hr.mono (by decide)) (fun _=>(jfp (jaa (jab 0) jaf))) rfl rfl sc_law_kept.nd rfl rfl (by decide))
  (jgi (jc0 (ja6 (jab 1))))))
theorem jhw(T:Txt K mg):CalE P w K mg base 8 "_law_kept" 1 jb7:=jnq T.f_law_kept sc_law_kept (jiz T)
theorem jkv:FnScope ["_law_found"] ["_law_found"] (jac jcr):=⟨rfl,rfl,rfl,by decide +kernel,rfl,by decide +kernel,by decide +kernel⟩
noncomputable def jhn:DSt->M Out:=(gRet (fAnd (fL kIsi (jad (fVar 0) (jad (fC (.ty "int")) fNil))) (f1 gNot (fL kIsi (jad (fVar 0) (jad (fC (.ty "bool")) fNil))))))
noncomputable def jfo:List D->M D:=mir 1 1 jhn
theorem jid(T:Txt K mg):jdb P w K mg base 1 "_law_whole" jcr ["_law_found"] jhn:=fun f cdv A outer s H E hr =>
 (jaq (ja6 (jfv (ja2 jjw jno rfl T.b_isinstance jc2 (jaa (jab 0) (jaa (jn1 rfl T.b_int jnm) jaf))) (jhg (jvb (ja2 jjw jno rfl T.b_isinstance jc2 (jaa (jab 0) (jaa (jn1 rfl T.b_bool jsw) jaf))))))))
theorem jkj(T:Txt K mg):Cal P w K mg base 2 "_law_whole" 1 jfo:=jbm T.f_law_whole jkv (jid T)
theorem sc_law:FnScope ["_law_script","_law_book_here","_law_starts","_law_state","_law_due","_law_k","_law_rule","_law_some","_law_found","_law_handed"] ["_law_script"] (jac jkq):=⟨rfl,rfl,rfl,by decide +kernel,rfl,by decide +kernel,by decide +kernel⟩
noncomputable def jrp:DSt->M D:=(f2 gIx (fVar 0) (fC (.int 1)))
noncomputable def jnn:DSt->M D:=(jav ja5 (jad (fVar 1) (jad (f2 gCat (fC (.int 300)) (fVar 0)) (jad (f2 gPow (fC (.int 10)) (fC (.int 29))) fNil))))
noncomputable def jlz:DSt->M Out:=(gSeq (gSet 8 (jav jgh (jad (fVar 1) (jad (fVar 5) (jad (fVar 7) fNil)))))
  (gIf (DL.tOr (DL.tNot (tTru (jav jfo (jad (fVar 8) fNil)))) (t2 gNe (fVar 8) (jav ja7 (jad (fVar 6) (jad (fVar 7) fNil))))) (gRet (fC (.bl false))) gNx))
noncomputable def jil:DSt->M Out:=(gSeq (gFor (jif (fL jb9 (jad (fVar 2) (jad (fVar 3) fNil)))) (DL.gName 7) jlz)
  (gIf (DL.tAnd (t2 gIs (fVar 4) (fC .non)) (t2 gLt (jav ja7 (jad (fVar 6) (jad (fVar 2) fNil))) (fC (.int 0)))) (gSet 4 (f2 gIx (fVar 6) (fC (.int 0)))) gNx))
noncomputable def jqj:DSt->MS Out:=(eSeq (lF (gSet 1 (jav jdu (jad (fVar 0) (jad (jav jdi (jad (fVar 0) fNil)) fNil)))))
  (eSeq (lF (gSet 1 (jav jcu (jad (fVar 1) (jad (f2 jbk (jav jbs (jad (jav jcd (jad (fVar 0) (jad (fC (.int 0)) fNil))) (jad (fC (.int 7)) fNil))) (f2 gMod (jav jbs (jad (jav jcd (jad (fVar 0) (jad (fC (.int 0)) fNil))) (jad (fC (.int 8)) fNil))) (fC (.int 4)))) fNil)))))
  (eSeq (lF (gSet 2 (fL kTuple (jad (jep 1 [] (jif (f2 gIx (fVar 1) (fC (.int 0)))) (DL.gName 0) tYes jrp) fNil))))
  (eSeq (lF (gSet 3 (fL kTuple (jad (jep 1 [("_law_script",0)] (jfb jbt (jad (fL kLen (jad (fVar 2) fNil)) fNil)) (DL.gName 0) tYes jnn) fNil))))
  (eSeq (lF (gSet 4 (fC .non)))
  (eSeq (lF (gFor (jfb je4 (jad (f2 gIx (fVar 1) (fC (.int 1))) fNil)) (jdg 5 6) jil))
  (eSeq (lF (gSet 9 (fL jf1 (jad (fL kList (jad (f2 gIx (fVar 1) (fC (.int 0))) fNil)) (jad (fL kList (jad (f2 gIx (fVar 1) (fC (.int 1))) fNil)) (jad (fL kList (jad (f2 gIx (fVar 1) (fC (.int 2))) fNil)) fNil))))))
  (eRet (jqv (jdm jck (jlf (jdm jb7 (lF (jad (fVar 9) fNil))) (lF (jad (fVar 4) fNil)))) (jqv (jdm jck (jlf (jdm jb7 (lF (jad (fVar 9) fNil))) (lF (jad (fVar 4) fNil)))) (lF (f2 gEq (fVar 9) (fVar 1)))))))))))))
noncomputable def jon:List D->MS D:=mirE 1 10 jqj
theorem jqc(T:Txt K mg):jp9 P w K mg base 8 "law" jkq ["_law_script","_law_book_here","_law_starts","_law_state","_law_due","_law_k","_law_rule","_law_some","_law_found","_law_handed"] jqj:=fun f cdv A outer s H E hr =>
 (jbv (jc0 (jbd (i:=1) sc_law.nd (jah (jlk T) (hr.mono (by decide)) (jaa (jab 0) (jaa (jah (jjh T) (hr.mono (by decide)) (jaa (jab 0) jaf)) jaf)))))
  (jbv (jc0 (jbd (i:=1) sc_law.nd (jah (jhx T) (hr.mono (by decide)) (jaa (jab 1) (jaa (jaj jbb jax (jah (jdw T) (hr.mono (by decide)) (jaa (jah (jdv T) (hr.mono (by decide)) (jaa (jab 0) (jaa jae jaf))) (jaa jae jaf))) (jaj jbp ja9 (jah (jdw T) (hr.mono (by decide)) (jaa (jah (jdv T) (hr.mono (by decide)) (jaa (jab 0) (jaa jae jaf))) (jaa jae jaf))) jae)) jaf)))))
  (jbv (jc0 (jbd (i:=2) sc_law.nd (jbr jcb jem rfl T.b_tuple jft (jaa (jcy (own:=["_law_item"]) (caps:=[]) rfl (jcf (N:=["_law_script","_law_book_here","_law_starts","_law_state","_law_due","_law_k","_law_rule","_law_some","_law_found","_law_handed"]) (osc:=jac jkq) rfl rfl rfl (by decide +kernel)) (jgs (ja0 jan jao (jab 1) jae)) (fun _ _ _ _=>(jbw (i:=0) (show (["_law_item"]:List Str).Nodup from by decide +kernel))) (fun _ _ _ _=>jcg) (fun _ _ _ _=>(ja0 jan jao (jab 0) jae))) jaf))))
  (jbv (jc0 (jbd (i:=3) sc_law.nd (jbr jcb jem rfl T.b_tuple jft (jaa (jcy (own:=["_law_k"]) (caps:=[("_law_script",0)]) rfl (jcf (N:=["_law_script","_law_book_here","_law_starts","_law_state","_law_due","_law_k","_law_rule","_law_some","_law_found","_law_handed"]) (osc:=jac jkq) rfl rfl rfl (by decide +kernel)) (je3 rfl T.b_range (jaa (ja2 jbn jdc rfl T.b_len jea (jaa (jab 2) jaf)) jaf)) (fun _ _ _ _=>(jbw (i:=0) (show (["_law_k","_law_script"]:List Str).Nodup from by decide +kernel))) (fun _ _ _ _=>jcg) (fun _ _ _ _=>(jah (jcl T) (hr.mono (by decide)) (jaa (jab 1) (jaa (jaj jat jau jae (jab 0)) (jaa (jaj jiv jgk jae jae) jaf)))))) jaf))))
  (jbv (jc0 (jbd (i:=4) sc_law.nd jj0))
  (jbv (jc0 (jhi PassesOwn.never rfl (jk6 rfl T.b_enumerate (jaa (ja0 jan jao (jab 1) jae) jaf)) (jf9 (i:=5) (j:=6) rfl sc_law.nd) (jal (jhi PassesOwn.never rfl (jgs (jjz (jaa (jab 2) (jaa (jab 3) jaf)))) (jbw (i:=7) sc_law.nd) (jal (jbd (i:=8) sc_law.nd (jah (jme T) (hr.mono (by decide)) (jaa (jab 1) (jaa (jab 5) (jaa (jab 7) jaf)))))
  (jaq (jk7 (DW.dt (jx3 (jrs (jrt (jah (jkj T) (hr.mono (by decide)) (jaa (jab 8) jaf)))) (jvh (jfx (jo4 (hu30 hr)) jo6 (jab 8) (jah (jey T) (hr.mono (by decide)) (jaa (jab 6) (jaa (jab 7) jaf))) (jce _))))) (jaq (ja6 js2)) jff))))
  (jaq (jk7 (DW.dt (jvg (jfx jo1 jo5 (jab 4) jj0 (jce _)) (js6 (jfx jo2 jdn (jah (jey T) (hr.mono (by decide)) (jaa (jab 6) (jaa (jab 2) jaf))) jae (jce _))))) (jaq (jbd (i:=4) sc_law.nd (ja0 jan jao (jab 6) jae))) jff)))))
  (jbv (jc0 (jbd (i:=9) sc_law.nd (jfw (jaa (jbr jen ji5 rfl T.b_list jk5 (jaa (ja0 jan jao (jab 1) jae) jaf)) (jaa (jbr jen ji5 rfl T.b_list jk5 (jaa (ja0 jan jao (jab 1) jae) jaf)) (jaa (jbr jen ji5 rfl T.b_list jk5 (jaa (ja0 jan jao (jab 1) jae) jaf)) jaf))))))
  (jgi (jr3 (jrz (jjc (jgt T) (hr.mono (by decide)) (joo (jjc (jhw T) (hr.mono (by decide)) (jfp (jaa (jab 9) jaf))) (jfp (jaa (jab 4) jaf)))) (jrz (jjc (jgt T) (hr.mono (by decide)) (joo (jjc (jhw T) (hr.mono (by decide)) (jfp (jaa (jab 9) jaf))) (jfp (jaa (jab 4) jaf)))) (jwj (jd7 (jgr (jgu (hu30 hr)) jgw (jab 9) (jab 1) (jce _)))))))))))))))
end
theorem jii{us:List Value}{n:Nat}(h:us.length=n+1):∃ a r,us=a::r/\r.length=n:=by
 cases us with
 | nil=>cases h
 | cons a r=>exact⟨a,r,rfl,Nat.succ.inj h⟩
theorem jhb{fd:FuncData}{p0:Str}(h:∀ a0:Value,bindArgs fd ⟨[a0],[]⟩=pure ([p0].zip [a0]))(us:List Value)(hl:us.length=([p0]:List Str).length):bindArgs fd ⟨us,[]⟩=pure ([p0].zip us):=by
 obtain⟨a0,r0,rfl,q0⟩:=jii hl;cases List.eq_nil_of_length_eq_zero q0;exact h a0
theorem jg0{fd:FuncData}{p0 p1:Str}(h:∀ a0 a1:Value,bindArgs fd ⟨[a0,a1],[]⟩=pure ([p0,p1].zip [a0,a1]))(us:List Value)(hl:us.length=([p0,p1]:List Str).length):bindArgs fd ⟨us,[]⟩=pure ([p0,p1].zip us):=by
 obtain⟨a0,r0,rfl,q0⟩:=jii hl;obtain⟨a1,r1,rfl,q1⟩:=jii q0;cases List.eq_nil_of_length_eq_zero q1;exact h a0 a1
theorem jqa{fd:FuncData}{p0 p1 p2:Str}(h:∀ a0 a1 a2:Value,bindArgs fd ⟨[a0,a1,a2],[]⟩=pure ([p0,p1,p2].zip [a0,a1,a2]))(us:List Value)(hl:us.length=([p0,p1,p2]:List Str).length):bindArgs fd ⟨us,[]⟩=pure ([p0,p1,p2].zip us):=by
 obtain⟨a0,r0,rfl,q0⟩:=jii hl;obtain⟨a1,r1,rfl,q1⟩:=jii q0;obtain⟨a2,r2,rfl,q2⟩:=jii q1;cases List.eq_nil_of_length_eq_zero q2;exact h a0 a1 a2
theorem jxz{fd:FuncData}{p0 p1 p2 p3:Str}(h:∀ a0 a1 a2 a3:Value,bindArgs fd ⟨[a0,a1,a2,a3],[]⟩=pure ([p0,p1,p2,p3].zip [a0,a1,a2,a3]))(us:List Value)(hl:us.length=([p0,p1,p2,p3]:List Str).length):bindArgs fd ⟨us,[]⟩=pure ([p0,p1,p2,p3].zip us):=by
 obtain⟨a0,r0,rfl,q0⟩:=jii hl;obtain⟨a1,r1,rfl,q1⟩:=jii q0;obtain⟨a2,r2,rfl,q2⟩:=jii q1;obtain⟨a3,r3,rfl,q3⟩:=jii q2;cases List.eq_nil_of_length_eq_zero q3;exact h a0 a1 a2 a3
theorem txt_mk{K:W.Frag}{h:Heap}{mg:Str->Option Value}(X:K.In h)(G:h.Ns mainGlobals mg)
    {C_BookError:Addr}
    {C_Broken:Addr}
    {C_Folded:Addr}
    {C_NoBook:Addr}
    {C_NoDeed:Addr}
    {C_NoLine:Addr}
    {C_NoName:Addr}
    {C_NoPaper:Addr}
    {C_NoRule:Addr}
    {C_NoText:Addr}
    {C_NotPlain:Addr}
    {C_OutOfRange:Addr}
    {C_ShortShare:Addr}
    {f0:Addr} {oc0 kV0 dc0 pm0 cd0 ct0:Value} {od0 an0:Option Addr} {sl0:Array (Option Value)}
    {f1:Addr} {oc1 kV1 dc1 pm1 cd1 ct1:Value} {od1 an1:Option Addr} {sl1:Array (Option Value)}
    {f2:Addr} {oc2 kV2 dc2 pm2 cd2 ct2:Value} {od2 an2:Option Addr} {sl2:Array (Option Value)}
    {f3:Addr} {oc3 kV3 dc3 pm3 cd3 ct3:Value} {od3 an3:Option Addr} {sl3:Array (Option Value)}
    {f4:Addr} {oc4 kV4 dc4 pm4 cd4 ct4:Value} {od4 an4:Option Addr} {sl4:Array (Option Value)}
    {f5:Addr} {oc5 kV5 dc5 pm5 cd5 ct5:Value} {od5 an5:Option Addr} {sl5:Array (Option Value)}
    {f6:Addr} {oc6 kV6 dc6 pm6 cd6 ct6:Value} {od6 an6:Option Addr} {sl6:Array (Option Value)}
    {f7:Addr} {oc7 kV7 dc7 pm7 cd7 ct7:Value} {od7 an7:Option Addr} {sl7:Array (Option Value)}
    {f8:Addr} {oc8 kV8 dc8 pm8 cd8 ct8:Value} {od8 an8:Option Addr} {sl8:Array (Option Value)}
    {f9:Addr} {oc9 kV9 dc9 pm9 cd9 ct9:Value} {od9 an9:Option Addr} {sl9:Array (Option Value)}
    {f10:Addr} {oc10 kV10 dc10 pm10 cd10 ct10:Value} {od10 an10:Option Addr} {sl10:Array (Option Value)}
    {f11:Addr} {oc11 kV11 dc11 pm11 cd11 ct11:Value} {od11 an11:Option Addr} {sl11:Array (Option Value)}
    {f12:Addr} {oc12 kV12 dc12 pm12 cd12 ct12:Value} {od12 an12:Option Addr} {sl12:Array (Option Value)}
    {f13:Addr} {oc13 kV13 dc13 pm13 cd13 ct13:Value} {od13 an13:Option Addr} {sl13:Array (Option Value)}
    {f14:Addr} {oc14 kV14 dc14 pm14 cd14 ct14:Value} {od14 an14:Option Addr} {sl14:Array (Option Value)}
    {f15:Addr} {oc15 kV15 dc15 pm15 cd15 ct15:Value} {od15 an15:Option Addr} {sl15:Array (Option Value)}
    {f16:Addr} {oc16 kV16 dc16 pm16 cd16 ct16:Value} {od16 an16:Option Addr} {sl16:Array (Option Value)}
    {f17:Addr} {oc17 kV17 dc17 pm17 cd17 ct17:Value} {od17 an17:Option Addr} {sl17:Array (Option Value)}
    {f18:Addr} {oc18 kV18 dc18 pm18 cd18 ct18:Value} {od18 an18:Option Addr} {sl18:Array (Option Value)}
    {f19:Addr} {oc19 kV19 dc19 pm19 cd19 ct19:Value} {od19 an19:Option Addr} {sl19:Array (Option Value)}
    {f20:Addr} {oc20 kV20 dc20 pm20 cd20 ct20:Value} {od20 an20:Option Addr} {sl20:Array (Option Value)}
    {f21:Addr} {oc21 kV21 dc21 pm21 cd21 ct21:Value} {od21 an21:Option Addr} {sl21:Array (Option Value)}
    {f22:Addr} {oc22 kV22 dc22 pm22 cd22 ct22:Value} {od22 an22:Option Addr} {sl22:Array (Option Value)}
    {f23:Addr} {oc23 kV23 dc23 pm23 cd23 ct23:Value} {od23 an23:Option Addr} {sl23:Array (Option Value)}
    {f24:Addr} {oc24 kV24 dc24 pm24 cd24 ct24:Value} {od24 an24:Option Addr} {sl24:Array (Option Value)}
    {f25:Addr} {oc25 kV25 dc25 pm25 cd25 ct25:Value} {od25 an25:Option Addr} {sl25:Array (Option Value)}
    {f26:Addr} {oc26 kV26 dc26 pm26 cd26 ct26:Value} {od26 an26:Option Addr} {sl26:Array (Option Value)}
    {f27:Addr} {oc27 kV27 dc27 pm27 cd27 ct27:Value} {od27 an27:Option Addr} {sl27:Array (Option Value)}
    {f28:Addr} {oc28 kV28 dc28 pm28 cd28 ct28:Value} {od28 an28:Option Addr} {sl28:Array (Option Value)}
    {t0:Tok}
    {t1:Tok}
    {t2:Tok}
    {t3:Tok}
    (ca_BookError:W.nsIn K mainGlobals "BookError"=some (some (.ref C_BookError)))
    (ca_Broken:W.nsIn K mainGlobals "Broken"=some (some (.ref C_Broken)))
    (ca_Folded:W.nsIn K mainGlobals "Folded"=some (some (.ref C_Folded)))
    (ca_NoBook:W.nsIn K mainGlobals "NoBook"=some (some (.ref C_NoBook)))
    (ca_NoDeed:W.nsIn K mainGlobals "NoDeed"=some (some (.ref C_NoDeed)))
    (ca_NoLine:W.nsIn K mainGlobals "NoLine"=some (some (.ref C_NoLine)))
    (ca_NoName:W.nsIn K mainGlobals "NoName"=some (some (.ref C_NoName)))
    (ca_NoPaper:W.nsIn K mainGlobals "NoPaper"=some (some (.ref C_NoPaper)))
    (ca_NoRule:W.nsIn K mainGlobals "NoRule"=some (some (.ref C_NoRule)))
    (ca_NoText:W.nsIn K mainGlobals "NoText"=some (some (.ref C_NoText)))
    (ca_NotPlain:W.nsIn K mainGlobals "NotPlain"=some (some (.ref C_NotPlain)))
    (ca_OutOfRange:W.nsIn K mainGlobals "OutOfRange"=some (some (.ref C_OutOfRange)))
    (ca_ShortShare:W.nsIn K mainGlobals "ShortShare"=some (some (.ref C_ShortShare)))
    (tab:xTab K [("Broken",C_Broken),("Folded",C_Folded),("NoBook",C_NoBook),("NoDeed",C_NoDeed),("NoLine",C_NoLine),("NoName",C_NoName),("NoPaper",C_NoPaper),("NoRule",C_NoRule),("NoText",C_NoText),("NotPlain",C_NotPlain),("OutOfRange",C_OutOfRange),("ShortShare",C_ShortShare)] C_BookError xfs=true)
    (tab2:jxi K [("Broken",C_Broken),("Folded",C_Folded),("NoBook",C_NoBook),("NoDeed",C_NoDeed),("NoLine",C_NoLine),("NoName",C_NoName),("NoPaper",C_NoPaper),("NoRule",C_NoRule),("NoText",C_NoText),("NotPlain",C_NotPlain),("OutOfRange",C_OutOfRange),("ShortShare",C_ShortShare)] C_BookError=true)
    (ni_Folded:xNoI K C_Folded=true)
    (ni_NoBook:xNoI K C_NoBook=true)
    (ni_OutOfRange:xNoI K C_OutOfRange=true)
    (a0:W.nsIn K mainGlobals "_law_mix"=some (some (.ref f0)))
    (l0:K.lookup f0=some ⟨oc0,od0,.func (W.fnOf "_law_mix" "_law_mix" (jap jdy) (jai jdy) (jac jdy) .none kV0 dc0 pm0 an0 cd0 ct0),sl0⟩)
    (c0:W.codeIn K cd0 "_law_mix"=true)
    (k0:W.keepIn K (.ref f0)=true)
    (a1:W.nsIn K mainGlobals "_law_at"=some (some (.ref f1)))
    (l1:K.lookup f1=some ⟨oc1,od1,.func (W.fnOf "_law_at" "_law_at" (jap jfa) (jai jfa) (jac jfa) .none kV1 dc1 pm1 an1 cd1 ct1),sl1⟩)
    (c1:W.codeIn K cd1 "_law_at"=true)
    (k1:W.keepIn K (.ref f1)=true)
    (a2:W.nsIn K mainGlobals "_law_draw"=some (some (.ref f2)))
    (l2:K.lookup f2=some ⟨oc2,od2,.func (W.fnOf "_law_draw" "_law_draw" (jap jc8) (jai jc8) (jac jc8) .none kV2 dc2 pm2 an2 cd2 ct2),sl2⟩)
    (c2:W.codeIn K cd2 "_law_draw"=true)
    (k2:W.keepIn K (.ref f2)=true)
    (a3:W.nsIn K mainGlobals "_law_named"=some (some (.ref f3)))
    (l3:K.lookup f3=some ⟨oc3,od3,.func (W.fnOf "_law_named" "_law_named" (jap jcp) (jai jcp) (jac jcp) .none kV3 dc3 pm3 an3 cd3 ct3),sl3⟩)
    (c3:W.codeIn K cd3 "_law_named"=true)
    (k3:W.keepIn K (.ref f3)=true)
    (a4:W.nsIn K mainGlobals "_law_wide"=some (some (.ref f4)))
    (l4:K.lookup f4=some ⟨oc4,od4,.func (W.fnOf "_law_wide" "_law_wide" (jap jda) (jai jda) (jac jda) .none kV4 dc4 pm4 an4 cd4 ct4),sl4⟩)
    (c4:W.codeIn K cd4 "_law_wide"=true)
    (k4:W.keepIn K (.ref f4)=true)
    (a5:W.nsIn K mainGlobals "_law_items"=some (some (.ref f5)))
    (l5:K.lookup f5=some ⟨oc5,od5,.func (W.fnOf "_law_items" "_law_items" (jap jb2) (jai jb2) (jac jb2) .none kV5 dc5 pm5 an5 cd5 ct5),sl5⟩)
    (c5:W.codeIn K cd5 "_law_items"=true)
    (k5:W.keepIn K (.ref f5)=true)
    (a6:W.nsIn K mainGlobals "_law_rules"=some (some (.ref f6)))
    (l6:K.lookup f6=some ⟨oc6,od6,.func (W.fnOf "_law_rules" "_law_rules" (jap jb3) (jai jb3) (jac jb3) .none kV6 dc6 pm6 an6 cd6 ct6),sl6⟩)
    (c6:W.codeIn K cd6 "_law_rules"=true)
    (k6:W.keepIn K (.ref f6)=true)
    (a7:W.nsIn K mainGlobals "_law_deeds"=some (some (.ref f7)))
    (l7:K.lookup f7=some ⟨oc7,od7,.func (W.fnOf "_law_deeds" "_law_deeds" (jap jco) (jai jco) (jac jco) .none kV7 dc7 pm7 an7 cd7 ct7),sl7⟩)
    (c7:W.codeIn K cd7 "_law_deeds"=true)
    (k7:W.keepIn K (.ref f7)=true)
    (a8:W.nsIn K mainGlobals "_law_book"=some (some (.ref f8)))
    (l8:K.lookup f8=some ⟨oc8,od8,.func (W.fnOf "_law_book" "_law_book" (jap jc7) (jai jc7) (jac jc7) .none kV8 dc8 pm8 an8 cd8 ct8),sl8⟩)
    (c8:W.codeIn K cd8 "_law_book"=true)
    (k8:W.keepIn K (.ref f8)=true)
    (a9:W.nsIn K mainGlobals "_law_spare"=some (some (.ref f9)))
    (l9:K.lookup f9=some ⟨oc9,od9,.func (W.fnOf "_law_spare" "_law_spare" (jap jb4) (jai jb4) (jac jb4) .none kV9 dc9 pm9 an9 cd9 ct9),sl9⟩)
    (c9:W.codeIn K cd9 "_law_spare"=true)
    (k9:W.keepIn K (.ref f9)=true)
    (a10:W.nsIn K mainGlobals "_law_lessened"=some (some (.ref f10)))
    (l10:K.lookup f10=some ⟨oc10,od10,.func (W.fnOf "_law_lessened" "_law_lessened" (jap jbc) (jai jbc) (jac jbc) .none kV10 dc10 pm10 an10 cd10 ct10),sl10⟩)
    (c10:W.codeIn K cd10 "_law_lessened"=true)
    (k10:W.keepIn K (.ref f10)=true)
    (a11:W.nsIn K mainGlobals "_law_counts"=some (some (.ref f11)))
    (l11:K.lookup f11=some ⟨oc11,od11,.func (W.fnOf "_law_counts" "_law_counts" (jap jb8) (jai jb8) (jac jb8) .none kV11 dc11 pm11 an11 cd11 ct11),sl11⟩)
    (c11:W.codeIn K cd11 "_law_counts"=true)
    (k11:W.keepIn K (.ref f11)=true)
    (a12:W.nsIn K mainGlobals "_law_right"=some (some (.ref f12)))
    (l12:K.lookup f12=some ⟨oc12,od12,.func (W.fnOf "_law_right" "_law_right" (jap jcq) (jai jcq) (jac jcq) .none kV12 dc12 pm12 an12 cd12 ct12),sl12⟩)
    (c12:W.codeIn K cd12 "_law_right"=true)
    (k12:W.keepIn K (.ref f12)=true)
    (a13:W.nsIn K mainGlobals "value_of"=some (some (.ref f13)))
    (l13:K.lookup f13=some ⟨oc13,od13,.func (W.fnOf "value_of" "value_of" (jap jct) (jai jct) (jac jct) .none kV13 dc13 pm13 an13 cd13 ct13),sl13⟩)
    (c13:W.codeIn K cd13 "value_of"=true)
    (k13:W.keepIn K (.ref f13)=true)
    (a14:W.nsIn K mainGlobals "spare"=some (some (.ref f14)))
    (l14:K.lookup f14=some ⟨oc14,od14,.func (W.fnOf "spare" "spare" (jap jgm) (jai jgm) (jac jgm) .none kV14 dc14 pm14 an14 cd14 ct14),sl14⟩)
    (c14:W.codeIn K cd14 "spare"=true)
    (k14:W.keepIn K (.ref f14)=true)
    (a15:W.findIn K (.ref C_Broken) "__init__"=some (some (.ref f15)))
    (b15:W.isFn K (.ref f15)=true)
    (l15:K.lookup f15=some ⟨oc15,od15,.func (W.fnOf "__init__" "Broken.__init__" (jap jbh) (jai jbh) (jac jbh) .none kV15 dc15 pm15 an15 cd15 ct15),sl15⟩)
    (c15:W.codeIn K cd15 "Broken.__init__"=true)
    (k15:W.keepIn K (.ref f15)=true)
    (a16:W.nsIn K mainGlobals "refuse_broken"=some (some (.ref f16)))
    (l16:K.lookup f16=some ⟨oc16,od16,.func (W.fnOf "refuse_broken" "refuse_broken" (jap jaz) (jai jaz) (jac jaz) .none kV16 dc16 pm16 an16 cd16 ct16),sl16⟩)
    (c16:W.codeIn K cd16 "refuse_broken"=true)
    (k16:W.keepIn K (.ref f16)=true)
    (a17:W.nsIn K mainGlobals "names_of"=some (some (.ref f17)))
    (l17:K.lookup f17=some ⟨oc17,od17,.func (W.fnOf "names_of" "names_of" (jap jcs) (jai jcs) (jac jcs) .none kV17 dc17 pm17 an17 cd17 ct17),sl17⟩)
    (c17:W.codeIn K cd17 "names_of"=true)
    (k17:W.keepIn K (.ref f17)=true)
    (a18:W.nsIn K mainGlobals "is_letter"=some (some (.ref f18)))
    (l18:K.lookup f18=some ⟨oc18,od18,.func (W.fnOf "is_letter" "is_letter" (jap jcn) (jai jcn) (jac jcn) .none kV18 dc18 pm18 an18 cd18 ct18),sl18⟩)
    (c18:W.codeIn K cd18 "is_letter"=true)
    (k18:W.keepIn K (.ref f18)=true)
    (a19:W.nsIn K mainGlobals "is_name"=some (some (.ref f19)))
    (l19:K.lookup f19=some ⟨oc19,od19,.func (W.fnOf "is_name" "is_name" (jap jdf) (jai jdf) (jac jdf) .none kV19 dc19 pm19 an19 cd19 ct19),sl19⟩)
    (c19:W.codeIn K cd19 "is_name"=true)
    (k19:W.keepIn K (.ref f19)=true)
    (a20:W.nsIn K mainGlobals "are_named"=some (some (.ref f20)))
    (l20:K.lookup f20=some ⟨oc20,od20,.func (W.fnOf "are_named" "are_named" (jap jb0) (jai jb0) (jac jb0) .none kV20 dc20 pm20 an20 cd20 ct20),sl20⟩)
    (c20:W.codeIn K cd20 "are_named"=true)
    (k20:W.keepIn K (.ref f20)=true)
    (a21:W.nsIn K mainGlobals "are_rules"=some (some (.ref f21)))
    (l21:K.lookup f21=some ⟨oc21,od21,.func (W.fnOf "are_rules" "are_rules" (jap jb1) (jai jb1) (jac jb1) .none kV21 dc21 pm21 an21 cd21 ct21),sl21⟩)
    (c21:W.codeIn K cd21 "are_rules"=true)
    (k21:W.keepIn K (.ref f21)=true)
    (a22:W.nsIn K mainGlobals "are_deeds"=some (some (.ref f22)))
    (l22:K.lookup f22=some ⟨oc22,od22,.func (W.fnOf "are_deeds" "are_deeds" (jap jbz) (jai jbz) (jac jbz) .none kV22 dc22 pm22 an22 cd22 ct22),sl22⟩)
    (c22:W.codeIn K cd22 "are_deeds"=true)
    (k22:W.keepIn K (.ref f22)=true)
    (a23:W.nsIn K mainGlobals "is_book"=some (some (.ref f23)))
    (l23:K.lookup f23=some ⟨oc23,od23,.func (W.fnOf "is_book" "is_book" (jap jdx) (jai jdx) (jac jdx) .none kV23 dc23 pm23 an23 cd23 ct23),sl23⟩)
    (c23:W.codeIn K cd23 "is_book"=true)
    (k23:W.keepIn K (.ref f23)=true)
    (a24:W.nsIn K mainGlobals "starts_of"=some (some (.ref f24)))
    (l24:K.lookup f24=some ⟨oc24,od24,.func (W.fnOf "starts_of" "starts_of" (jap jb5) (jai jb5) (jac jb5) .none kV24 dc24 pm24 an24 cd24 ct24),sl24⟩)
    (c24:W.codeIn K cd24 "starts_of"=true)
    (k24:W.keepIn K (.ref f24)=true)
    (a25:W.nsIn K mainGlobals "check_book"=some (some (.ref f25)))
    (l25:K.lookup f25=some ⟨oc25,od25,.func (W.fnOf "check_book" "check_book" (jap jbi) (jai jbi) (jac jbi) .none kV25 dc25 pm25 an25 cd25 ct25),sl25⟩)
    (c25:W.codeIn K cd25 "check_book"=true)
    (k25:W.keepIn K (.ref f25)=true)
    (a26:W.nsIn K mainGlobals "_law_kept"=some (some (.ref f26)))
    (l26:K.lookup f26=some ⟨oc26,od26,.func (W.fnOf "_law_kept" "_law_kept" (jap jc9) (jai jc9) (jac jc9) .none kV26 dc26 pm26 an26 cd26 ct26),sl26⟩)
    (c26:W.codeIn K cd26 "_law_kept"=true)
    (k26:W.keepIn K (.ref f26)=true)
    (a27:W.nsIn K mainGlobals "_law_whole"=some (some (.ref f27)))
    (l27:K.lookup f27=some ⟨oc27,od27,.func (W.fnOf "_law_whole" "_law_whole" (jap jcr) (jai jcr) (jac jcr) .none kV27 dc27 pm27 an27 cd27 ct27),sl27⟩)
    (c27:W.codeIn K cd27 "_law_whole"=true)
    (k27:W.keepIn K (.ref f27)=true)
    (a28:W.nsIn K mainGlobals "law"=some (some (.ref f28)))
    (l28:K.lookup f28=some ⟨oc28,od28,.func (W.fnOf "law" "law" (jap jkq) (jai jkq) (jac jkq) .none kV28 dc28 pm28 an28 cd28 ct28),sl28⟩)
    (c28:W.codeIn K cd28 "law"=true)
    (k28:W.keepIn K (.ref f28)=true)
    (y0:W.nsIn K mainGlobals "MOST_DEEDS"=some (some (.int 6 t0)))
    (y1:W.nsIn K mainGlobals "MOST_ITEMS"=some (some (.int 4 t1)))
    (y2:W.nsIn K mainGlobals "MOST_RULES"=some (some (.int 5 t2)))
    (y3:W.nsIn K mainGlobals "NAME_LENGTH"=some (some (.int 10 t3)))
    (z0:W.nsIn K mainGlobals "ValueError"=some none)
    (z1:W.nsIn K mainGlobals "all"=some none)
    (z2:W.nsIn K mainGlobals "bool"=some none)
    (z3:W.nsIn K mainGlobals "enumerate"=some none)
    (z4:W.nsIn K mainGlobals "int"=some none)
    (z5:W.nsIn K mainGlobals "isinstance"=some none)
    (z6:W.nsIn K mainGlobals "len"=some none)
    (z7:W.nsIn K mainGlobals "list"=some none)
    (z8:W.nsIn K mainGlobals "range"=some none)
    (z9:W.nsIn K mainGlobals "set"=some none)
    (z10:W.nsIn K mainGlobals "sum"=some none)
    (z11:W.nsIn K mainGlobals "tuple"=some none)
    (z12:W.nsIn K mainGlobals "zip"=some none):Txt K mg:=by
  have alls:∀ p∈([("Broken",C_Broken),("Folded",C_Folded),("NoBook",C_NoBook),("NoDeed",C_NoDeed),("NoLine",C_NoLine),("NoName",C_NoName),("NoPaper",C_NoPaper),("NoRule",C_NoRule),("NoText",C_NoText),("NotPlain",C_NotPlain),("OutOfRange",C_OutOfRange),("ShortShare",C_ShortShare)]:List (Str×Addr)),mg p.1=some (.ref p.2):=(List.forall_mem_cons.mpr ⟨W.mg_of X G ca_Broken,(List.forall_mem_cons.mpr ⟨W.mg_of X G ca_Folded,(List.forall_mem_cons.mpr ⟨W.mg_of X G ca_NoBook,(List.forall_mem_cons.mpr ⟨W.mg_of X G ca_NoDeed,(List.forall_mem_cons.mpr ⟨W.mg_of X G ca_NoLine,(List.forall_mem_cons.mpr ⟨W.mg_of X G ca_NoName,(List.forall_mem_cons.mpr ⟨W.mg_of X G ca_NoPaper,(List.forall_mem_cons.mpr ⟨W.mg_of X G ca_NoRule,(List.forall_mem_cons.mpr ⟨W.mg_of X G ca_NoText,(List.forall_mem_cons.mpr ⟨W.mg_of X G ca_NotPlain,(List.forall_mem_cons.mpr ⟨W.mg_of X G ca_OutOfRange,(List.forall_mem_cons.mpr ⟨W.mg_of X G ca_ShortShare,(List.forall_mem_nil _)⟩)⟩)⟩)⟩)⟩)⟩)⟩)⟩)⟩)⟩)⟩)⟩)
  have errs:ErrT K mg xcs xfs "BookError":=jtd (es:=[("Broken",C_Broken),("Folded",C_Folded),("NoBook",C_NoBook),("NoDeed",C_NoDeed),("NoLine",C_NoLine),("NoName",C_NoName),("NoPaper",C_NoPaper),("NoRule",C_NoRule),("NoText",C_NoText),("NotPlain",C_NotPlain),("OutOfRange",C_OutOfRange),("ShortShare",C_ShortShare)]) alls (W.mg_of X G ca_BookError) tab;exact⟨errs,
   jtc (es:=[("Broken",C_Broken),("Folded",C_Folded),("NoBook",C_NoBook),("NoDeed",C_NoDeed),("NoLine",C_NoLine),("NoName",C_NoName),("NoPaper",C_NoPaper),("NoRule",C_NoRule),("NoText",C_NoText),("NotPlain",C_NotPlain),("OutOfRange",C_OutOfRange),("ShortShare",C_ShortShare)]) alls (W.mg_of X G ca_BookError) tab2,
   ⟨_,W.mg_of X G ca_Folded,errs.cls "Folded" (zbc.mp rfl) _ (W.mg_of X G ca_Folded),ni_Folded⟩,
   ⟨_,W.mg_of X G ca_NoBook,errs.cls "NoBook" (zbc.mp rfl) _ (W.mg_of X G ca_NoBook),ni_NoBook⟩,
   ⟨_,W.mg_of X G ca_OutOfRange,errs.cls "OutOfRange" (zbc.mp rfl) _ (W.mg_of X G ca_OutOfRange),ni_OutOfRange⟩,
   jar X G (fun _ _ _ _ _ _=>jg0 (fun _ _=>rfl)) a0 l0 c0 k0,
   jar X G (fun _ _ _ _ _ _=>jg0 (fun _ _=>rfl)) a1 l1 c1 k1,
   jar X G (fun _ _ _ _ _ _=>jg0 (fun _ _=>rfl)) a2 l2 c2 k2,
   jar X G (fun _ _ _ _ _ _=>jg0 (fun _ _=>rfl)) a3 l3 c3 k3,
   jar X G (fun _ _ _ _ _ _=>jqa (fun _ _ _=>rfl)) a4 l4 c4 k4,
   jar X G (fun _ _ _ _ _ _=>jqa (fun _ _ _=>rfl)) a5 l5 c5 k5,
   jar X G (fun _ _ _ _ _ _=>jxz (fun _ _ _ _=>rfl)) a6 l6 c6 k6,
   jar X G (fun _ _ _ _ _ _=>jqa (fun _ _ _=>rfl)) a7 l7 c7 k7,
   jar X G (fun _ _ _ _ _ _=>jg0 (fun _ _=>rfl)) a8 l8 c8 k8,
   jar X G (fun _ _ _ _ _ _=>jg0 (fun _ _=>rfl)) a9 l9 c9 k9,
   jar X G (fun _ _ _ _ _ _=>jg0 (fun _ _=>rfl)) a10 l10 c10 k10,
   jar X G (fun _ _ _ _ _ _=>jhb (fun _=>rfl)) a11 l11 c11 k11,
   jar X G (fun _ _ _ _ _ _=>jg0 (fun _ _=>rfl)) a12 l12 c12 k12,
   jar X G (fun _ _ _ _ _ _=>jg0 (fun _ _=>rfl)) a13 l13 c13 k13,
   jar X G (fun _ _ _ _ _ _=>jqa (fun _ _ _=>rfl)) a14 l14 c14 k14,
   jn9 X G (fun _ _ _ _ _ _=>jg0 (fun _ _=>rfl)) (W.mg_of X G ca_Broken) (errs.cls "Broken" (zbc.mp rfl) _ (W.mg_of X G ca_Broken)) a15 b15 l15 c15 k15,
   jar X G (fun _ _ _ _ _ _=>jg0 (fun _ _=>rfl)) a16 l16 c16 k16,
   jar X G (fun _ _ _ _ _ _=>jhb (fun _=>rfl)) a17 l17 c17 k17,
   jar X G (fun _ _ _ _ _ _=>jhb (fun _=>rfl)) a18 l18 c18 k18,
   jar X G (fun _ _ _ _ _ _=>jhb (fun _=>rfl)) a19 l19 c19 k19,
   jar X G (fun _ _ _ _ _ _=>jg0 (fun _ _=>rfl)) a20 l20 c20 k20,
   jar X G (fun _ _ _ _ _ _=>jhb (fun _=>rfl)) a21 l21 c21 k21,
   jar X G (fun _ _ _ _ _ _=>jhb (fun _=>rfl)) a22 l22 c22 k22,
   jar X G (fun _ _ _ _ _ _=>jhb (fun _=>rfl)) a23 l23 c23 k23,
   jar X G (fun _ _ _ _ _ _=>jhb (fun _=>rfl)) a24 l24 c24 k24,
   jar X G (fun _ _ _ _ _ _=>jhb (fun _=>rfl)) a25 l25 c25 k25,
   jar X G (fun _ _ _ _ _ _=>jhb (fun _=>rfl)) a26 l26 c26 k26,
   jar X G (fun _ _ _ _ _ _=>jhb (fun _=>rfl)) a27 l27 c27 k27,
   jar X G (fun _ _ _ _ _ _ us hl=>match us,hl with|[_],_=>rfl) a28 l28 c28 k28,
   ⟨_,W.mg_of X G y0⟩,
   ⟨_,W.mg_of X G y1⟩,
   ⟨_,W.mg_of X G y2⟩,
   ⟨_,W.mg_of X G y3⟩,
   W.mg_none_of X G z0,
   W.mg_none_of X G z1,
   W.mg_none_of X G z2,
   W.mg_none_of X G z3,
   W.mg_none_of X G z4,
   W.mg_none_of X G z5,
   W.mg_none_of X G z6,
   W.mg_none_of X G z7,
   W.mg_none_of X G z8,
   W.mg_none_of X G z9,
   W.mg_none_of X G z10,
   W.mg_none_of X G z11,
   W.mg_none_of X G z12⟩
theorem walk{l:W.OpenLaw}{q:Program}{loose:List Str}{XP:(Str->Option Value)->Heap->Prop}{YP:World->Heap->Prop}{d:DefRec}{K:Params->W.Frag}(hn:l.most=some 63)(hdf:d.params.defaults=[])
  (hY:∀ (w:World) (h:Heap),YP w h->(K w.params).In h)
  (F:∀ (w:World) (mg:Str->Option Value) (fa:Addr) (h:Heap),(K w.params).In h->h.Ns mainGlobals mg->mg d.name=some (.ref fa)->Txt (K w.params) mg/\mg "law"=some (.ref fa))
  (hm:∀ ns:List Int,ns.length<=63->∃ Ω,jon [.lst (ns.map .int)] []=some (.ok (.bl true),Ω)) :
  W.WalkO q loose XP YP l.row.toRowW d [] (fun f vs=>PySem.call f vs) :=
 L2.walk_of (n:=63) (k:=9) (x:="_law_script") (CX:=fun _=>CX0) (sp:=fun w=>spA (K w.params) 1 jon) hn (by decide) hdf ⟨rfl,by decide,by decide⟩ hY
  (fun w mg fa h KX G hmg=>by
   obtain⟨T,hf⟩:=F w mg fa h KX G hmg;obtain⟨fd,FF,hb⟩:=jn6 T.f_law hf (fun _ _ _ _ _ _ _ _=>.of_eq rfl);exact⟨fd,hb,fun base _ _=>(fn_E FF sc_law (jqc T)).imp fun vs H Q E z=>z mg⟩)
  (fun _ _ a ns hl _ hS=>fun mg=>let ⟨Ω,e⟩:=hm ns hl;jto hS e) fun _ _ _ _ _ z=>z
theorem jrh{q:Program}{loose:List Str}{XP:(Str->Option Value)->Heap->Prop}{K:Params->W.Frag}{as:List Addr}{n t:Nat}{r:W.RowW}{d:DefRec}{kwd:List (Str×Expr)}{run:Value->List Value->Sem Value}
  (he:∀ P,as=(K P).map (·.1)) (h:W.WalkO q loose XP (fun w h=>(K w.params).In h) r d kwd run):W.WalkX q loose XP (W.X.obsZ as) (W.X.valZ K n t) r d kwd run:=by
 intro w s₀ s₁ mg mb G y a o pm cd doc dV kV ho hd hcd hD hmg hg args vals as' L;refine h w s₀ s₁ mg mb G ?_ a o pm cd doc dV kV ho hd hcd hD hmg hg args vals as';have e:(K w.params).In s₀.heap:=(W.X.z_facts he y).2.1;exact fun b o' q=>L.keeps b o' (e b o' q)
theorem walkZ{l:W.OpenLaw}{q:Program}{loose:List Str}{XP:(Str->Option Value)->Heap->Prop}{d:DefRec}{K:Params->W.Frag}{as:List Addr}{n t:Nat}(he:∀ P,as=(K P).map (·.1))(hn:l.most=some 63)(hdf:d.params.defaults=[])
  (F:∀ (w:World) (mg:Str->Option Value) (fa:Addr) (h:Heap),(K w.params).In h->h.Ns mainGlobals mg->mg d.name=some (.ref fa)->Txt (K w.params) mg/\mg "law"=some (.ref fa))
  (hm:∀ ns:List Int,ns.length<=63->∃ Ω,jon [.lst (ns.map .int)] []=some (.ok (.bl true),Ω)) :
  W.WalkX q loose XP (W.X.obsZ as) (W.X.valZ K n t) l.row.toRowW d [] (fun f vs=>PySem.call f vs) :=
 jrh he (walk (K:=K) hn hdf (fun _ _ y=>y) F hm)
noncomputable section
structure Rul where
 nm:Str
 cs:List Int
 rest:Int
structure Ded where
 nm:Str
 lo:Int
 hi:Int
 chs:List (Int×Int)
structure Bk where
 its:List (Str×Int)
 rls:List Rul
 dds:List Ded
noncomputable def itD(p:Str×Int):D:=.tup [.str p.1,.int p.2]
noncomputable def rulD(r:Rul):D:=.tup [.str r.nm,.tup (r.cs.map .int),.int r.rest]
noncomputable def chD(c:Int×Int):D:=.tup [.int c.1,.int c.2]
noncomputable def dedD(d:Ded):D:=.tup [.str d.nm,.int d.lo,.int d.hi,.tup (d.chs.map chD)]
noncomputable abbrev itsD(b:Bk):D:=.lst (b.its.map itD)
noncomputable abbrev rlsD(b:Bk):D:=.lst (b.rls.map rulD)
noncomputable abbrev ddsD(b:Bk):D:=.lst (b.dds.map dedD)
noncomputable abbrev bkD(b:Bk):D:=.tup [itsD b,rlsD b,ddsD b]
noncomputable abbrev scr(ns:List Int):D:=.lst (ns.map .int)
noncomputable def gI(m:M D):Int:=match m with
 | some (.ok (.int i))=>i
 | _=>0
theorem jte{m:M D}{i:Int}(h:m=some (.ok (.int i))):m=some (.ok (.int (gI m))):=by rw[h];rfl
theorem v_at(ns:List Int)(k:Int)(h0:0<=k)(h1:k<=1000):∃ i,jcd [scr ns,.int k]=some (.ok (.int i)):=by
 unfold jcd;rw[jfd];unfold jjb;obtain⟨k,rfl⟩:=Int.eq_ofNat_of_zero_le h0
 by_cases h:k<ns.length
 ·refine⟨ns[k],?_⟩;have h2:((k:Int)<(ns.length:Int)):=by omega
  simp[h2,DL.atI_get (xs:=ns.map D.int) (j:=k) (v:=.int ns[k]) (by simp[h]),M.p]
 ·refine⟨19*k+8,?_⟩;have h2:¬ ((k:Int)<(ns.length:Int)):=by omega
  have a1:jbk (.int 19) (.int (k:Int))=some (.int (19*k)):=jby (a:=5) (b:=10) (by unfold Bt;decide) (by unfold Bt;omega);simp[h2,a1,M.p]
noncomputable def atF(ns:List Int)(k:Int):Int:=gI (jcd [scr ns,.int k])
theorem w_at{ns:List Int}{k:Int}(h0:0<=k)(h1:k<=1000):jcd [scr ns,.int k]=some (.ok (.int (atF ns k))):=let ⟨_,h⟩:=v_at ns k h0 h1;jte h
theorem jju{k m:Nat}{n:Int}(h0:0<=n)(h1:n<(m:Int))(h2:m<=2 ^ k):Bt k n:=by
 obtain⟨j,rfl⟩:=Int.eq_ofNat_of_zero_le h0;exact zcx (Int.ofNat_lt.mp h1) h2
theorem jxh(n p:Int)(h0:0<=p)(hp:p<=1000):∃ r,jbs [.int n,.int p]=some (.ok (.int r))/\0<=r/\r<2147483587:=by
 unfold jbs;rw[jfd];unfold jhm;have h1:=Int.emod_nonneg n (show (2147483629:Int)≠0 by decide);have h2:=zcw n (show (0:Int)<2147483629 by decide);have bp:Bt 10 p:=jju (m:=1001) h0 (Int.lt_add_one_of_le hp) (by decide);have a1:jbk (.int 8) (.int p)=some (.int (8*p)):=jby (a:=4) (by unfold Bt;decide) bp;have b1:Bt 14 (8*p):=Bt.mul (a:=4) (by unfold Bt;decide) bp;have a2:jbk (.int (8*p)) (.int p)=some (.int (8*p*p)):=jby b1 bp;have b2:Bt 24 (8*p*p):=b1.mul bp;have b3:Bt 25 (8*p*p+48271):=b2.add (by unfold Bt;decide);have b4:Bt 33 (n % 2147483629+p+1):=((jju (k:=31) (m:=2147483629) h1 h2 (by decide)).add (bp.mono (by decide))).add (by unfold Bt;decide);have a3:jbk (.int (n % 2147483629+p+1)) (.int (8*p*p+48271))=some (.int ((n % 2147483629+p+1)*(8*p*p+48271))):=jby b4 b3;generalize hx:(n % 2147483629+p+1)*(8*p*p+48271) % 2147483647=x;have x1:0<=x:=by rw[<- hx];exact Int.emod_nonneg _ (by decide)
 have x2:x<2147483647:=by rw[<- hx];exact zcw _ (by decide)
 have bx:Bt 32 x:=jju (m:=2147483647) x1 x2 (by decide);have a4:jbk (.int x) (.int x)=some (.int (x*x)):=jby bx bx;refine⟨x*x % 2147483587,?_,Int.emod_nonneg _ (by decide),zcw _ (by decide)⟩;simp[ja8 (i:=n) (j:=2147483629) (by decide),a1,a2,a3,ja8 (i:=(n % 2147483629+p+1)*(8*p*p+48271)) (j:=2147483647) (by decide),hx,a4,ja8 (i:=x*x) (j:=2147483587) (by decide),List.replicate];rfl
noncomputable def mixF(n p:Int):Int:=gI (jbs [.int n,.int p])
theorem jp3{n p:Int}(h0:0<=p)(hp:p<=1000):jbs [.int n,.int p]=some (.ok (.int (mixF n p))):=let ⟨_,h,_⟩:=jxh n p h0 hp;jte h
theorem jy0{n p:Int}(h0:0<=p)(hp:p<=1000):0<=mixF n p/\mixF n p<2147483587:=by
 obtain⟨r,h,q⟩:=jxh n p h0 hp;unfold mixF;rw[h];exact q
noncomputable def drF(ns:List Int)(k:Int):Int:=mixF (atF ns (1+k % 62)) (100+k)
theorem jgz{ns:List Int}{k:Int}(h0:0<=k)(h1:k<=800):jbg [scr ns,.int k]=some (.ok (.int (drF ns k))):=by
 have r1:=Int.emod_nonneg k (show (62:Int)≠0 by decide);have r2:=zcw k (show (0:Int)<62 by decide);have e1:=ja8 (i:=k) (j:=62) (by decide);have e2:=w_at (ns:=ns) (k:=1+k % 62) (by omega) (by omega);have e3:=jp3 (n:=atF ns (1+k % 62)) (p:=100+k) (by omega) (by omega);unfold jbg;rw[jfd];unfold jgb;rw[jdp (d:=.int (drF ns k)) (by simp only[stp,e1,e2,e3];rfl)];rfl
theorem jp1(ns:List Int){k:Int}{most:Nat}(h0:0<=k)(h1:k<=800)(hm:7<=most)(hb:most<2 ^ 100):∃ v:Int,ja5 [scr ns,.int k,.int (most:Int)]=some (.ok (.int v))/\v.natAbs<most:=by
 have ed:=jgz (ns:=ns) h0 h1;generalize drF ns k=m at ed;have r1:=Int.emod_nonneg k (show (62:Int)≠0 by decide);have r2:=zcw k (show (0:Int)<62 by decide);have e1:=ja8 (i:=k) (j:=62) (by decide);have e2:=w_at (ns:=ns) (k:=1+k % 62) (by omega) (by omega);generalize atF ns (1+k % 62)=c at e2;have e8:=ja8 (i:=m) (j:=8) (by decide);have a2:jbk (.int 2) (.int (most:Int))=some (.int (2*(most:Int))):=jby (a:=2) (b:=100) (by unfold Bt;decide) (by unfold Bt;rw[Int.natAbs_natCast];exact hb);have em:=ja8 (i:=c) (j:=2*(most:Int)-1) (by omega);have c1:=Int.emod_nonneg c (show (2*(most:Int)-1)≠0 by omega);have c2:=zcw c (show (0:Int)<2*(most:Int)-1 by omega);have f8:=jbu (i:=m) (j:=8) (by decide) (by decide);have e13:=ja8 (i:=m / 8) (j:=13) (by decide);have d1:=Int.emod_nonneg (m / 8) (show (13:Int)≠0 by decide);have d2:=zcw (m / 8) (show (0:Int)<13 by decide);unfold ja5;rw[jmb];unfold jgc;rw[jca (δ':=[some (scr ns),some (.int k),some (.int (most:Int)),some (.int m)]) (by simp only[stp,Nat.reduceSub,ed];rfl)];have t0:t2 gEq (f2 gMod (fVar 3) (fC (.int 8))) (fC (.int 0)) [some (scr ns),some (.int k),some (.int (most:Int)),some (.int m)]=some (.ok (m % 8 == 0)):=by
  simp only[stp,Nat.reduceSub,e8];rfl
 cases hc:(m % 8 == 0) with
 | true =>
  refine⟨c % (2*(most:Int)-1)-most+1,?_,by omega⟩;rw[hc] at t0;rw[w_rt (d:=.int (c % (2*(most:Int)-1)-most+1)) (by
   rw[w_if t0,if_pos rfl];exact jdp (by simp only[stp,Nat.reduceSub,e1,e2,a2,em];rfl))]
  rfl
 | false =>
  refine⟨m / 8 % 13-6,?_,by omega⟩;rw[hc] at t0;rw[jsj t0,jdp (d:=.int (m / 8 % 13-6)) (by simp only[stp,Nat.reduceSub,f8,e13];rfl)];rfl
noncomputable def wdF(ns:List Int)(k:Int)(most:Nat):Int:=gI (ja5 [scr ns,.int k,.int (most:Int)])
theorem jp4{ns:List Int}{k:Int}{most:Nat}(h0:0<=k)(h1:k<=800)(hm:7<=most)(hb:most<2 ^ 100):ja5 [scr ns,.int k,.int (most:Int)]=some (.ok (.int (wdF ns k most))):=let ⟨_,h,_⟩:=jp1 ns h0 h1 hm hb;jte h
theorem jpg{ns:List Int}{k:Int}{most:Nat}(h0:0<=k)(h1:k<=800)(hm:7<=most)(hb:most<2 ^ 100):(wdF ns k most).natAbs<most:=by
 obtain⟨v,h,q⟩:=jp1 ns h0 h1 hm hb;unfold wdF;rw[h];exact q
noncomputable def getS:Option D->Str
 | some (.str s)=>s
 | _=>""
noncomputable def isSt:Option D->Bool
 | some (.str _)=>true
 | _=>false
theorem jod{d:Option D}(h:isSt d=true):d=some (.str (getS d)):=by
 unfold isSt at h
 split at h
 ·rfl
 ·cases h
noncomputable def yesM:M D->Bool
 | some (.ok (.bl true))=>true
 | _=>false
theorem jp7{m:M D}(h:yesM m=true):m=some (.ok (.bl true)):=by
 unfold yesM at h
 split at h
 ·rfl
 ·cases h
noncomputable def nmE(k a b:Nat):Option D:=(gIx (.str "abcdefg") (.int k)).bind fun c=>(jbk c (.int (1+(a:Int)))).bind fun x=>(gIx (.str "xyz") (.int b)).bind fun y=>gCat x y
noncomputable def nmO(k p:Nat):Option D:=(jbk (.str "m") (.int p)).bind fun x=>(gIx (.str "abcdefg") (.int k)).bind fun c=>(gCat x c).bind fun y=>(jbk (.str "m") (.int (9-(p:Int)))).bind fun z=>gCat y z
theorem joy:∀ a∈List.range 9,∀ b∈List.range 3,(∀ k∈List.range 7,isSt (nmE k a b)=true/\yesM (jeu [.str (getS (nmE k a b))])=true)/\((List.range 7).map fun k=>getS (nmE k a b)).Nodup:=by decide +kernel
theorem joz:∀ p∈List.range 10,(∀ k∈List.range 7,isSt (nmO k p)=true/\yesM (jeu [.str (getS (nmO k p))])=true)/\((List.range 7).map fun k=>getS (nmO k p)).Nodup:=by decide +kernel
end
noncomputable section
noncomputable def nmS(k:Nat)(m:Int):Str:=if m % 2=0 then getS (nmE k (m / 2 % 9).toNat (m / 18 % 3).toNat) else getS (nmO k (m / 2 % 10).toNat)
theorem je6{i:Int}{n:Nat}(h0:0<=i)(h1:i<n):i.toNat∈List.range n:=zcb.mpr (by omega)
theorem md{i:Int}{j:Nat}(h:0<j):0<=i % (j:Int)/\i % (j:Int)<j:=⟨Int.emod_nonneg _ (by omega),zcw _ (by omega)⟩
theorem jr6(m:Int):(∀ k,k<7->jeu [.str (nmS k m)]=some (.ok (.bl true)))/\((List.range 7).map fun k=>nmS k m).Nodup:=by
 by_cases h:m % 2=0
 ·have a:=md (i:=m / 2) (j:=9) (by decide);have b:=md (i:=m / 18) (j:=3) (by decide);obtain⟨h1,h2⟩:=joy _ (je6 a.1 a.2) _ (je6 b.1 b.2);have e:∀ k,nmS k m=getS (nmE k (m / 2 % 9).toNat (m / 18 % 3).toNat):=fun k=>if_pos h
  refine⟨fun k hk=>?_,?_⟩
  ·rw[e];exact jp7 (h1 k (zcb.mpr hk)).2
  ·simp only[e];exact h2
 ·have a:=md (i:=m / 2) (j:=10) (by decide);obtain⟨h1,h2⟩:=joz _ (je6 a.1 a.2);have e:∀ k,nmS k m=getS (nmO k (m / 2 % 10).toNat):=fun k=>if_neg h
  refine⟨fun k hk=>?_,?_⟩
  ·rw[e];exact jp7 (h1 k (zcb.mpr hk)).2
  ·simp only[e];exact h2
theorem jq2{n:Nat}(hn:n<=7)(m:Int):((List.range n).map fun k=>nmS k m).Nodup:=by
 have h:=(jr6 m).2;obtain⟨d,hd⟩:=Nat.exists_eq_add_of_le hn;rw[hd,List.range_add,List.map_append] at h;exact (List.nodup_append.mp h).1
theorem jje{k:Nat}(hk:k<7)(m:Int):jcj [.int (k:Nat),.int m]=some (.ok (.str (nmS k m))):=by
 have e2:=ja8 (i:=m) (j:=2) (by decide);have d2:=jbu (i:=m) (j:=2) (by decide) (by decide);unfold jcj;rw[jfd];unfold jfl;have t0:t2 gEq (f2 gMod (fVar 1) (fC (.int 2))) (fC (.int 0)) [some (.int (k:Nat)),some (.int m),none]=some (.ok (decide (m % 2=0))):=by
  simp only[stp,Nat.reduceSub,e2];rfl
 by_cases h:m % 2=0
 ·have d18:=jbu (i:=m) (j:=18) (by decide) (by decide);have e9:=ja8 (i:=m / 2) (j:=9) (by decide);have e3:=ja8 (i:=m / 18) (j:=3) (by decide);have a:=md (i:=m / 2) (j:=9) (by decide);have b:=md (i:=m / 18) (j:=3) (by decide);have ea:(((m / 2 % 9).toNat:Nat):Int)=m / 2 % 9:=Int.toNat_of_nonneg a.1;have eb:(((m / 18 % 3).toNat:Nat):Int)=m / 18 % 3:=Int.toNat_of_nonneg b.1;have en:nmS k m=getS (nmE k (m / 2 % 9).toNat (m / 18 % 3).toNat):=if_pos h;have hs:nmE k (m / 2 % 9).toNat (m / 18 % 3).toNat=some (.str (nmS k m)):=by
   rw[en];exact jod ((joy _ (je6 a.1 a.2) _ (je6 b.1 b.2)).1 k (zcb.mpr hk)).1
  unfold nmE at hs;rw[ea,eb] at hs;obtain⟨x1,f1,hs⟩:=Option.bind_eq_some_iff.mp hs;obtain⟨x2,f2',hs⟩:=Option.bind_eq_some_iff.mp hs;obtain⟨x3,f3,hs⟩:=Option.bind_eq_some_iff.mp hs;rw[decide_eq_true h] at t0;rw[w_rt (d:=.str (nmS k m)) (by
   rw[show List.replicate (3-2) (none:Option D)=[none] from rfl];rw[w_if t0,if_pos rfl];exact jdp (by simp only[stp,Nat.reduceSub,d2,d18,e9,e3,f1,f2',f3,hs];rfl))]
  rfl
 ·have e10:=ja8 (i:=m / 2) (j:=10) (by decide);have a:=md (i:=m / 2) (j:=10) (by decide);have ea:(((m / 2 % 10).toNat:Nat):Int)=m / 2 % 10:=Int.toNat_of_nonneg a.1;have en:nmS k m=getS (nmO k (m / 2 % 10).toNat):=if_neg h;have hs:nmO k (m / 2 % 10).toNat=some (.str (nmS k m)):=by
   rw[en];exact jod ((joz _ (je6 a.1 a.2)).1 k (zcb.mpr hk)).1
  unfold nmO at hs;rw[ea] at hs;obtain⟨x1,f1,hs⟩:=Option.bind_eq_some_iff.mp hs;obtain⟨x2,f2',hs⟩:=Option.bind_eq_some_iff.mp hs;obtain⟨x3,f3,hs⟩:=Option.bind_eq_some_iff.mp hs;obtain⟨x4,f4,hs⟩:=Option.bind_eq_some_iff.mp hs;rw[decide_eq_false h] at t0;rw[show List.replicate (3-2) (none:Option D)=[none] from rfl];rw[jsj t0,jca (δ':=[some (.int (k:Nat)),some (.int m),some (.int (m / 2 % 10))]) (by simp only[stp,Nat.reduceSub,d2,e10];rfl)];rw[jdp (d:=.str (nmS k m)) (by simp only[stp,Nat.reduceSub,f1,f2',f3,f4,hs];rfl)];rfl
theorem jpi(n:Nat):jbe 0 n=(List.range n).map fun o:Nat=>D.int (o:Int):=by
 have:=jm7 n (fun d=>d);rw[List.map_id'] at this;exact this
noncomputable def itsF(ns:List Int)(n most:Nat):List (Str×Int):=(List.range n).map fun k=>(nmS k (drF ns 1),wdF ns (10+(k:Int)) most)
theorem jqp(ns:List Int){n most:Nat}(hn:n<=4)(hm:7<=most)(hb:most<2 ^ 100):jd5 [scr ns,.int (n:Nat),.int (most:Nat)]=some (.ok (.lst ((itsF ns n most).map itD))):=by
 have ed:=jgz (ns:=ns) (k:=1) (by decide) (by decide);have cf:=jdq (c:=[some (scr ns),some (.int (most:Nat)),some (.int (drF ns 1))]) (fe:=jei) (K:=fun o:Nat=>D.int (o:Int)) (F:=fun k=>itD (nmS k (drF ns 1),wdF ns (10+(k:Int)) most)) (List.range n) none (fun k hk=>by
  have hk:=zcb.mp hk;have e1:=jje (k:=k) (by omega) (drF ns 1);have e2:=jp4 (ns:=ns) (k:=10+(k:Int)) (most:=most) (by omega) (by omega) hm hb;unfold jei;simp only[stp,Nat.reduceSub,e1,e2];rfl)
 rw[<- jpi] at cf;unfold jd5;rw[jmb];unfold jfk;have ln:((List.range n).map fun k=>itD (nmS k (drF ns 1),wdF ns (10+(k:Int)) most)).length<=1000:=by rw[zav,List.length_range];omega
 rw[jca (δ':=[some (scr ns),some (.int (n:Nat)),some (.int (most:Nat)),some (.int (drF ns 1))]) (by simp only[stp,Nat.reduceSub,ed];rfl)];have em:(itsF ns n most).map itD=(List.range n).map fun k=>itD (nmS k (drF ns 1),wdF ns (10+(k:Int)) most):=by unfold itsF;rw[List.map_map];rfl
 rw[em,jdp (d:=.lst ((List.range n).map fun k=>itD (nmS k (drF ns 1),wdF ns (10+(k:Int)) most))) (by simp only[stp,Nat.reduceSub,Int.toNat_natCast,cf,jdt ln];rfl)];rfl
end
noncomputable section
noncomputable def dtF(cs st:List Int):Int:=((cs.zip st).map fun p=>p.1*p.2).sum
noncomputable def spF(r:Rul)(st:List Int):Int:=dtF r.cs st+r.rest
theorem jsg{α:Type}{f:α->Int}{k:Nat}:∀ (zs:List α),(∀ z∈zs,Bt k (f z))->zs.length<=8->Bt (k+4) (zs.map f).sum:=by
 have g:∀ (zs:List α),(∀ z∈zs,Bt k (f z))->(zs.map f).sum.natAbs<=zs.length*2 ^ k:=by
  intro zs
  induction zs with
  | nil=>intro _;exact Nat.zero_le _
  | cons z zs ih =>
   intro h;have a:(f z).natAbs<2 ^ k:=h z zaa;have i:=ih fun y hy=>h y (zaw _ hy)
   rw[List.map_cons,List.sum_cons,List.length_cons,Nat.succ_mul];have:=Int.natAbs_add_le (f z) (zs.map f).sum;omega
 intro zs h hl;have a:=g zs h;have b:=Nat.mul_le_mul_right (2 ^ k) hl;have c:2 ^ (k+4)=16*2 ^ k:=by rw[Nat.pow_add,Nat.mul_comm]
 have d:0<2 ^ k:=Nat.two_pow_pos k;unfold Bt;omega
theorem jx2{cs st:List Int}(hc:∀ c∈cs,Bt 100 c)(hs:∀ s∈st,Bt 100 s)(hl:cs.length<=4):Bt 204 (dtF cs st) :=
 jsg (k:=200) (f:=fun p:Int×Int=>p.1*p.2) _ (fun z hz=>(hc _ (List.of_mem_zip hz).1).mul (hs _ (List.of_mem_zip hz).2)) (by rw[List.length_zip];omega)
theorem rl0(r:Rul):gIx (rulD r) (.int 0)=some (.str r.nm):=by unfold rulD;rw[ix_t,at0]
theorem rl1(r:Rul):gIx (rulD r) (.int 1)=some (.tup (r.cs.map .int)):=by unfold rulD;rw[ix_t,at1]
theorem rl2(r:Rul):gIx (rulD r) (.int 2)=some (.int r.rest):=by unfold rulD;rw[ix_t,at2]
section
variable {r:Rul}{st:List Int}
theorem jta{fe:DSt->M D}(hf:∀ a b,fe [some a,some b]=M.o (jbk a b))(hc:∀ c∈r.cs,Bt 100 c)(hs:∀ s∈st,Bt 100 s):jdk (jdg 0 1) tYes fe ((r.cs.zip st).map fun p=>.tup [.int p.1,.int p.2]) [none,none]=some ((r.cs.zip st).map fun p=>.int (p.1*p.2)) :=
 jnz (c:=[]) (K:=fun p:Int×Int=>(D.int p.1,D.int p.2)) (r.cs.zip st) none none fun p hp=>by
  have:=jby (hc _ (List.of_mem_zip hp).1) (hs _ (List.of_mem_zip hp).2);rw[hf,this];rfl
theorem jiu(hc:∀ c∈r.cs,Bt 100 c)(hs:∀ s∈st,Bt 100 s)(hl:r.cs.length<=4):ja7 [rulD r,.tup (st.map .int)]=some (.ok (.int (spF r st))):=by
 have ec:=jta (fe:=jel) (fun a b=>rfl) hc hs;have ln:((r.cs.zip st).map fun p=>D.int (p.1*p.2)).length<=1000:=by rw[zav,List.length_zip];omega
 unfold ja7;rw[jfd];unfold jd0;rw[jdp (d:=.int (spF r st)) (by simp only[stp,Nat.reduceSub,rl1,rl2,jf7,ec,jdt ln,jlu];rfl)];rfl
theorem jmy(hc:∀ c∈r.cs,Bt 100 c)(hs:∀ s∈st,Bt 100 s)(hl:r.cs.length<=4):ja7 [rulD r,.lst (st.map .int)]=some (.ok (.int (spF r st))):=by
 have ec:=jta (fe:=jel) (fun a b=>rfl) hc hs;have ln:((r.cs.zip st).map fun p=>D.int (p.1*p.2)).length<=1000:=by rw[zav,List.length_zip];omega
 unfold ja7;rw[jfd];unfold jd0;rw[jdp (d:=.int (spF r st)) (by simp only[stp,Nat.reduceSub,rl1,rl2,jf7,ec,jdt ln,jlu];rfl)];rfl
theorem jrf(hc:∀ c∈r.cs,Bt 100 c)(hs:∀ s∈st,Bt 100 s)(hl:r.cs.length<=4):je8 [.tup [.tup (r.cs.map .int),.int r.rest],.tup (st.map .int)]=some (.ok (.int (spF r st))):=by
 have ec:=jta (fe:=jhf) (fun a b=>rfl) hc hs;have ln:((r.cs.zip st).map fun p=>D.int (p.1*p.2)).length<=1000:=by rw[zav,List.length_zip];omega
 unfold je8;rw[jfd];unfold jge;rw[jdp (d:=.int (spF r st)) (by simp only[stp,Nat.reduceSub,ix_t,at0,at1,jf7,ec,jdt ln,jlu];rfl)];rfl
theorem jml{b:Bk}{k:Nat}(hk:b.rls[k]? = some r)(hc:∀ c∈r.cs,Bt 100 c)(hs:∀ s∈st,Bt 100 s)(hl:r.cs.length<=4):jgh [bkD b,.int (k:Nat),.tup (st.map .int)]=some (.ok (.int (spF r st))):=by
 have ev:=jrf hc hs hl;have ea:atI (b.rls.map rulD) (k:Int)=some (rulD r):=atI_get (by rw[zba,hk];rfl);unfold jgh;rw[jmb];unfold jla;rw[jdp (d:=.int (spF r st)) (by simp only[stp,Nat.reduceSub,ix_t,at1,ea,rl1,rl2,ev])];rfl
end
structure RulOk(its:List (Str×Int))(m:Int)(k i:Nat)(r:Rul):Prop where
 nm:r.nm=nmS i m
 len:r.cs.length=its.length
 bt:∀ c∈r.cs,Bt 100 c
 rb:Bt k r.rest
theorem jj9(s0 s1 s2 s3 s4 s5 s6:Option D):∀ (zs:List (Int×Str×Int)) (r:Int) (x y:Option D),(∀ z∈zs,Bt 100 z.1/\Bt 100 z.2.2) ->
  ∃ x' y',forD jed (jdg 8 9) (zs.map fun z=>.tup [.int z.1,itD z.2]) [s0,s1,s2,s3,s4,s5,s6,some (.int r),x,y]=some (.ok (.nx [s0,s1,s2,s3,s4,s5,s6,some (.int (r-(zs.map fun z=>z.1*z.2.2).sum)),x',y']))
 | [],r,x,y,_=>⟨x,y,by rw[List.map_nil,List.map_nil,List.sum_nil,Int.sub_zero];rfl⟩
 | z::zs,r,x,y,h=>by
  obtain⟨h1,h2⟩:=h z zaa;obtain⟨x',y',ih⟩:=jj9 s0 s1 s2 s3 s4 s5 s6 zs (r-z.1*z.2.2) (some (.int z.1)) (some (itD z.2)) fun q hq=>h q (zaw _ hq)
  have m1:=jby h1 h2;refine⟨x',y',?_⟩;rw[List.map_cons,jg7 (δ1:=[s0,s1,s2,s3,s4,s5,s6,some (.int r),some (.int z.1),some (itD z.2)]) (δ2:=[s0,s1,s2,s3,s4,s5,s6,some (.int (r-z.1*z.2.2)),some (.int z.1),some (itD z.2)]) rfl (by
   unfold jed itD;simp only[stp,Nat.reduceSub,ix_t,at1,m1];rfl),ih,List.map_cons,List.sum_cons]
  rw[show r-z.1*z.2.2-(zs.map fun z=>z.1*z.2.2).sum=r-(z.1*z.2.2+(zs.map fun z=>z.1*z.2.2).sum) by omega]
noncomputable abbrev r10(ns:List Int)(its:List (Str×Int))(n most:Nat)(rls:List Rul)(k a b c d:Option D):DSt:=[some (scr ns),some (.lst (its.map itD)),some (.int (n:Nat)),some (.int (most:Nat)),some (.lst (rls.map rulD)),k,a,b,c,d]
theorem range_len(n:Nat):(jbe 0 n).length=n:=by unfold jbe;rw[zav,List.length_range]
theorem jh0{n j:Nat}(h:j<(jbe 0 n).length):(jbe 0 n)[j]=.int (j:Nat):=by
 simp[jbe]
theorem jq9(ns:List Int){its:List (Str×Int)}{n most:Nat}(hi:its.length<=4)(hb:∀ p∈its,Bt 100 p.2)(hn:n<=5)(hm:7<=most)(hx:most<2 ^ 100):∃ rls:List Rul,jd6 [scr ns,.lst (its.map itD),.int (n:Nat),.int (most:Nat)]=some (.ok (.lst (rls.map rulD)))/\rls.length=n/\∀ i r,rls[i]? = some r->RulOk its (drF ns 2) 206 i r:=by
 have d2:=jgz (ns:=ns) (k:=2) (by decide) (by decide);obtain⟨δ',e,rls,k',a,b,c,d,rfl,hl,hr⟩:=jja (g:=jee) (tg:=DL.gName 5) (jbe 0 n) (fun j δ=>∃ (rls:List Rul) (k a b c d:Option D),δ=r10 ns its n most rls k a b c d/\rls.length=j/\∀ i r,rls[i]? = some r->RulOk its (drF ns 2) 206 i r)
  (fun j hj δ ⟨rls,k,a,b,c,d,hδ,hl,hr⟩=>by
   subst hδ;rw[range_len] at hj;refine⟨r10 ns its n most rls (some (.int (j:Nat))) a b c d,by rw[jh0];rfl,?_⟩
   let cs:List Int:=(List.range its.length).map fun i:Nat=>wdF ns (20+5*(j:Int)+(i:Int)) most
   have hcs:∀ x∈cs,Bt 100 x:=fun x hx'=>by
    obtain⟨i,hi',rfl⟩:=List.mem_map.mp hx';have:=zcb.mp hi';exact Nat.lt_trans (jpg (by omega) (by omega) hm hx) hx
   have a5:jbk (.int 5) (.int (j:Nat))=some (.int (5*(j:Nat))):=jby (a:=10) (b:=10) (by unfold Bt;decide) (by unfold Bt;omega);have cf:=jdq (c:=[some (scr ns),some (.int (most:Nat)),some (.int (j:Nat))]) (fe:=jek) (K:=fun o:Nat=>D.int (o:Int)) (F:=fun i=>.int (wdF ns (20+5*(j:Int)+(i:Int)) most)) (List.range its.length) none (fun i hi'=>by
    have:=zcb.mp hi';have e2:=jp4 (ns:=ns) (k:=20+5*(j:Int)+(i:Int)) (most:=most) (by omega) (by omega) hm hx;unfold jek;simp only[stp,Nat.reduceSub,a5,e2])
   rw[<- jpi,show ((List.range its.length).map fun i:Nat=>D.int (wdF ns (20+5*(j:Int)+(i:Int)) most))=cs.map .int from (List.map_map ..).symm] at cf;have lc:cs.length=its.length:=by show ((List.range its.length).map _).length=_;rw[zav,List.length_range]
   have ln:(cs.map D.int).length<=1000:=by rw[zav];omega
   have d50:=jgz (ns:=ns) (k:=50+(j:Int)) (by omega) (by omega);have d60:=jgz (ns:=ns) (k:=60+(j:Int)) (by omega) (by omega);have m30:=ja8 (i:=drF ns (50+(j:Int))) (j:=30) (by decide);have m3:=ja8 (i:=drF ns (60+(j:Int))) (j:=3) (by decide);have x1:=md (i:=drF ns (50+(j:Int))) (j:=30) (by decide);have x2:=md (i:=drF ns (60+(j:Int))) (j:=3) (by decide);have b1:Bt 5 (drF ns (50+(j:Int)) % 30):=jju (m:=30) x1.1 x1.2 (by decide);have b2:Bt 2 (drF ns (60+(j:Int)) % 3):=jju (m:=3) x2.1 x2.2 (by decide);have mm:=jby b1 b2;have b3:=b1.mul b2;generalize drF ns (50+(j:Int)) % 30*(drF ns (60+(j:Int)) % 3)=q at mm b3;have hz:∀ z∈cs.zip its,Bt 100 z.1/\Bt 100 z.2.2:=fun z hz=>⟨hcs _ (List.of_mem_zip hz).1,hb _ (List.of_mem_zip hz).2⟩
   obtain⟨x',y',lp⟩:=jj9 (some (scr ns)) (some (.lst (its.map itD))) (some (.int (n:Nat))) (some (.int (most:Nat))) (some (.lst (rls.map rulD))) (some (.int (j:Nat))) (some (.tup (cs.map .int))) (cs.zip its) q c d hz;have bs:Bt 204 ((cs.zip its).map fun z=>z.1*z.2.2).sum:=jsg (k:=200) _ (fun z h=>(hz z h).1.mul (hz z h).2) (by rw[List.length_zip];omega);have br:Bt 206 (q-((cs.zip its).map fun z=>z.1*z.2.2).sum):=by
    have:=Bt.add (a:=204) (b3.mono (by decide)) bs.neg;rw[Int.sub_eq_add_neg];exact this.mono (by decide)
   have nk:=jje (k:=j) (by omega) (drF ns 2)
   let r:Rul:=⟨nmS j (drF ns 2),cs,q-((cs.zip its).map fun z=>z.1*z.2.2).sum⟩
   have la:(rls.map rulD).length<=100000:=by rw[zav];omega
   refine⟨r10 ns its n most (rls++[r]) (some (.int (j:Nat))) (some (.tup (cs.map .int))) (some (.int (q-((cs.zip its).map fun z=>z.1*z.2.2).sum))) x' y',.inl ?_,rls++[r],_,_,_,_,_,rfl,by rw[zca,hl];rfl,fun i r' hr'=>?_⟩
   ·unfold jee;rw[jca (δ':=r10 ns its n most rls (some (.int (j:Nat))) (some (.tup (cs.map .int))) b c d) (by simp only[stp,Nat.reduceSub,zav,Int.toNat_natCast,cf,jdt ln];rfl),
     jca (δ':=r10 ns its n most rls (some (.int (j:Nat))) (some (.tup (cs.map .int))) (some (.int q)) c d) (by simp only[stp,Nat.reduceSub,d50,d60,m30,m3,mm];rfl),
     jca (show gFor _ _ _ _=some (.ok (.nx _)) from by rw[jlv (ds:=(cs.zip its).map fun z=>.tup [.int z.1,itD z.2]) (by simp only[stp,Nat.reduceSub,jf7];rfl)];exact lp),
     jrg (d:=rulD r) (ds:=rls.map rulD) 4 (by simp only[stp,Nat.reduceSub,d2,nk];rfl) rfl la]
    unfold r10;rw[List.map_append];rfl
   ·by_cases hlt:i<rls.length
    ·rw[List.getElem?_append_left hlt] at hr';exact hr i r' hr'
    ·rw[List.getElem?_append_right (Nat.le_of_not_lt hlt)] at hr';obtain⟨h0,e0⟩:=zbb.mp hr';have:i-rls.length=0:=by have:i-rls.length<1:=h0;omega
     have hij:i=j:=by omega
     subst hij;simp only[this] at e0;subst e0;exact⟨rfl,lc,hcs,br⟩) (r10 ns its n most [] none none none none none) ⟨[],none,none,none,none,none,rfl,rfl,fun i r h=>by cases h⟩
 rw[range_len] at hl;refine⟨rls,?_,hl,hr⟩;unfold jd6;rw[jvp];unfold jfm;rw[jca (δ':=r10 ns its n most [] none none none none none) (jeb 4 rfl),
  jca (δ':=r10 ns its n most rls k' a b c d) (by rw[jlv (ds:=jbe 0 n) (by simp only[stp,Nat.reduceSub,Int.toNat_natCast];rfl)];exact e),jdp (d:=.lst (rls.map rulD)) rfl]
 rfl
end
noncomputable section
structure DedOk(its:List (Str×Int))(m:Int)(i:Nat)(d:Ded):Prop where
 nm:d.nm=nmS i m
 len:d.chs.length=its.length
 lh:d.lo<=d.hi
theorem p1023:gPow (.int 10) (.int 23)=some (.int 100000000000000000000000):=by rw[jpa (by decide)];rfl
theorem w23{ns:List Int}{k:Int}(h0:0<=k)(h1:k<=800):∃ v:Int,ja5 [scr ns,.int k,.int 100000000000000000000000]=some (.ok (.int v))/\Bt 100 v:=by
 obtain⟨v,e,h⟩:=jp1 ns (most:=100000000000000000000000) h0 h1 (by decide) (by decide);exact⟨v,e,Nat.lt_trans h (by decide)⟩
theorem intB(b:Bool):jmw [.bl b]=some (.int (if b=true then 1 else 0)):=rfl
theorem bt_b(b:Bool):Bt 1 (if b=true then 1 else 0:Int):=by cases b<;>(unfold Bt;decide)
noncomputable abbrev d11(ns:List Int)(its:List (Str×Int))(n:Nat)(dds:List Ded)(k a b c d e f:Option D)(g:Option D):DSt:=[some (scr ns),some (.lst (its.map itD)),some (.int (n:Nat)),some (.lst (dds.map dedD)),k,a,b,c,d,e,f]
theorem ne_i(a b:Int):gNe (.int a) (.int b)=some (.bl (!(a == b))):=by
 unfold gNe;rfl
theorem eq_i(a b:Int):gEq (.int a) (.int b)=some (.bl (a == b)):=by
 unfold gEq;rfl
theorem jqe(ns:List Int){its:List (Str×Int)}{n:Nat}(hi:its.length<=4)(dds:List Ded){k:Nat}(hk:k<=6)(a c d e f g:Option D):∃ (chs:List (Int×Int)) (c' d' e':Option D),forD jdh (DL.gName 7) (jbe 0 its.length) (d11 ns its n dds (some (.int (k:Nat))) a (some (.lst [])) c d e f g)=some (.ok (.nx (d11 ns its n dds (some (.int (k:Nat))) a (some (.lst (chs.map chD))) c' d' e' f g)))/\chs.length=its.length:=by
 have a5:jbk (.int 5) (.int (k:Nat))=some (.int (5*(k:Nat))):=jby (a:=10) (b:=10) (by unfold Bt;decide) (by unfold Bt;omega);obtain⟨δ',e0,chs,c',d',e',rfl,hl⟩:=jja (g:=jdh) (tg:=DL.gName 7) (jbe 0 its.length) (fun j δ=>∃ (chs:List (Int×Int)) (c' d' e':Option D),δ=d11 ns its n dds (some (.int (k:Nat))) a (some (.lst (chs.map chD))) c' d' e' f g/\chs.length=j)
  (fun j hj δ ⟨chs,c,d,e,hδ,hl⟩=>by
   subst hδ;rw[range_len] at hj;have dr:=jgz (ns:=ns) (k:=80+5*(k:Nat)+(j:Nat)) (by omega) (by omega);generalize drF ns (80+5*(k:Nat)+(j:Nat))=m at dr;have m3:=ja8 (i:=m) (j:=3) (by decide);generalize m % 3=s at m3;obtain⟨v1,w1,b1⟩:=w23 (ns:=ns) (k:=120+5*(k:Nat)+(j:Nat)) (by omega) (by omega);obtain⟨v2,w2,b2⟩:=w23 (ns:=ns) (k:=160+5*(k:Nat)+(j:Nat)) (by omega) (by omega);have x1:=jby b1 (bt_b (!(s == 1)));have x2:=jby b2 (bt_b (s == 2));have la:(chs.map chD).length<=100000:=by rw[zav];omega
   refine⟨d11 ns its n dds (some (.int (k:Nat))) a (some (.lst (chs.map chD))) (some (.int (j:Nat))) d e f g,by rw[jh0];rfl,d11 ns its n dds (some (.int (k:Nat))) a (some (.lst ((chs++[(v1*(if (!(s == 1))=true then 1 else 0),v2*(if (s == 2)=true then 1 else 0))]).map chD))) (some (.int (j:Nat))) (some (.int s)) (some (.int (v1*(if (!(s == 1))=true then 1 else 0)))) f g,.inl ?_,_,_,_,_,rfl,by rw[zca,hl];rfl⟩;unfold jdh;rw[jca (δ':=d11 ns its n dds (some (.int (k:Nat))) a (some (.lst (chs.map chD))) (some (.int (j:Nat))) (some (.int s)) e f g) (by simp only[stp,a5,dr,m3];rfl),
    jca (δ':=d11 ns its n dds (some (.int (k:Nat))) a (some (.lst (chs.map chD))) (some (.int (j:Nat))) (some (.int s)) (some (.int (v1*(if (!(s == 1))=true then 1 else 0)))) f g) (by simp only[stp,a5,p1023,w1,ne_i,intB,x1];rfl),
    jrg (d:=chD (v1*(if (!(s == 1))=true then 1 else 0),v2*(if (s == 2)=true then 1 else 0))) (ds:=chs.map chD) 6 (by simp only[stp,a5,p1023,w2,eq_i,intB,x2];rfl) rfl la]
   unfold d11;rw[List.map_append];rfl) (d11 ns its n dds (some (.int (k:Nat))) a (some (.lst [])) c d e f g) ⟨[],c,d,e,rfl,rfl⟩
 rw[range_len] at hl;exact⟨chs,c',d',e',e0,hl⟩
theorem jqf(ns:List Int){its:List (Str×Int)}{n:Nat}(hi:its.length<=4)(hn:n<=6):∃ dds:List Ded,jd4 [scr ns,.lst (its.map itD),.int (n:Nat)]=some (.ok (.lst (dds.map dedD)))/\dds.length=n/\∀ i d,dds[i]? = some d->DedOk its (drF ns 3) i d:=by
 have d3:=jgz (ns:=ns) (k:=3) (by decide) (by decide);obtain⟨δ',e0,dds,k',a,b,c,d,e,f,rfl,hl,hd⟩:=jja (g:=jec) (tg:=DL.gName 4) (jbe 0 n) (fun j δ=>∃ (dds:List Ded) (k a b c d e f:Option D),δ=d11 ns its n dds k a b c d e f none/\dds.length=j/\∀ i d,dds[i]? = some d->DedOk its (drF ns 3) i d)
  (fun j hj δ ⟨dds,k,a,b,c,d,e,f,hδ,hl,hd⟩=>by
   subst hδ;rw[range_len] at hj;refine⟨d11 ns its n dds (some (.int (j:Nat))) a b c d e f none,by rw[jh0];rfl,?_⟩;obtain⟨lo,w1,b1⟩:=w23 (ns:=ns) (k:=70+(j:Nat)) (by omega) (by omega);obtain⟨chs,c',d',e',lp,lc⟩:=jqe ns (n:=n) hi dds (k:=j) (by omega) (some (.int lo)) c d e f none;have dr:=jgz (ns:=ns) (k:=200+(j:Nat)) (by omega) (by omega);generalize drF ns (200+(j:Nat))=m at dr;have m9:=ja8 (i:=m) (j:=9) (by decide);have x9:=md (i:=m) (j:=9) (by decide);have nk:=jje (k:=j) (by omega) (drF ns 3)
   let dd:Ded:=⟨nmS j (drF ns 3),lo,lo+m % 9,chs⟩
   have la:(dds.map dedD).length<=100000:=by rw[zav];omega
   refine⟨d11 ns its n (dds++[dd]) (some (.int (j:Nat))) (some (.int lo)) (some (.lst (chs.map chD))) c' d' e' (some (.int (lo+m % 9))) none,.inl ?_,dds++[dd],_,_,_,_,_,_,_,rfl,by rw[zca,hl];rfl,fun i r' hr'=>?_⟩
   ·unfold jec;rw[jca (δ':=d11 ns its n dds (some (.int (j:Nat))) (some (.int lo)) b c d e f none) (by simp only[stp,p1023,w1];rfl),
     jca (δ':=d11 ns its n dds (some (.int (j:Nat))) (some (.int lo)) (some (.lst [])) c d e f none) (jeb 6 rfl),
     jca (show gFor _ _ _ _=some (.ok (.nx _)) from by rw[jlv (ds:=jbe 0 its.length) (by simp only[stp,zav,Int.toNat_natCast];rfl)];exact lp),
     jca (δ':=d11 ns its n dds (some (.int (j:Nat))) (some (.int lo)) (some (.lst (chs.map chD))) c' d' e' (some (.int (lo+m % 9))) none) (by simp only[stp,dr,m9];rfl),
     jrg (d:=dedD dd) (ds:=dds.map dedD) 3 (by simp only[stp,d3,nk];rfl) rfl la]
    unfold d11;rw[List.map_append];rfl
   ·by_cases hlt:i<dds.length
    ·rw[List.getElem?_append_left hlt] at hr';exact hd i r' hr'
    ·rw[List.getElem?_append_right (Nat.le_of_not_lt hlt)] at hr';obtain⟨h0,e0⟩:=zbb.mp hr';have:i-dds.length=0:=by have:i-dds.length<1:=h0;omega
     have hij:i=j:=by omega
     subst hij;simp only[this] at e0;subst e0;exact⟨rfl,lc,Int.le_add_of_nonneg_right x9.1⟩) (d11 ns its n [] none none none none none none none none) ⟨[],none,none,none,none,none,none,none,rfl,rfl,fun i r h=>by cases h⟩
 rw[range_len] at hl;refine⟨dds,?_,hl,hd⟩;unfold jd4;rw[jmb];unfold jfj;rw[jca (δ':=d11 ns its n [] none none none none none none none none) (jeb 3 rfl),
  jca (δ':=d11 ns its n dds k' a b c d e f none) (by rw[jlv (ds:=jbe 0 n) (by simp only[stp,Nat.reduceSub,Int.toNat_natCast];rfl)];exact e0),jdp (d:=.lst (dds.map dedD)) rfl]
 rfl
structure BkOk(k:Nat)(b:Bk):Prop where
 i1:1<=b.its.length
 i4:b.its.length<=4
 r1:1<=b.rls.length
 r5:b.rls.length<=5
 d1:1<=b.dds.length
 d6:b.dds.length<=6
 st:∀ p∈b.its,Bt 100 p.2
 im:∃ m,∀ i p,b.its[i]? = some p->p.1=nmS i m
 rl:∃ m,∀ i r,b.rls[i]? = some r->RulOk b.its m k i r
 dd:∃ m,∀ i d,b.dds[i]? = some d->DedOk b.its m i d
theorem jn0(ns:List Int):∃ a b c:Nat,jdi [scr ns]=some (.ok (.lst [.int (a:Nat),.int (b:Nat),.int (c:Nat)]))/\(1<=a/\a<=4)/\(1<=b/\b<=5)/\(1<=c/\c<=6):=by
 have c0:=w_at (ns:=ns) (k:=0) (by decide) (by decide);have mx:=jp3 (n:=atF ns 0) (p:=1) (by decide) (by decide);generalize mixF (atF ns 0) 1=m at mx;have e1:=ja8 (i:=m) (j:=4) (by decide);have f1:=jbu (i:=m) (j:=4) (by decide) (by decide);have e2:=ja8 (i:=m / 4) (j:=5) (by decide);have f2':=jbu (i:=m) (j:=20) (by decide) (by decide);have e3:=ja8 (i:=m / 20) (j:=6) (by decide);have x1:=md (i:=m) (j:=4) (by decide);have x2:=md (i:=m / 4) (j:=5) (by decide);have x3:=md (i:=m / 20) (j:=6) (by decide);obtain⟨a,ha⟩:=Int.eq_ofNat_of_zero_le x1.1;obtain⟨b,hb⟩:=Int.eq_ofNat_of_zero_le x2.1;obtain⟨c,hc⟩:=Int.eq_ofNat_of_zero_le x3.1;have ha':m % 4=(a:Int):=ha;have hb':m / 4 % 5=(b:Int):=hb;have hc':m / 20 % 6=(c:Int):=hc;refine⟨1+a,1+b,1+c,?_,by omega,by omega,by omega⟩;unfold jdi;rw[jio];unfold jer;rw[jca (δ':=[some (scr ns),some (.int m)]) (by simp only[stp,Nat.reduceSub,c0,mx];rfl)];rw[jdp (d:=.lst [.int (1+m % 4),.int (1+m / 4 % 5),.int (1+m / 20 % 6)]) (by simp only[stp,Nat.reduceSub,e1,f1,e2,f2',e3];rfl)];rw[ha',hb',hc',Int.natCast_add,Int.natCast_add,Int.natCast_add];rfl
theorem jv2{ns:List Int}{n most:Nat}{i:Nat}{p:Str×Int}(h:(itsF ns n most)[i]? = some p):p.1=nmS i (drF ns 1):=by
 unfold itsF at h;rw[zba] at h;obtain⟨j,hj,rfl⟩:=Option.map_eq_some_iff.mp h;obtain⟨hl,e⟩:=zbb.mp hj;rw[List.getElem_range] at e;subst e;rfl
theorem jsv(ns:List Int){a b c:Nat}(ha:1<=a/\a<=4)(hb:1<=b/\b<=5)(hc:1<=c/\c<=6):∃ bk:Bk,jdu [scr ns,.lst [.int (a:Nat),.int (b:Nat),.int (c:Nat)]]=some (.ok (bkD bk))/\BkOk 206 bk:=by
 have c0:=w_at (ns:=ns) (k:=0) (by decide) (by decide);have mx:=jp3 (n:=atF ns 0) (p:=2) (by decide) (by decide);generalize mixF (atF ns 0) 2=m at mx;have e2:=ja8 (i:=m) (j:=2) (by decide);have x2:=md (i:=m) (j:=2) (by decide);have go:∀ (q:Nat) (mi mr:Nat),m % 2=(q:Int)->atI [D.int 7,D.int 100000000000000000000000] (q:Int)=some (.int (mi:Nat))->atI [D.int 100000000000000000000000,D.int 7] (q:Int)=some (.int (mr:Nat))->7<=mi->mi<2 ^ 100->7<=mr->mr<2 ^ 100 ->
   ∃ bk:Bk,jdu [scr ns,.lst [.int (a:Nat),.int (b:Nat),.int (c:Nat)]]=some (.ok (bkD bk))/\BkOk 206 bk:=by
  intro q mi mr hq h1 h2 m1 m2 m3 m4;have li:(itsF ns a mi).length=a:=by unfold itsF;rw[zav,List.length_range]
  have bi:∀ p∈itsF ns a mi,Bt 100 p.2:=fun p hp=>by
   unfold itsF at hp;obtain⟨i,hi,rfl⟩:=List.mem_map.mp hp;have:=zcb.mp hi;exact Nat.lt_trans (jpg (by omega) (by omega) m1 m2) m2
  have ei:=jqp ns (n:=a) (most:=mi) ha.2 m1 m2;obtain⟨rls,er,lr,hr⟩:=jq9 ns (its:=itsF ns a mi) (n:=b) (most:=mr) (by rw[li];exact ha.2) bi hb.2 m3 m4;obtain⟨dds,ed,ld,hd⟩:=jqf ns (its:=itsF ns a mi) (n:=c) (by rw[li];exact ha.2) hc.2;have l1:jb9 [.int 7,.int 100000000000000000000000]=some (.lst [.int 7,.int 100000000000000000000000]):=rfl;have l2:jb9 [.int 100000000000000000000000,.int 7]=some (.lst [.int 100000000000000000000000,.int 7]):=rfl;refine⟨⟨itsF ns a mi,rls,dds⟩,?_,⟨by show 1<=(itsF ns a mi).length;rw[li];exact ha.1,by show (itsF ns a mi).length<=4;rw[li];exact ha.2,by show 1<=rls.length;rw[lr];exact hb.1,by show rls.length<=5;rw[lr];exact hb.2,by show 1<=dds.length;rw[ld];exact hc.1,by show dds.length<=6;rw[ld];exact hc.2,bi,⟨_,fun i p h=>jv2 h⟩,⟨_,hr⟩,⟨_,hd⟩⟩⟩;unfold jdu;rw[jfd];unfold jga;rw[jca (δ':=[some (scr ns),some (.lst [.int (a:Nat),.int (b:Nat),.int (c:Nat)]),some (.int (q:Int)),none]) (by simp only[stp,Nat.reduceSub,c0,mx,e2,hq];rfl)];rw[jca (δ':=[some (scr ns),some (.lst [.int (a:Nat),.int (b:Nat),.int (c:Nat)]),some (.int (q:Int)),some (.lst ((itsF ns a mi).map itD))]) (by simp only[stp,Nat.reduceSub,p1023,l1,ix_l,at0,h1,ei];rfl)];rw[jdp (d:=bkD ⟨itsF ns a mi,rls,dds⟩) (by simp only[stp,Nat.reduceSub,p1023,l2,ix_l,at1,at2,h2,er,ed];rfl)];rfl
 have hq:m % 2=0\/m % 2=1:=by have a1:m % 2<2:=x2.2;have a2:0<=m % 2:=x2.1;omega
 rcases hq with hq|hq
 ·exact go 0 7 100000000000000000000000 hq rfl rfl (by decide) (by decide) (by decide) (by decide)
 ·exact go 1 100000000000000000000000 7 hq rfl rfl (by decide) (by decide) (by decide) (by decide)
end
noncomputable section
noncomputable def ja4(b:Bk):List Int:=b.its.map (·.2)
theorem jh2{k:Nat}{b:Bk}(h:BkOk k b):∀ s∈ja4 b,Bt 100 s:=fun s hs=>by
 obtain⟨p,hp,rfl⟩:=List.mem_map.mp hs;exact h.st p hp
theorem jfq(b:Bk){fe:DSt->M D}(hf:∀ a,fe [some a]=M.o (gIx a (.int 1))):jdk (DL.gName 0) tYes fe (b.its.map itD) [none]=some ((ja4 b).map .int):=by
 have:=jdq (c:=[]) (fe:=fe) (K:=itD) (F:=fun p=>.int p.2) b.its none fun p _=>by rw[hf];rfl
 rw[this];unfold ja4;rw[List.map_map];rfl
theorem jgo{k:Nat}{b:Bk}(h:BkOk k b):((ja4 b).map D.int).length<=1000:=by
 unfold ja4;rw[zav,zav];have:=h.i4;omega
theorem jqh(xs:List D)(j:Nat)(h:j<(jcw 0 xs).length):∃ x,xs[j]? = some x/\(jcw 0 xs)[j]=.tup [.int (j:Int),x]:=by
 obtain⟨x,h1,h2⟩:=jhj (k:=0) (zax h);refine⟨x,h1,?_⟩;rw[h2,Int.zero_add]
theorem jyz{k:Nat}(hk:k<5)(m:Int):∃ q:Int,atI [D.int 1,.int 2,.int 4,.int 8,.int 16] (k:Int)=some (.int q)/\jeq (.int m) (.int q)=some (.int (m / q)):=by
 match k,hk with
 | 0,_=>exact⟨1,rfl,jbu (by decide) (by decide)⟩
 | 1,_=>exact⟨2,rfl,jbu (by decide) (by decide)⟩
 | 2,_=>exact⟨4,rfl,jbu (by decide) (by decide)⟩
 | 3,_=>exact⟨8,rfl,jbu (by decide) (by decide)⟩
 | 4,_=>exact⟨16,rfl,jbu (by decide) (by decide)⟩
theorem getE{α:Type}{rs:List α}{a x:α}{i n:Nat}(hl:rs.length=n)(h:(rs++[a])[i]? = some x):rs[i]? = some x\/(i=n/\x=a):=by
 by_cases hlt:i<rs.length
 ·rw[List.getElem?_append_left hlt] at h;exact .inl h
 ·rw[List.getElem?_append_right (Nat.le_of_not_lt hlt)] at h;obtain⟨h0,e0⟩:=zbb.mp h;have:i-rs.length=0:=by have:i-rs.length<1:=h0;omega
  refine .inr ⟨by omega,?_⟩;simp only[this] at e0;exact e0.symm
noncomputable abbrev l7(b:Bk)(num:Int)(rls:List Rul)(a c d:Option D):DSt:=[some (bkD b),some (.int num),some (.lst (rls.map rulD)),some (.lst ((ja4 b).map .int)),a,c,d]
theorem jy8{its:List (Str×Int)}{m:Int}{k i:Nat}{r:Rul}{st:List Int}(h:RulOk its m k i r)(hk:k<=210)(hl:its.length<=4)(hs:∀ s∈st,Bt 100 s):Bt 211 (spF r st) :=
 (jx2 h.bt hs (by rw[h.len];exact hl)).mono (show 204<=210 by decide) |>.add (h.rb.mono hk)
theorem jtq{b:Bk}{num:Int}(hb:BkOk 206 b)(hn:Bt 34 num):∃ b':Bk,jcu [bkD b,.int num]=some (.ok (bkD b'))/\BkOk 220 b':=by
 obtain⟨m,hm⟩:=hb.rl;have ec:=jfq b (fe:=jej) fun a=>rfl
 have ln:=jgo hb;have hst:=jh2 hb;have f32:=jbu (i:=num) (j:=32) (by decide) (by decide);have f128:=jbu (i:=num) (j:=128) (by decide) (by decide);have m3:=ja8 (i:=num / 32) (j:=3) (by decide);have x3:=md (i:=num / 32) (j:=3) (by decide);have b3:Bt 2 (num / 32 % 3):=jju (m:=3) x3.1 x3.2 (by decide);have b4:Bt 34 (num / 128):=jve hn (by decide);have mm:=jby b3 b4;have bm:=b3.mul b4;generalize num / 32 % 3*(num / 128)=q at mm bm;have l5:jb9 [.int 1,.int 2,.int 4,.int 8,.int 16]=some (.lst [.int 1,.int 2,.int 4,.int 8,.int 16]):=rfl;obtain⟨δ',e,rls,a,c,d,rfl,hl,hr⟩:=jja (g:=jbl) (tg:=jdg 4 5) (jcw 0 (b.rls.map rulD)) (fun j δ=>∃ (rls:List Rul) (a c d:Option D),δ=l7 b num rls a c d/\rls.length=j/\∀ i r,rls[i]? = some r->RulOk b.its m 220 i r)
  (fun j hj δ ⟨rls,a,c,d,hδ,hl,hr⟩=>by
   subst hδ;obtain⟨x,hx,ex⟩:=jqh (b.rls.map rulD) j hj;rw[jfy,zav] at hj;rw[zba] at hx;obtain⟨r,hq,rfl⟩:=Option.map_eq_some_iff.mp hx;have hro:=hm j r hq;have h5:=hb.r5;obtain⟨p,p1,p2⟩:=jyz (k:=j) (by omega) num;have m2:=ja8 (i:=num / p) (j:=2) (by decide);have sp:=jmy hro.bt hst (by rw[hro.len];exact hb.i4);have bs:=jy8 hro (by decide) hb.i4 hst;have la:(rls.map rulD).length<=100000:=by rw[zav];omega
   have s6:gSet 6 (f2 gIx (fVar 5) (fC (.int 2))) (l7 b num rls (some (.int (j:Nat))) (some (rulD r)) d)=some (.ok (.nx (l7 b num rls (some (.int (j:Nat))) (some (rulD r)) (some (.int r.rest))))):=jeb 6 (by simp only[stp,rl2];rfl);have go:∀ rest:Int,Bt 220 rest->gIf (t2 gEq (f2 gMod (f2 jeq (fVar 1) (f2 gIx (fL jb9 (jad (fC (.int 1)) (jad (fC (.int 2)) (jad (fC (.int 4)) (jad (fC (.int 8)) (jad (fC (.int 16)) fNil)))))) (fVar 4))) (fC (.int 2))) (fC (.int 1))) (gSet 6 (f2 gSub (f2 gSub (f2 gSub (fVar 6) (jav ja7 (jad (fVar 5) (jad (fVar 3) fNil)))) (fC (.int 1))) (f2 jbk (f2 gMod (f2 jeq (fVar 1) (fC (.int 32))) (fC (.int 3))) (f2 jeq (fVar 1) (fC (.int 128)))))) gNx (l7 b num rls (some (.int (j:Nat))) (some (rulD r)) (some (.int r.rest)))=some (.ok (.nx (l7 b num rls (some (.int (j:Nat))) (some (rulD r)) (some (.int rest))))) ->
     ∃ δ2,(jbl (l7 b num rls (some (.int (j:Nat))) (some (rulD r)) d)=some (.ok (.nx δ2))\/jbl (l7 b num rls (some (.int (j:Nat))) (some (rulD r)) d)=some (.ok (.ct δ2)))/\∃ (rls:List Rul) (a c d:Option D),δ2=l7 b num rls a c d/\rls.length=j+1/\∀ i r,rls[i]? = some r->RulOk b.its m 220 i r:=fun rest hrest h=>by
    refine⟨l7 b num (rls++[⟨r.nm,r.cs,rest⟩]) (some (.int (j:Nat))) (some (rulD r)) (some (.int rest)),.inl ?_,_,_,_,_,rfl,by rw[zca,hl];rfl,fun i r' hr'=>?_⟩
    ·unfold jbl;rw[jca s6,jca h,jrg (d:=rulD ⟨r.nm,r.cs,rest⟩) (ds:=rls.map rulD) 2 (by simp only[stp,rl0,rl1];rfl) rfl la];unfold l7;rw[List.map_append];rfl
    ·rcases getE hl hr' with h1|⟨rfl,rfl⟩
     ·exact hr i r' h1
     ·exact⟨hro.nm,hro.len,hro.bt,hrest⟩
   refine⟨l7 b num rls (some (.int (j:Nat))) (some (rulD r)) d,by rw[ex];rfl,?_⟩;have t0:t2 gEq (f2 gMod (f2 jeq (fVar 1) (f2 gIx (fL jb9 (jad (fC (.int 1)) (jad (fC (.int 2)) (jad (fC (.int 4)) (jad (fC (.int 8)) (jad (fC (.int 16)) fNil)))))) (fVar 4))) (fC (.int 2))) (fC (.int 1)) (l7 b num rls (some (.int (j:Nat))) (some (rulD r)) (some (.int r.rest)))=some (.ok (num / p % 2 == 1)):=by
    simp only[stp,l5,ix_l,p1,p2,m2];rfl
   cases hc:(num / p % 2 == 1) with
   | true =>
    rw[hc] at t0;refine go (r.rest-spF r (ja4 b)-1-q) ?_ ?_
    ·have b1:Bt 211 r.rest:=hro.rb.mono (by decide);have b5:=(b1.sub bs).sub (j:=1) (Bt.mono (a:=1) (by unfold Bt;decide) (by decide));exact (b5.sub (bm.mono (by decide))).mono (by decide)
    ·rw[w_if t0,if_pos rfl];exact jeb 6 (d:=.int (r.rest-spF r (ja4 b)-1-q)) (by simp only[stp,sp,f32,f128,m3,mm];rfl)
   | false =>
    rw[hc] at t0;exact go r.rest (hro.rb.mono (by decide)) (jjl t0)) (l7 b num [] none none none) ⟨[],none,none,none,rfl,rfl,fun i r h=>by cases h⟩
 rw[jfy,zav] at hl;refine⟨⟨b.its,rls,b.dds⟩,?_,⟨hb.i1,hb.i4,by show 1<=rls.length;rw[hl];exact hb.r1,by show rls.length<=5;rw[hl];exact hb.r5,hb.d1,hb.d6,hb.st,hb.im,⟨m,hr⟩,hb.dd⟩⟩;unfold jcu;rw[jfd];unfold jdl;rw[jca (δ':=[some (bkD b),some (.int num),some (.lst []),none,none,none,none]) (by rw[jeb 2 (d:=.lst []) rfl];rfl)];rw[jca (δ':=l7 b num [] none none none) (by rw[jeb 3 (d:=.lst ((ja4 b).map .int)) (by simp only[stp,ix_t,at0,ec,jdt ln];rfl)];rfl)];rw[jca (show gFor _ _ _ _=some (.ok (.nx _)) from by rw[jlv (ds:=jcw 0 (b.rls.map rulD)) (by simp only[stp,ix_t,at1];rfl)];exact e)];rw[jdp (d:=bkD ⟨b.its,rls,b.dds⟩) (by simp only[stp,ix_t,at0,at2];rfl)];rfl
end
noncomputable section
theorem jk3{fa fb:DSt->M D}{δ:DSt}{d:D}(h:fa δ=some (.ok (.bl true)))(g:fb δ=some (.ok d)):fAnd fa fb δ=some (.ok d):=by
 unfold fAnd;rw[h,M.b_ok];exact g
theorem jsy{fa fb fc:DSt->M D}{δ:DSt}{a b c:Int}(h1:fa δ=some (.ok (.int a)))(h2:fb δ=some (.ok (.int b)))(h3:fc δ=some (.ok (.int c)))(g1:a<=b)(g2:b<=c):jip gLe gLe fa fb fc δ=some (.ok (.bl true)):=by
 have e:∀ {x y:Int},x<=y->gLe (.int x) (.int y)=some (.bl true):=fun {x y} h=>by
  show some (D.bl (decide (x<=y)))=_;rw[decide_eq_true h]
 unfold jip;rw[h1,M.b_ok,h2,M.b_ok,e g1];dsimp only;rw[h3,M.b_ok,e g2];rfl
theorem jsq{fe:DSt->M D}{c:DSt}{α:Type}{K:α->D}(xs:List α)(h:∀ x∈xs,fe (some (K x)::c)=some (.ok (.bl true))):(∃ ds,jdk (DL.gName 0) tYes fe (xs.map K) (none::c)=some ds/\ds.length=xs.length/\kAll [.lst ds]=some (.bl true)):=by
 refine⟨xs.map fun _=>.bl true,jdq xs none h,zav ..,?_⟩;rw[ju6 xs fun _=>true];congr 2;exact List.all_eq_true.mpr fun _ _=>rfl
theorem jqz{α:Type}{f:α->Str}{xs:List α}{m:Int}(h:∀ i x,xs[i]? = some x->f x=nmS i m):xs.map f=(List.range xs.length).map fun i=>nmS i m:=by
 refine List.ext_getElem? fun i=>?_
 rw[zba,zba]
 cases hx:xs[i]? with
 | none =>
  rw[List.getElem?_eq_none (by rw[List.length_range];exact List.getElem?_eq_none_iff.mp hx)];rfl
 | some x =>
  have hi:=(zbb.mp hx).1;rw[List.getElem?_range hi];show some (f x)=some (nmS i m);rw[h i x hx]
theorem jgj{α:Type}{f:α->Str}{K:α->D}{xs:List α}{m:Int}{n:Nat}(hK:∀ x,gIx (K x) (.int 0)=some (.str (f x)))(h:∀ i x,xs[i]? = some x->f x=nmS i m)(h1:1<=xs.length)(hn:xs.length<=n)(h7:n<=7):jci [.lst (xs.map K),.int (n:Nat)]=some (.ok (.bl true)):=by
 have ec:=jdq (c:=[]) (fe:=jhe) (K:=K) (F:=fun x=>.str (f x)) xs none fun x _=>by
  show M.o (gIx (K x) (.int 0))=_;rw[hK];rfl
 have em:(xs.map fun x=>D.str (f x))=(xs.map f).map .str:=by rw[List.map_map];rfl
 rw[em] at ec;have ln:((xs.map f).map D.str).length<=1000:=by rw[zav,zav];omega
 have nl:je7 [.lst (xs.map K)]=some (.ok (.lst ((xs.map f).map .str))):=by
  unfold je7;rw[jio];unfold jgd;rw[jdp (d:=.lst ((xs.map f).map .str)) (by simp only[stp,ec,jdt ln];rfl)];rfl
 have ne:=jqz h;have nd:(xs.map f).Nodup:=by rw[ne];exact jq2 (by omega) m
 have ls:=jqu nd (by rw[zav];omega);obtain⟨ds,a1,a2,a3⟩:=jsq (fe:=jeg) (c:=[]) (K:=D.str) (xs.map f) (fun s hs=>by
  rw[ne] at hs;obtain⟨i,hi,rfl⟩:=List.mem_map.mp hs;have:=zcb.mp hi;have q:=(jr6 m).1 i (by omega);unfold jeg;simp only[stp,q])
 unfold jci;rw[jfd];unfold jfh;rw[jca (δ':=[some (.lst (xs.map K)),some (.int (n:Nat)),some (.lst ((xs.map f).map .str))]) (by rw[jeb 2 (d:=.lst ((xs.map f).map .str)) (by simp only[stp,nl])];rfl)];rw[jdp (d:=.bl true) ?_]
 ·rfl
 ·refine jk3 (jsy (a:=1) (b:=(xs.length:Nat)) (c:=(n:Nat)) rfl (by simp only[stp,zav];rfl) rfl (by omega) (by omega)) (jk3 ?_ ?_)
  ·simp only[stp,a1,jdt (show ds.length<=1000 by rw[a2,zav];omega),a3];rfl
  ·simp only[stp,ls,zav,eq_i,beq_self_eq_true];rfl
variable {b:Bk}{k:Nat}
theorem jmv(hb:BkOk k b):jet [bkD b]=some (.ok (.bl true)):=by
 obtain⟨m1,h1⟩:=hb.im;obtain⟨m2,h2⟩:=hb.rl;obtain⟨m3,h3⟩:=hb.dd;have n1:=jgj (f:=fun p:Str×Int=>p.1) (K:=itD) (n:=4) (fun x=>rfl) h1 hb.i1 hb.i4 (by decide);have n2:=jgj (f:=fun r:Rul=>r.nm) (K:=rulD) (n:=5) rl0 (fun i r h=>(h2 i r h).nm) hb.r1 hb.r5 (by decide);have n3:=jgj (f:=fun d:Ded=>d.nm) (K:=dedD) (n:=6) (fun x=>rfl) (fun i r h=>(h3 i r h).nm) hb.d1 hb.d6 (by decide);have i4:=hb.i4;have r5:=hb.r5;have d6:=hb.d6;have ar:jd3 [bkD b]=some (.ok (.bl true)):=by
  obtain⟨ds,a1,a2,a3⟩:=jsq (fe:=jeh) (c:=[some (.int (b.its.length:Nat))]) (K:=rulD) b.rls (fun r hr=>by
   obtain⟨i,hi⟩:=List.getElem?_of_mem hr;have q:=(h2 i r hi).len;unfold jeh;simp only[stp,rl1,zav,q,eq_i,beq_self_eq_true];rfl)
  unfold jd3;rw[jio];unfold jfi;rw[jca (δ':=[some (bkD b),some (.int (b.its.length:Nat))]) (by rw[jeb 1 (d:=.int (b.its.length:Nat)) (by simp only[stp,ix_t,at0,zav];rfl)];rfl)];rw[jdp (d:=.bl true) (jk3 (by simp only[stp,ix_t,at1];exact n2) (by simp only[stp,ix_t,at1,a1,jdt (show ds.length<=1000 by omega),a3];rfl))];rfl
 have ad:jd2 [bkD b]=some (.ok (.bl true)):=by
  obtain⟨ds,a1,a2,a3⟩:=jsq (fe:=jef) (c:=[some (.int (b.its.length:Nat))]) (K:=dedD) b.dds (fun d hr=>by
   obtain⟨i,hi⟩:=List.getElem?_of_mem hr;have q:=(h3 i d hi).len;have g:=(h3 i d hi).lh;have e1:gIx (dedD d) (.int 1)=some (.int d.lo):=rfl;have e2:gIx (dedD d) (.int 2)=some (.int d.hi):=rfl;have e3:gIx (dedD d) (.int 3)=some (.tup (d.chs.map chD)):=rfl;have e4:gLe (.int d.lo) (.int d.hi)=some (.bl true):=by
    show some (D.bl (decide (d.lo<=d.hi)))=_;rw[decide_eq_true g]
   unfold jef;refine jk3 ?_ ?_
   ·simp only[stp,e3,zav,q,eq_i,beq_self_eq_true];rfl
   ·simp only[stp,e1,e2,e4];rfl)
  unfold jd2;rw[jio];unfold jfg;rw[jca (δ':=[some (bkD b),some (.int (b.its.length:Nat))]) (by rw[jeb 1 (d:=.int (b.its.length:Nat)) (by simp only[stp,ix_t,at0,zav];rfl)];rfl)];rw[jdp (d:=.bl true) (jk3 (by simp only[stp,ix_t,at2];exact n3) (by simp only[stp,ix_t,at2,a1,jdt (show ds.length<=1000 by omega),a3];rfl))];rfl
 unfold jet;rw[jio];unfold jhk;rw[jdp (d:=.bl true) (jk3 (by simp only[stp,ix_t,at0];exact n1) (jk3 (by simp only[stp];exact ar) (by simp only[stp];exact ad)))];rfl
theorem jkx(hb:BkOk k b):jbx [bkD b]=some (.ok (.tup ((ja4 b).map .int))):=by
 have ec:=jfq b (fe:=jgp) fun a=>rfl
 unfold jbx;rw[jio];unfold jfn;rw[jdp (d:=.tup ((ja4 b).map .int)) (by simp only[stp,ix_t,at0,ec,jdt (jgo hb)];rfl)];rfl
end
noncomputable section
theorem jur{a b c:SO}(Ω:Sto):((Ω++[a])++[b]).set Ω.length c=Ω++[c,b]:=by
 rw[List.append_assoc,List.set_append_right _ _ (zac _),Nat.sub_self];rfl
theorem jlb{a:SO}{r:Sto}(Ω:Sto):(Ω++a::r)[Ω.length]? = some a:=by
 rw[List.getElem?_append_right (zac _),Nat.sub_self];rfl
noncomputable def errs(Ω:Sto)(f:Bool)(nm:Str):Sto:=Ω++[.exc "Broken" (some (Ω.length+1),f),.xd [("name",.str nm)]]
theorem jlc(Ω:Sto)(nm:Str):jbf [.obj Ω.length,.str nm] (Ω++[.exc "Broken" (none,true)])=some (.ok .non,errs Ω true nm):=by
 unfold jbf mirE;rw[if_pos (show [D.obj Ω.length,D.str nm].length=2 from rfl)];refine (MS.b_ok (a:=.nx [some (.obj Ω.length),some (.str nm)]) (Ω1:=errs Ω true nm) ?_).trans rfl;show jcc [some (.obj Ω.length),some (.str nm)] _=_;unfold jcc js7;rw[MS.b_ok (a:=.str nm) (Ω1:=Ω++[.exc "Broken" (none,true)]) rfl,MS.b_ok (a:=.obj Ω.length) (Ω1:=Ω++[.exc "Broken" (none,true)]) rfl];refine (MS.b_ok (a:=()) (Ω1:=errs Ω true nm) ?_).trans rfl;unfold putX;dsimp only;rw[jlb];dsimp only;rw[if_pos (by decide),jur,zca];rfl
theorem jlg{Ω:Sto}{δ:DSt}{nm:Str}{fl:DSt->MS (List D)}(h:fl δ Ω=some (.ok [.str nm],Ω)):jka "Broken" jbf fl δ Ω=some (.ok (.obj Ω.length),errs Ω true nm):=by
 unfold jka;rw[MS.b_ok h];unfold jm0;rw[MS.b_ok (jlc Ω nm)];rfl
theorem jkn{Ω:Sto}{δ:DSt}{nm:Str}{fl:DSt->MS (List D)}(h:fl δ Ω=some (.ok [.str nm],Ω)):jj1 xcs (jka "Broken" jbf fl) δ Ω=some (.error (xdO Ω.length),errs Ω false nm):=by
 unfold jj1;rw[MS.b_ok (jlg h)];dsimp only;unfold jmi errs;rw[jlb];dsimp only;rw[if_pos (by decide),List.set_append_right _ _ (zac _),Nat.sub_self];rfl
theorem jn4{g:DSt->MS Out}{tg:D->DSt->Option DSt}{d:D}{ds:List D}{δ δ1 δ2:DSt}{Ω Ω1:Sto}(h1:tg d δ=some δ1)(h2:g δ1 Ω=some (.ok (.nx δ2),Ω1)):forE g tg (d::ds) δ Ω=forE g tg ds δ2 Ω1:=by
 conv=>lhs;unfold forE
 rw[h1];dsimp only;rw[MS.b_ok h2]
theorem jqi{g:DSt->MS Out}{tg:D->DSt->Option DSt}{d:D}{ds:List D}{δ δ1:DSt}{Ω Ω1:Sto}{x:XD}(h1:tg d δ=some δ1)(h2:g δ1 Ω=some (.error x,Ω1)):forE g tg (d::ds) δ Ω=some (.error x,Ω1):=by
 conv=>lhs;unfold forE
 rw[h1];dsimp only;unfold MS.b;rw[h2]
theorem eseq{g1 g2:DSt->MS Out}{δ δ':DSt}{Ω Ω':Sto}(h:g1 δ Ω=some (.ok (.nx δ'),Ω')):eSeq g1 g2 δ Ω=g2 δ' Ω':=by
 unfold eSeq;rw[MS.b_ok h]
theorem eif{t:DSt->MS Bool}{g1 g2:DSt->MS Out}{δ:DSt}{Ω Ω':Sto}{c:Bool}(h:t δ Ω=some (.ok c,Ω')):eIf t g1 g2 δ Ω=if c=true then g1 δ Ω' else g2 δ Ω':=by
 unfold eIf;rw[MS.b_ok h];cases c<;>rfl
theorem b_err{α β:Type}{m:MS α}{f:α->MS β}{Ω Ω1:Sto}{x:XD}(h:m Ω=some (.error x,Ω1)):m.b f Ω=some (.error x,Ω1):=by unfold MS.b;rw[h]
theorem lft{α:Type}{g:DSt->M α}{δ:DSt}{a:α}{Ω:Sto}(h:g δ=some (.ok a)):lF g δ Ω=some (.ok a,Ω):=by
 unfold lF MS.l;rw[h];rfl
theorem efor{fi:DSt->MS (List D)}{tg:D->DSt->Option DSt}{g:DSt->MS Out}{δ:DSt}{Ω Ω':Sto}{ds:List D}(h:fi δ Ω=some (.ok ds,Ω')):eFor fi tg g δ Ω=forE g tg ds δ Ω':=by
 unfold eFor;rw[MS.b_ok h]
noncomputable abbrev stD(st:List Int):D:=.tup (st.map .int)
variable {b:Bk}{k:Nat}{st:List Int}
structure RBs(b:Bk):Prop where
 rs:∀ r∈b.rls,(∀ c∈r.cs,Bt 100 c)/\r.cs.length<=4
theorem rbs(hb:BkOk k b):RBs b:=⟨fun r hr=>by
 obtain⟨m,h⟩:=hb.rl;obtain⟨i,hi⟩:=List.getElem?_of_mem hr;exact⟨(h i r hi).bt,by rw[(h i r hi).len];exact hb.i4⟩⟩
theorem ju8{i:Nat}{r:Rul}(hb:RBs b)(hs:∀ s∈st,Bt 100 s)(hi:b.rls[i]? = some r)(Ω:Sto) :
  jaw [some (bkD b),some (stD st),some (.int (i:Nat)),some (rulD r)] Ω=if spF r st<0 then some (.error (xdO Ω.length),errs Ω false r.nm) else some (.ok (.nx [some (bkD b),some (stD st),some (.int (i:Nat)),some (rulD r)]),Ω):=by
 have hr:=hb.rs r (List.mem_of_getElem? hi);have ht:t2 gLt (jav jgh (jad (fVar 0) (jad (fVar 2) (jad (fVar 1) fNil)))) (fC (.int 0)) [some (bkD b),some (stD st),some (.int (i:Nat)),some (rulD r)]=some (.ok (decide (spF r st<0))):=by
  simp only[stp,jml hi hr.1 hs hr.2];rfl
 unfold jaw eIf;rw[MS.b_ok (lft ht)]
 by_cases h:spF r st<0
 ·rw[if_pos h,if_pos (by simpa using h)];exact jkn rfl
 ·rw[if_neg h,if_neg (by simpa using h)];rfl
noncomputable def fstB(b:Bk)(st:List Int):Option Rul:=b.rls.find? fun r=>decide (spF r st<0)
theorem jmj(hb:RBs b)(hs:∀ s∈st,Bt 100 s)(Ω:Sto):∀ (rs:List Rul) (i:Nat) (x y:Option D),b.rls.drop i=rs->match rs.find? (fun r=>decide (spF r st<0)) with
  | none=>∃ x' y',forE jaw (jdg 2 3) (jcw (i:Nat) (rs.map rulD)) [some (bkD b),some (stD st),x,y] Ω=some (.ok (.nx [some (bkD b),some (stD st),x',y']),Ω)
  | some r=>forE jaw (jdg 2 3) (jcw (i:Nat) (rs.map rulD)) [some (bkD b),some (stD st),x,y] Ω=some (.error (xdO Ω.length),errs Ω false r.nm)
 | [],i,x,y,_=>⟨x,y,rfl⟩
 | r::rs,i,x,y,h=>by
  have hi:b.rls[i]? = some r:=by
   have:=congrArg (·[0]?) h;simpa using this
  have hd:b.rls.drop (i+1)=rs:=by
   rw[<- List.drop_drop,h];rfl
  have b1:=ju8 hb hs hi Ω;rw[List.find?_cons]
  by_cases hr:spF r st<0
  ·rw[if_pos hr] at b1;rw[decide_eq_true hr];exact jqi rfl b1
  ·rw[if_neg hr] at b1;rw[decide_eq_false hr];have ih:=jmj hb hs Ω rs (i+1) (some (.int (i:Nat))) (some (rulD r)) hd;have e:forE jaw (jdg 2 3) (jcw (i:Nat) ((r::rs).map rulD)) [some (bkD b),some (stD st),x,y] Ω=forE jaw (jdg 2 3) (jcw ((i+1:Nat):Int) (rs.map rulD)) [some (bkD b),some (stD st),some (.int (i:Nat)),some (rulD r)] Ω:=jn4 (ds:=jcw ((i:Int)+1) (rs.map rulD)) rfl b1;rw[e];exact ih
theorem jpj(hb:RBs b)(hs:∀ s∈st,Bt 100 s)(Ω:Sto):jay [bkD b,stD st] Ω=match fstB b st with
  | none=>some (.ok .non,Ω)
  | some r=>some (.error (xdO Ω.length),errs Ω false r.nm):=by
 have l:=jmj hb hs Ω b.rls 0 none none rfl;unfold fstB;have e:jay [bkD b,stD st] Ω=MS.b (forE jaw (jdg 2 3) (jcw ((0:Nat):Int) (b.rls.map rulD)) [some (bkD b),some (stD st),none,none]) outE Ω:=by
  unfold jay mirE;rw[if_pos (show [bkD b,stD st].length=2 from rfl)];unfold jde MS.b;rw[show startD 4 [bkD b,stD st]=[some (bkD b),some (stD st),none,none] from rfl,efor (ds:=jcw 0 (b.rls.map rulD)) (Ω':=Ω) (by rfl)];rfl
 rw[e]
 cases hf:b.rls.find? (fun r=>decide (spF r st<0)) with
 | none =>
  rw[hf] at l;obtain⟨x',y',l⟩:=l;rw[MS.b_ok l];rfl
 | some r =>
  rw[hf] at l;rw[b_err l]
theorem jqd(hb:BkOk k b)(Ω:Sto):jb6 [bkD b] Ω=match fstB b (ja4 b) with
  | none=>some (.ok .non,Ω)
  | some r=>some (.error (xdO Ω.length),errs Ω false r.nm):=by
 have rk:=jpj (rbs hb) (jh2 hb) Ω;have e:jb6 [bkD b] Ω=MS.b (jcx [some (bkD b)]) outE Ω:=rfl;have t:DL.tNot (tTru (jav jet (jad (fVar 0) fNil))) [some (bkD b)]=some (.ok false):=by
  simp only[stp,jmv hb];rfl
 have ar:jad (fVar 0) (jad (jav jbx (jad (fVar 0) fNil)) fNil) [some (bkD b)]=some (.ok [bkD b,stD (ja4 b)]):=by
  simp only[stp,jkx hb];rfl
 have g:jcx [some (bkD b)] Ω=jmt (jdm jay (lF (jad (fVar 0) (jad (jav jbx (jad (fVar 0) fNil)) fNil)))) [some (bkD b)] Ω:=by
  unfold jcx;rw[eseq (δ':=[some (bkD b)]) (Ω':=Ω) (by rw[eif (lft t),if_neg (by decide)];rfl)]
 rw[e];have mc:jdm jay (lF (jad (fVar 0) (jad (jav jbx (jad (fVar 0) fNil)) fNil))) [some (bkD b)] Ω=jay [bkD b,stD (ja4 b)] Ω:=by
  unfold jdm;rw[MS.b_ok (lft ar)]
 rw[rk] at mc
 cases hf:fstB b (ja4 b) with
 | none =>
  rw[hf] at mc;refine (MS.b_ok (a:=.nx [some (bkD b)]) (Ω1:=Ω) ?_).trans rfl;rw[g];unfold jmt;rw[MS.b_ok mc];rfl
 | some r =>
  rw[hf] at mc;refine b_err ?_;rw[g];unfold jmt;exact b_err mc
noncomputable def jd1(b:Bk)(Ω:Sto):D×Sto:=match fstB b (ja4 b) with
 | none=>(.non,Ω)
 | some r=>(.obj Ω.length,errs Ω false r.nm)
theorem jho{Ω:Sto}{f:Bool}{nm:Str}:(errs Ω f nm)[Ω.length]? = some (.exc "Broken" (some (Ω.length+1),f)):=by unfold errs;exact jlb Ω
theorem jj4{Ω:Sto}{f:Bool}{nm:Str}:(errs Ω f nm)[Ω.length+1]? = some (.xd [("name",.str nm)]):=by
 unfold errs;rw[List.getElem?_append_right (Nat.le_succ _),show (List.length Ω).succ-List.length Ω=1 by omega];rfl
theorem jtn(hb:BkOk k b)(Ω:Sto):jb7 [bkD b] Ω=some (.ok (jd1 b Ω).1,(jd1 b Ω).2):=by
 have ck:=jqd hb Ω;have e:jb7 [bkD b] Ω=MS.b (je5 [some (bkD b),none,none]) outE Ω:=rfl;have mc:jdm jb6 (lF (jad (fVar 0) fNil)) [some (bkD b),some .non,none] Ω=jb6 [bkD b] Ω:=rfl;rw[ck] at mc;rw[e];unfold je5 jd1
 cases hf:fstB b (ja4 b) with
 | none =>
  rw[hf] at mc;refine (MS.b_ok (a:=.rt .non) (Ω1:=Ω) ?_).trans rfl;rw[eseq (δ':=[some (bkD b),some .non,none]) (Ω':=Ω) rfl,eseq (δ':=[some (bkD b),some .non,none]) (Ω':=Ω) (by unfold jn3;rw[mc])];rfl
 | some r =>
  rw[hf] at mc;refine (MS.b_ok (a:=.rt (.obj Ω.length)) (Ω1:=errs Ω false r.nm) ?_).trans rfl;rw[eseq (δ':=[some (bkD b),some .non,none]) (Ω':=Ω) rfl,eseq (δ':=[some (bkD b),some (.obj Ω.length),none]) (Ω':=errs Ω false r.nm) (by
   unfold jn3;rw[mc];dsimp only;unfold jl5 errI xdO;dsimp only;rw[jho];dsimp only;rw[if_pos (by decide)];rfl)]
  rfl
noncomputable def dueD(b:Bk):D:=match fstB b (ja4 b) with
 | none=>.non
 | some r=>.str r.nm
theorem jtk{Ω:Sto}{f:Bool}{nm:Str}{g:Str->Bool}{δ:DSt}(h:lF (fVar 0) δ (errs Ω f nm)=some (.ok (.obj Ω.length),errs Ω f nm)):mIsX xcs g (lF (fVar 0)) δ (errs Ω f nm)=some (.ok (.bl (g "Broken")),errs Ω f nm):=by
 unfold mIsX;rw[MS.b_ok h];unfold isX;dsimp only;rw[jho];dsimp only;rw[jj4];dsimp only;rw[if_pos (by decide)]
theorem jqk{Ω:Sto}{f:Bool}{nm:Str}{δ:DSt}(h:lF (fVar 0) δ (errs Ω f nm)=some (.ok (.obj Ω.length),errs Ω f nm)):jmz xcs "name" (lF (fVar 0)) δ (errs Ω f nm)=some (.ok (.str nm),errs Ω f nm):=by
 unfold jmz;rw[MS.b_ok h];unfold getX;dsimp only;rw[jho];dsimp only;rw[jj4];dsimp only;rw[if_pos (by decide)];rfl
theorem jq8(b:Bk)(Ω:Sto):jck [(jd1 b Ω).1,dueD b] (jd1 b Ω).2=some (.ok (.bl true),(jd1 b Ω).2):=by
 unfold jd1 dueD
 cases hf:fstB b (ja4 b) with
 | none=>kernel_rfl
 | some r =>
  have e:jck [.obj Ω.length,.str r.nm] (errs Ω false r.nm)=MS.b (jdz [some (.obj Ω.length),some (.str r.nm)]) outE (errs Ω false r.nm):=rfl;have v0:lF (fVar 0) [some (.obj Ω.length),some (.str r.nm)] (errs Ω false r.nm)=some (.ok (.obj Ω.length),errs Ω false r.nm):=rfl;have i1:=fun g=>jtk (g:=g) v0
  have n1:=jqk v0;have nn:gNe (.str r.nm) (.str r.nm)=some (.bl false):=jt2 (by rfl) (show 0<=20 by decide);dsimp only;rw[e];refine (MS.b_ok (a:=.rt (.bl true)) (Ω1:=errs Ω false r.nm) ?_).trans rfl;unfold jdz;rw[eseq (δ':=[some (.obj Ω.length),some (.str r.nm)]) (Ω':=errs Ω false r.nm) rfl];have ho:mOr (mNot (mTru (mIsX xcs (fun c=>c == "Broken") (lF (fVar 0))))) (mOr (mNot (mTru (mIsX xcs (fun _=>true) (lF (fVar 0))))) (mB (m2 gNe (jmz xcs "name" (lF (fVar 0))) (lF (fVar 1))))) [some (.obj Ω.length),some (.str r.nm)] (errs Ω false r.nm)=some (.ok false,errs Ω false r.nm):=by
   have a1:mNot (mTru (mIsX xcs (fun c=>c == "Broken") (lF (fVar 0)))) [some (.obj Ω.length),some (.str r.nm)] (errs Ω false r.nm)=some (.ok false,errs Ω false r.nm):=by
    unfold mNot mTru;rw[MS.b_ok (a:=true) (Ω1:=errs Ω false r.nm) (by rw[MS.b_ok (i1 _)];rfl)];rfl
   have a2:mNot (mTru (mIsX xcs (fun _=>true) (lF (fVar 0)))) [some (.obj Ω.length),some (.str r.nm)] (errs Ω false r.nm)=some (.ok false,errs Ω false r.nm):=by
    unfold mNot mTru;rw[MS.b_ok (a:=true) (Ω1:=errs Ω false r.nm) (by rw[MS.b_ok (i1 _)];rfl)];rfl
   have a3:mB (m2 gNe (jmz xcs "name" (lF (fVar 0))) (lF (fVar 1))) [some (.obj Ω.length),some (.str r.nm)] (errs Ω false r.nm)=some (.ok false,errs Ω false r.nm):=by
    unfold mB m2;rw[MS.b_ok (a:=.bl false) (Ω1:=errs Ω false r.nm) (by rw[MS.b_ok n1,MS.b_ok (a:=.str r.nm) (Ω1:=errs Ω false r.nm) rfl,nn];rfl)];rfl
   unfold mOr;rw[MS.b_ok a1,if_neg (by decide),MS.b_ok a2,if_neg (by decide)];exact a3
  rw[eseq (δ':=[some (.obj Ω.length),some (.str r.nm)]) (Ω':=errs Ω false r.nm) (by rw[eif ho,if_neg (by decide)];rfl)];rw[eseq (δ':=[some (.obj Ω.length),some (.str r.nm)]) (Ω':=errs Ω false r.nm) (by
   rw[eif (c:=false) (Ω':=errs Ω false r.nm) (by
    unfold mTru;rw[MS.b_ok (i1 _)];rfl),if_neg (by decide)]
   rfl)]
  unfold eRet jts;rw[MS.b_ok (a:=.bl true) (Ω1:=errs Ω false r.nm) (by rw[MS.b_ok (i1 _)];rfl)];rfl
end
noncomputable section
variable {b:Bk}{k:Nat}{st:List Int}
theorem p1029:gPow (.int 10) (.int 29)=some (.int 100000000000000000000000000000):=by rw[jpa (by decide)];rfl
theorem jri(n:Int):jfo [.int n]=some (.ok (.bl true)):=rfl
noncomputable def dD:Option Str->D
 | none=>.non
 | some s=>.str s
noncomputable abbrev s10(ns:List Int)(b:Bk)(s1 s2:List Int)(due:Option Str)(x5 x6 x7 x8:Option D):DSt:=[some (scr ns),some (bkD b),some (stD s1),some (stD s2),some (dD due),x5,x6,x7,x8,none]
theorem ju9{ns s1 s2:List Int}{due:Option Str}{r:Rul}{i:Nat}{x8:Option D}(hb:RBs b)(hs:∀ s∈st,Bt 100 s)(hi:b.rls[i]? = some r):jlz (s10 ns b s1 s2 due (some (.int (i:Nat))) (some (rulD r)) (some (stD st)) x8)=some (.ok (.nx (s10 ns b s1 s2 due (some (.int (i:Nat))) (some (rulD r)) (some (stD st)) (some (.int (spF r st)))))):=by
 have hr:=hb.rs r (List.mem_of_getElem? hi);have e1:=jml hi hr.1 hs hr.2;have e2:=jiu hr.1 hs hr.2;unfold jlz;rw[jca (δ':=s10 ns b s1 s2 due (some (.int (i:Nat))) (some (rulD r)) (some (stD st)) (some (.int (spF r st)))) (by rw[jeb 8 (d:=.int (spF r st)) (by simp only[stp,e1])];rfl)];exact jjl (by simp only[stp,jri,e2,ne_i,beq_self_eq_true];rfl)
theorem jx1{ns s1 s2:List Int}{due:Option Str}{r:Rul}{i:Nat}{x7 x8:Option D}(hb:RBs b)(h1:∀ s∈s1,Bt 100 s)(h2:∀ s∈s2,Bt 100 s)(hi:b.rls[i]? = some r) :
  jil (s10 ns b s1 s2 due (some (.int (i:Nat))) (some (rulD r)) x7 x8)=some (.ok (.nx (s10 ns b s1 s2 (due.or (if spF r s1<0 then some r.nm else none)) (some (.int (i:Nat))) (some (rulD r)) (some (stD s2)) (some (.int (spF r s2)))))):=by
 have hr:=hb.rs r (List.mem_of_getElem? hi);have e2:=jiu hr.1 h1 hr.2;unfold jil;have lp:forD jlz (DL.gName 7) [stD s1,stD s2] (s10 ns b s1 s2 due (some (.int (i:Nat))) (some (rulD r)) x7 x8)=some (.ok (.nx (s10 ns b s1 s2 due (some (.int (i:Nat))) (some (rulD r)) (some (stD s2)) (some (.int (spF r s2)))))):=by
  rw[jg7 (δ1:=s10 ns b s1 s2 due (some (.int (i:Nat))) (some (rulD r)) (some (stD s1)) x8) rfl (ju9 hb h1 hi)];rw[jg7 (δ1:=s10 ns b s1 s2 due (some (.int (i:Nat))) (some (rulD r)) (some (stD s2)) (some (.int (spF r s1)))) rfl (ju9 hb h2 hi)];rfl
 rw[jca (show gFor _ _ _ _=some (.ok (.nx _)) from by rw[jlv (ds:=[stD s1,stD s2]) rfl];exact lp)]
 cases due with
 | some s=>exact jjl (by rfl)
 | none =>
  have t:DL.tAnd (t2 gIs (fVar 4) (fC .non)) (t2 gLt (jav ja7 (jad (fVar 6) (jad (fVar 2) fNil))) (fC (.int 0))) (s10 ns b s1 s2 none (some (.int (i:Nat))) (some (rulD r)) (some (stD s2)) (some (.int (spF r s2))))=some (.ok (decide (spF r s1<0))):=by
   have t1:t2 gIs (fVar 4) (fC .non) (s10 ns b s1 s2 none (some (.int (i:Nat))) (some (rulD r)) (some (stD s2)) (some (.int (spF r s2))))=some (.ok true):=rfl;have t2':t2 gLt (jav ja7 (jad (fVar 6) (jad (fVar 2) fNil))) (fC (.int 0)) (s10 ns b s1 s2 none (some (.int (i:Nat))) (some (rulD r)) (some (stD s2)) (some (.int (spF r s2))))=some (.ok (decide (spF r s1<0))):=by
    simp only[stp,e2];rfl
   unfold DL.tAnd;rw[t1,M.b_ok];exact t2'
  by_cases h:spF r s1<0
  ·rw[decide_eq_true h] at t;rw[w_if t,if_pos rfl,if_pos h];rw[jeb 4 (d:=.str r.nm) (by simp only[stp,rl0];rfl)];rfl
  ·rw[decide_eq_false h] at t;rw[if_neg h];exact jjl t
theorem jom{ns s1 s2:List Int}(hb:RBs b)(h1:∀ s∈s1,Bt 100 s)(h2:∀ s∈s2,Bt 100 s):∀ (rs:List Rul) (i:Nat) (due:Option Str) (x5 x6 x7 x8:Option D),b.rls.drop i=rs ->
  ∃ y5 y6 y7 y8,forD jil (jdg 5 6) (jcw (i:Nat) (rs.map rulD)) (s10 ns b s1 s2 due x5 x6 x7 x8)=some (.ok (.nx (s10 ns b s1 s2 (due.or ((rs.find? fun r=>decide (spF r s1<0)).map fun r=>r.nm)) y5 y6 y7 y8)))
 | [],i,due,x5,x6,x7,x8,_=>⟨x5,x6,x7,x8,by cases due<;>rfl⟩
 | r::rs,i,due,x5,x6,x7,x8,h=>by
  have hi:b.rls[i]? = some r:=by
   have:=congrArg (·[0]?) h;simpa using this
  have hd:b.rls.drop (i+1)=rs:=by
   rw[<- List.drop_drop,h];rfl
  have b1:=jx1 (ns:=ns) (due:=due) (x7:=x7) (x8:=x8) hb h1 h2 hi;obtain⟨y5,y6,y7,y8,ih⟩:=jom (ns:=ns) hb h1 h2 rs (i+1) (due.or (if spF r s1<0 then some r.nm else none)) (some (.int (i:Nat))) (some (rulD r)) (some (stD s2)) (some (.int (spF r s2))) hd;refine⟨y5,y6,y7,y8,?_⟩;have e:forD jil (jdg 5 6) (jcw (i:Nat) ((r::rs).map rulD)) (s10 ns b s1 s2 due x5 x6 x7 x8)=forD jil (jdg 5 6) (jcw ((i+1:Nat):Int) (rs.map rulD)) (s10 ns b s1 s2 (due.or (if spF r s1<0 then some r.nm else none)) (some (.int (i:Nat))) (some (rulD r)) (some (stD s2)) (some (.int (spF r s2)))):=jg7 (ds:=jcw ((i:Int)+1) (rs.map rulD)) rfl b1;rw[e,ih,List.find?_cons]
  cases due with
  | some s=>rfl
  | none =>
   by_cases hr:spF r s1<0
   ·rw[if_pos hr,decide_eq_true hr];rfl
   ·rw[if_neg hr,decide_eq_false hr];rfl
theorem jyu(b:Bk):okD (bkD b)=true:=by
 have h1:okDs (b.its.map itD)=true:=je9 fun x _=>by unfold itD;rfl
 have h2:okDs (b.rls.map rulD)=true:=je9 fun x _=>by
  unfold rulD;have:okDs (x.cs.map D.int)=true:=je9 fun y _=>rfl
  show (okD (.str x.nm)&&(okDs (x.cs.map D.int)&&(okD (.int x.rest)&&true)))=true;rw[this];rfl
 have h3:okDs (b.dds.map dedD)=true:=je9 fun x _=>by
  unfold dedD;have:okDs (x.chs.map chD)=true:=je9 fun y _=>by unfold chD;rfl
  show (okD (.str x.nm)&&(okD (.int x.lo)&&(okD (.int x.hi)&&(okDs (x.chs.map chD)&&true))))=true;rw[this];rfl
 show (okDs (b.its.map itD)&&(okDs (b.rls.map rulD)&&(okDs (b.dds.map dedD)&&true)))=true;rw[h1,h2,h3];rfl
theorem jvc(b:Bk):depD (bkD b)<=20:=by
 have h1:depDs (b.its.map itD)<=3:=jdr fun x _=>by
  unfold itD;simp only[depD,depDs];omega
 have h2:depDs (b.rls.map rulD)<=5:=jdr fun x _=>by
  have:depDs (x.cs.map D.int)<=1:=jdr fun y _=>by unfold depD;omega
  unfold rulD;simp only[depD,depDs];omega
 have h3:depDs (b.dds.map dedD)<=7:=jdr fun x _=>by
  have:depDs (x.chs.map chD)<=3:=jdr fun y _=>by
   unfold chD;simp only[depD,depDs];omega
  unfold dedD;simp only[depD,depDs];omega
 simp only[depD,depDs];omega
theorem jvf(b:Bk):dD ((none:Option Str).or ((b.rls.find? fun r=>decide (spF r (ja4 b)<0)).map fun r=>r.nm))=dueD b:=by
 unfold dueD fstB;cases b.rls.find? (fun r=>decide (spF r (ja4 b)<0))<;>rfl
theorem law_true:∀ ns:List Int,ns.length<=63->∃ Ω,jon [.lst (ns.map .int)] []=some (.ok (.bl true),Ω):=fun ns hns=>by
 obtain⟨a,c,d,hc,ra,rc,rd⟩:=jn0 ns;obtain⟨b0,hb0,ok0⟩:=jsv ns ra rc rd;have c0:=w_at (ns:=ns) (k:=0) (by decide) (by decide);have m7:=jp3 (n:=atF ns 0) (p:=7) (by decide) (by decide);have r7:=jy0 (n:=atF ns 0) (p:=7) (by decide) (by decide);have m8:=jp3 (n:=atF ns 0) (p:=8) (by decide) (by decide);have e4:=ja8 (i:=mixF (atF ns 0) 8) (j:=4) (by decide);have x4:=md (i:=mixF (atF ns 0) 8) (j:=4) (by decide);have b7:Bt 32 (mixF (atF ns 0) 7):=jju (m:=2147483587) r7.1 r7.2 (by decide);have b8:Bt 2 (mixF (atF ns 0) 8 % 4):=jju (m:=4) x4.1 x4.2 (by decide);have mm:=jby b7 b8;have bm:=b7.mul b8;generalize mixF (atF ns 0) 7*(mixF (atF ns 0) 8 % 4)=num at mm bm;obtain⟨b,hb1,hb⟩:=jtq ok0 bm;have ec:=jfq b (fe:=jrp) fun a=>rfl
 have ln:=jgo hb
 let s2:List Int:=(List.range (ja4 b).length).map fun i:Nat=>wdF ns (300+(i:Int)) 100000000000000000000000000000
 have sl:(ja4 b).length<=4:=by unfold ja4;rw[zav];exact hb.i4
 have h2:∀ s∈s2,Bt 100 s:=fun s hs=>by
  obtain⟨i,hi,rfl⟩:=List.mem_map.mp hs;have:=zcb.mp hi;exact Nat.lt_trans (jpg (by omega) (by omega) (by decide) (by decide)) (by decide)
 have ec2:=jdq (c:=[some (scr ns)]) (fe:=jnn) (K:=fun o:Nat=>D.int (o:Int)) (F:=fun i=>.int (wdF ns (300+(i:Int)) 100000000000000000000000000000)) (List.range (ja4 b).length) none (fun i hi=>by
  have:=zcb.mp hi;have e2:=jp4 (ns:=ns) (k:=300+(i:Int)) (most:=100000000000000000000000000000) (by omega) (by omega) (by decide) (by decide);have e3:ja5 [scr ns,.int (300+(i:Int)),.int 100000000000000000000000000000]=some (.ok (.int (wdF ns (300+(i:Int)) 100000000000000000000000000000))):=e2;unfold jnn;simp only[stp,p1029,e3])
 rw[<- jpi,show ((List.range (ja4 b).length).map fun i:Nat=>D.int (wdF ns (300+(i:Int)) 100000000000000000000000000000))=s2.map .int from (List.map_map ..).symm] at ec2;have ln2:(s2.map D.int).length<=1000:=by rw[zav,zav,List.length_range];omega
 obtain⟨y5,y6,y7,y8,lp⟩:=jom (ns:=ns) (rbs hb) (jh2 hb) h2 b.rls 0 none none none none none rfl;generalize hdd:((none:Option Str).or ((b.rls.find? fun r=>decide (spF r (ja4 b)<0)).map fun r=>r.nm))=due at lp;have hdu:dD due=dueD b:=by rw[<- hdd];exact jvf b
 have e0:jon [.lst (ns.map .int)] []=MS.b (jqj [some (scr ns),none,none,none,none,none,none,none,none,none]) outE []:=rfl;have k1:∀ Ω δ,jad (fVar 9) fNil δ=some (.ok [bkD b])->jad (fVar 4) fNil δ=some (.ok [dD due])->jdm jck (jlf (jdm jb7 (lF (jad (fVar 9) fNil))) (lF (jad (fVar 4) fNil))) δ Ω=some (.ok (.bl true),(jd1 b Ω).2):=fun Ω δ h9 h4=>by
  have a1:jdm jb7 (lF (jad (fVar 9) fNil)) δ Ω=some (.ok (jd1 b Ω).1,(jd1 b Ω).2):=by
   unfold jdm;rw[MS.b_ok (a:=[bkD b]) (Ω1:=Ω) (lft h9)];exact jtn hb Ω
  have a2:jlf (jdm jb7 (lF (jad (fVar 9) fNil))) (lF (jad (fVar 4) fNil)) δ Ω=some (.ok [(jd1 b Ω).1,dueD b],(jd1 b Ω).2):=by
   unfold jlf;rw[MS.b_ok a1,MS.b_ok (a:=[dueD b]) (Ω1:=(jd1 b Ω).2) (lft (by rw[<- hdu];exact h4))];rfl
  unfold jdm at a2 |-
  rw[MS.b_ok a2];exact jq8 b Ω
 refine⟨(jd1 b (jd1 b []).2).2,?_⟩;rw[e0];refine (MS.b_ok (a:=.rt (.bl true)) (Ω1:=(jd1 b (jd1 b []).2).2) ?_).trans rfl;unfold jqj;rw[eseq (δ':=[some (scr ns),some (bkD b0),none,none,none,none,none,none,none,none]) (Ω':=[]) (lft (jeb 1 (by simp only[stp,hc,hb0])))];rw[eseq (δ':=[some (scr ns),some (bkD b),none,none,none,none,none,none,none,none]) (Ω':=[]) (lft (jeb 1 (by simp only[stp,c0,m7,m8,e4,mm,hb1])))];rw[eseq (δ':=[some (scr ns),some (bkD b),some (stD (ja4 b)),none,none,none,none,none,none,none]) (Ω':=[]) (lft (jeb 2 (by simp only[stp,ix_t,at0,ec,jdt ln];rfl)))];rw[eseq (δ':=[some (scr ns),some (bkD b),some (stD (ja4 b)),some (stD s2),none,none,none,none,none,none]) (Ω':=[]) (lft (jeb 3 (by simp only[stp,zav,Int.toNat_natCast,ec2,jdt ln2];rfl)))];rw[eseq (δ':=s10 ns b (ja4 b) s2 none none none none none) (Ω':=[]) (lft (jeb 4 rfl))];rw[eseq (δ':=s10 ns b (ja4 b) s2 due y5 y6 y7 y8) (Ω':=[]) (lft (by rw[jlv (ds:=jcw 0 (b.rls.map rulD)) (by simp only[stp,ix_t,at1];rfl)];exact lp))];rw[eseq (δ':=[some (scr ns),some (bkD b),some (stD (ja4 b)),some (stD s2),some (dD due),y5,y6,y7,y8,some (bkD b)]) (Ω':=[]) (lft (jeb 9 (by simp only[stp,ix_t,at0,at1,at2];rfl)))];unfold eRet jqv;rw[MS.b_ok (a:=.bl true) (Ω1:=(jd1 b (jd1 b []).2).2) (by
  rw[MS.b_ok (k1 _ _ rfl rfl)];dsimp only;rw[MS.b_ok (k1 _ _ rfl rfl)];dsimp only;exact lft (by simp only[stp,jtb (jyu b) (jvc b)];rfl))]
 rfl
end
end MyLaw
set_option maxRecDepth 100000 in
set_option maxHeartbeats 0 in
theorem PySem.Challenge.cw_apartbook_k12_broken_books_holds : PySem.Challenge.rw_apartbook_k12_broken_books.Holds := by
 w_on;o_law;z_head;(case hw=>w_witness2)
 k_fill
 refine MyLaw.walkZ (l:=PySem.Challenge.rw_apartbook_k12_broken_books) (fun P=>rfl) rfl rfl ?F MyLaw.law_true
 case F =>
  intro w mg fa h KX G hmg
  refine' ⟨?T,hmg⟩
  case T =>
   refine' MyLaw.txt_mk KX G ?ca_BookError ?ca_Broken ?ca_Folded ?ca_NoBook ?ca_NoDeed ?ca_NoLine ?ca_NoName ?ca_NoPaper ?ca_NoRule ?ca_NoText ?ca_NotPlain ?ca_OutOfRange ?ca_ShortShare ?tab ?tab2 ?ni_Folded ?ni_NoBook ?ni_OutOfRange ?a0 ?l0 ?c0 ?k0 ?a1 ?l1 ?c1 ?k1 ?a2 ?l2 ?c2 ?k2 ?a3 ?l3 ?c3 ?k3 ?a4 ?l4 ?c4 ?k4 ?a5 ?l5 ?c5 ?k5 ?a6 ?l6 ?c6 ?k6 ?a7 ?l7 ?c7 ?k7 ?a8 ?l8 ?c8 ?k8 ?a9 ?l9 ?c9 ?k9 ?a10 ?l10 ?c10 ?k10 ?a11 ?l11 ?c11 ?k11 ?a12 ?l12 ?c12 ?k12 ?a13 ?l13 ?c13 ?k13 ?a14 ?l14 ?c14 ?k14 ?a15 ?b15 ?l15 ?c15 ?k15 ?a16 ?l16 ?c16 ?k16 ?a17 ?l17 ?c17 ?k17 ?a18 ?l18 ?c18 ?k18 ?a19 ?l19 ?c19 ?k19 ?a20 ?l20 ?c20 ?k20 ?a21 ?l21 ?c21 ?k21 ?a22 ?l22 ?c22 ?k22 ?a23 ?l23 ?c23 ?k23 ?a24 ?l24 ?c24 ?k24 ?a25 ?l25 ?c25 ?k25 ?a26 ?l26 ?c26 ?k26 ?a27 ?l27 ?c27 ?k27 ?a28 ?l28 ?c28 ?k28 ?y0 ?y1 ?y2 ?y3 ?z0 ?z1 ?z2 ?z3 ?z4 ?z5 ?z6 ?z7 ?z8 ?z9 ?z10 ?z11 ?z12
   (case ca_BookError=>k_is);(case ca_Broken=>k_is);(case ca_Folded=>k_is);(case ca_NoBook=>k_is);(case ca_NoDeed=>k_is);(case ca_NoLine=>k_is);(case ca_NoName=>k_is);(case ca_NoPaper=>k_is)
   (case ca_NoRule=>k_is);(case ca_NoText=>k_is);(case ca_NotPlain=>k_is);(case ca_OutOfRange=>k_is);(case ca_ShortShare=>k_is);(case tab=>kernel_rfl);(case tab2=>kernel_rfl);(case ni_Folded=>kernel_rfl)
   (case ni_NoBook=>kernel_rfl);(case ni_OutOfRange=>kernel_rfl);(case a0=>k_is);(case l0=>k_is);(case c0=>k_is);(case k0=>k_is);(case a1=>k_is);(case l1=>k_is)
   (case c1=>k_is);(case k1=>k_is);(case a2=>k_is);(case l2=>k_is);(case c2=>k_is);(case k2=>k_is);(case a3=>k_is);(case l3=>k_is)
   (case c3=>k_is);(case k3=>k_is);(case a4=>k_is);(case l4=>k_is);(case c4=>k_is);(case k4=>k_is);(case a5=>k_is);(case l5=>k_is)
   (case c5=>k_is);(case k5=>k_is);(case a6=>k_is);(case l6=>k_is);(case c6=>k_is);(case k6=>k_is);(case a7=>k_is);(case l7=>k_is)
   (case c7=>k_is);(case k7=>k_is);(case a8=>k_is);(case l8=>k_is);(case c8=>k_is);(case k8=>k_is);(case a9=>k_is);(case l9=>k_is)
   (case c9=>k_is);(case k9=>k_is);(case a10=>k_is);(case l10=>k_is);(case c10=>k_is);(case k10=>k_is);(case a11=>k_is);(case l11=>k_is)
   (case c11=>k_is);(case k11=>k_is);(case a12=>k_is);(case l12=>k_is);(case c12=>k_is);(case k12=>k_is);(case a13=>k_is);(case l13=>k_is)
   (case c13=>k_is);(case k13=>k_is);(case a14=>k_is);(case l14=>k_is);(case c14=>k_is);(case k14=>k_is);(case a15=>k_is);(case b15=>k_is)
   (case l15=>k_is);(case c15=>k_is);(case k15=>k_is);(case a16=>k_is);(case l16=>k_is);(case c16=>k_is);(case k16=>k_is);(case a17=>k_is)
   (case l17=>k_is);(case c17=>k_is);(case k17=>k_is);(case a18=>k_is);(case l18=>k_is);(case c18=>k_is);(case k18=>k_is);(case a19=>k_is)
   (case l19=>k_is);(case c19=>k_is);(case k19=>k_is);(case a20=>k_is);(case l20=>k_is);(case c20=>k_is);(case k20=>k_is);(case a21=>k_is)
   (case l21=>k_is);(case c21=>k_is);(case k21=>k_is);(case a22=>k_is);(case l22=>k_is);(case c22=>k_is);(case k22=>k_is);(case a23=>k_is)
   (case l23=>k_is);(case c23=>k_is);(case k23=>k_is);(case a24=>k_is);(case l24=>k_is);(case c24=>k_is);(case k24=>k_is);(case a25=>k_is)
   (case l25=>k_is);(case c25=>k_is);(case k25=>k_is);(case a26=>k_is);(case l26=>k_is);(case c26=>k_is);(case k26=>k_is);(case a27=>k_is)
   (case l27=>k_is);(case c27=>k_is);(case k27=>k_is);(case a28=>k_is);(case l28=>k_is);(case c28=>k_is);(case k28=>k_is);(case y0=>k_is)
   (case y1=>k_is);(case y2=>k_is);(case y3=>k_is);(case z0=>k_is);(case z1=>k_is);(case z2=>k_is);(case z3=>k_is);(case z4=>k_is)
   (case z5=>k_is);(case z6=>k_is);(case z7=>k_is);(case z8=>k_is);(case z9=>k_is);(case z10=>k_is);(case z11=>k_is);(case z12=>k_is)