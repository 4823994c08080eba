
import Derived.Test.YtapfankgdkdkgaaGreatDoorMk19
import Derived.Test.YtapfankgdkdkgaaGreatDoorMk20
namespace Go.Proofs.YtapfankgdkdkgaaGreatDoor.AM
open Go.RowKit
set_option linter.unusedVariables false
set_option maxRecDepth 20000
def qwp (n:Nat):List LC:=[]
def q2u (n:Nat) (a1:List UInt8):Option (((List UInt8)×((List UInt8)×((List (List UInt8×((Int)×((Int)×((Int)×(List UInt8×List UInt8))))))×((List (List UInt8×List UInt8))×((List (List UInt8×((Int)×((Int)×((Int)×(List UInt8×List UInt8))))))×(List ((Int)×((Int)×((Int)×(List UInt8×(List UInt8×((Int)×((Int)×((Int)×(List UInt8×List UInt8)))))))))))))))×(Int×(Int))) :=
 qq0 (qcu n a1) (fun (r1:(Unit×(IV))×(((List UInt8)×((List UInt8)×(Unit×(Unit×(Unit×(Unit×(Int×(Int×((List UInt8)×(Unit×Unit))))))))))×((List (List UInt8×(List (List UInt8)×((Bool)×(IV)))))×((List ((List UInt8×(List UInt8×((Int)×((Int)×((Int)×(List UInt8×List UInt8))))))×((Int)×(Int))))×Unit)))×((List (List UInt8×((Int)×((Int)×((Int)×(List UInt8×List UInt8))))))×((List (List UInt8×List UInt8))×((List (List UInt8×((Int)×((Int)×((Int)×(List UInt8×List UInt8))))))×((List ((Int)×((Int)×((Int)×(List UInt8×(List UInt8×((Int)×((Int)×((Int)×(List UInt8×List UInt8))))))))))×Unit)))))=>(q42 (Subtype.val r1.1.2)).bind fun (hb2:Bool)=>(bif !hb2 then (qxq r1.1.2).bind fun (r3:Int×(Int))=>some ((([]:List UInt8),(([]:List UInt8),([],([],([],[]))))),r3) else some ((r1.2.1.1.1,(r1.2.1.1.2.1,(r1.2.2.1,(r1.2.2.2.1,(r1.2.2.2.2.1,r1.2.2.2.2.2.1))))),(r1.2.1.1.2.2.2.2.2.2.1,(0:Int))))) ((qgt n a1).bind fun r4=>(q42 (Subtype.val r4.2)).bind fun (hb5:Bool)=>(bif !hb5 then (qxq r4.2).bind fun (r6:Int×(Int))=>some ((([]:List UInt8),(([]:List UInt8),([],([],([],[]))))),r6) else none))
def q6p (n:Nat):FC:={ f:=16,args:=[.one (.c (.d .str))],res:=.tup [.agg [.d .str,.d .str,.d (.lst (.prod .str (.prod (.int .i64) (.prod (.int .i64) (.prod (.int .i64) (.prod .str .str)))))),.d (.lst (.prod .str .str)),.d (.lst (.prod .str (.prod (.int .i64) (.prod (.int .i64) (.prod (.int .i64) (.prod .str .str)))))),.d (.lst (.prod (.int .i64) (.prod (.int .i64) (.prod (.int .i64) (.prod .str (.prod .str (.prod (.int .i64) (.prod (.int .i64) (.prod (.int .i64) (.prod .str .str))))))))))],.c (.d (.int .i64)),.c (.d (.int .i64))],F:=fun p=>q2u n p }
def j64 (n:Nat):List FC:=[jb3 (q2j n) [] [(44,11),(1044,1011),(2044,2011),(3044,3011)] [(29,11),(26,1011),(27,2011)],jcb,q8z n]
theorem j9p (n:Nat) {G:World->Prop} (hG:Know Inv G) : ∀c∈j64 n,q17 Tryz.prog G c/\q0b c.args=true:=List.forall_mem_cons.2 ⟨jbw (quu n G hG),List.forall_mem_cons.2 ⟨jrc G hG,List.forall_mem_cons.2 ⟨j5v n G hG,(fun _ h=>by cases h)⟩⟩⟩
def j1x:q0a:=[(5,[⟨28334198897235051184128,2^72,0⟩,⟨13469017440257*2^34,2^75,1⟩,⟨107752139522049*2^34,2^78,3⟩,⟨862017116176385*2^34,2^81,7⟩,⟨116056878683004417951694848,2^84,0⟩,⟨55169095435288577*2^34,2^87,16⟩,⟨441352763482308609*2^34,2^90,48⟩,⟨3530822107858468865*2^34,2^93,112⟩,⟨63975078001172785699595083761656459625154462486552420152755668189454205310145231665361909728988203846127464659584632570591882863147988612686098388825205459952577415643361923577194176540294441230030204330554816361762580036855539214046979042325413363925334353010373052454148503153882388735634505632984823914257227860927385419819545690843044525663354377814301668391133744615720844253665637376428345383085805882352021463613448566615853155714661322016337867450806562938145655069565680061966678409365314206017397805514718192935986593406391324337309512466383195727130788302946512340244429621911298897954896825665961532052337379856960518872276773097627748011167723302515212826264489956188759331178405026965916060520460010675700491799418752566584212753114833955042623952495244446606691991286833485170775938613069576516635512464114091057369147037248478858510924793020482280934356656627542436445151545759530299686486874566919193340452192166397152647131286179499825736482847408367404442387092685458094123574769780442370636570635186748030706898742036218878368049810931042713657238527157684785650646588984110156142607753344014264965311306895995445871126701092255179379452262992958430755870350944801606234644772930007415765758727811336074316555096701945325116458828129664619723992579897789605312484334322215157666843607578793756371580130920214739434093409529372723099281400835550219551118344498052710376393548457573821733829868970366279183608651366990059185723245772591829078895289395480089452627631551848570139613168342000649128549142914647579858599058426593711659660114293554671553345697623569953373402756383904396699819934755063209258219985046632890132163094516253799540889779712458662518126035170975059443979520809580398357678880052443106687024664064053298265031552090599964126695733730172391253125913919661980921284841465816997953139127005393825708689362230605955623354801402692345866845887237289181488062488781954609689126408130295766596393869390434411592695853114403934956877843818801462825714440271603816339076012480983577321878710139385107146932348864306974253321189501249421224461187792674631231308095129495683639475398606215788535894605407471870420883857091208036746525653757999344034426463921356486661732436055374422719246551646470150051551038948545812619424376099243902843857446806039479306179861353096289952016886050986935705636897246065879281119692154342240075006643032671968842572441423024216979651629730437770184092748500658724415741277097505364551909406178898760450852224071881519788310640830300635308982002732587773381496087038957290339791930679123606405727191795367237488684160822662807581390954065273399160134750470192531808209176994051395371460370223618158210615140839448487454387038131805806747260304611107406016,128,15⟩,⟨9903520314283042199192996864,512,511⟩,⟨24576,4096,1023⟩])]
theorem jhm:drB j1x (q00 Tryz.f16)=true:=by kernel_rfl
theorem jjj (n:Nat) : ∀a,(q6p n).F a=main Tryz.prog 32 (j64 n) (qwp n) j1x (q00 Tryz.f16) [.cell 2 35,.tmp 3,.tmp 4] (q6p n).args (q6p n).res a:=by intro a;kernel_rfl
theorem qsu (n:Nat):q0d Inv Tryz.prog (q6p n):=fun G hG=>⟨⟨by kernel_rfl,fun a r h=>q04 (c:=q00 Tryz.f16) Tryz.func16 (by kernel_rfl) (by kernel_rfl) (Nat.le_of_ble_eq_true (by kernel_rfl)) hG.st (by kernel_rfl) (rs:=[.cell 2 35,.tmp 3,.tmp 4]) (by kernel_rfl) (j9p n hG) (lts:=qwp n) (fun F hF hFG=>have hK:Know Inv F.G:=hFG ▸ hG;(q02 fun j L h1 h2 h3=>absurd h2 (Nat.not_lt.2 (Nat.le_trans (by decide +kernel) h1)))) jhm ((jjj n a).symm.trans h)⟩,rfl⟩
def qx6 (n:Nat):List LC:=[]
def qdp (n:Nat) (a1:List UInt8) (a2:List UInt8):Option (Int×(Int×(Bool))) :=
 qq0 (qcu n a1) (fun (r1:(Unit×(IV))×(((List UInt8)×((List UInt8)×(Unit×(Unit×(Unit×(Unit×(Int×(Int×((List UInt8)×(Unit×Unit))))))))))×((List (List UInt8×(List (List UInt8)×((Bool)×(IV)))))×((List ((List UInt8×(List UInt8×((Int)×((Int)×((Int)×(List UInt8×List UInt8))))))×((Int)×(Int))))×Unit)))×((List (List UInt8×((Int)×((Int)×((Int)×(List UInt8×List UInt8))))))×((List (List UInt8×List UInt8))×((List (List UInt8×((Int)×((Int)×((Int)×(List UInt8×List UInt8))))))×((List ((Int)×((Int)×((Int)×(List UInt8×(List UInt8×((Int)×((Int)×((Int)×(List UInt8×List UInt8))))))))))×Unit)))))=>(q42 (Subtype.val r1.1.2)).bind fun (hb2:Bool)=>(bif !hb2 then some ((0:Int),((0:Int),false)) else jf0 (q0c (.prod .str (.prod .str (.prod (.int .i64) (.prod (.int .i64) (.prod (.int .i64) (.prod .str .str)))))) (([114,101,113,117,105,114,101]:List UInt8),(a2,((0:Int),((0:Int),((0:Int),(([]:List UInt8),([]:List UInt8))))))) r1.2.1.2.2.1) ((0:Int),(0:Int)) fun (y3:(Int)×(Int)) (hb4:Bool)=>some (y3.1,(y3.2,hb4)))) ((qgt n a1).bind fun r5=>(q42 (Subtype.val r5.2)).bind fun (hb6:Bool)=>(bif !hb6 then some ((0:Int),((0:Int),false)) else none))
def q8k (n:Nat):FC:={ f:=19,args:=[.one (.c (.d .str)),.one (.c (.d .str))],res:=.tup [.c (.d (.int .i64)),.c (.d (.int .i64)),.c (.d .bool)],F:=fun p=>qdp n p.1 p.2 }
def j1u (n:Nat):List FC:=[jb3 (q2j n) [] [(44,13),(1044,1013),(2044,2013),(3044,3013)] [(29,13),(26,1013),(27,2013)],q8z n]
theorem j85 (n:Nat) {G:World->Prop} (hG:Know Inv G) : ∀c∈j1u n,q17 Tryz.prog G c/\q0b c.args=true:=List.forall_mem_cons.2 ⟨jbw (quu n G hG),List.forall_mem_cons.2 ⟨j5v n G hG,(fun _ h=>by cases h)⟩⟩
def j4s:q0a:=[(5,[⟨864691128455135235*2^27,2^84,0⟩,⟨3530822107858468865*2^28,2^87,1⟩,⟨55340232221128654851*2^27,2^90,0⟩,⟨225972614902942007297*2^28,2^93,4⟩,⟨442721857769029238785*2^30,2^96,0⟩,⟨154742504910672534362415104,4096,3⟩,⟨9903520314283042199193190400,32768,47⟩,⟨79228162514264337593545523200,2^18,127⟩])]
theorem jli:drB j4s (q00 Tryz.f19)=true:=by kernel_rfl
theorem jjy (n:Nat) : ∀a,(q8k n).F a=main Tryz.prog 33 (j1u n) (qx6 n) j4s (q00 Tryz.f19) [.tmp 4,.tmp 5,.tmp 6] (q8k n).args (q8k n).res a:=by intro a;kernel_rfl
theorem j51 (n:Nat):q0d Inv Tryz.prog (q8k n):=fun G hG=>⟨⟨by kernel_rfl,fun a r h=>q04 (c:=q00 Tryz.f19) Tryz.func19 (by kernel_rfl) (by kernel_rfl) (Nat.le_of_ble_eq_true (by kernel_rfl)) hG.st (by kernel_rfl) (rs:=[.tmp 4,.tmp 5,.tmp 6]) (by kernel_rfl) (j85 n hG) (lts:=qx6 n) (fun F hF hFG=>have hK:Know Inv F.G:=hFG ▸ hG;(q02 fun j L h1 h2 h3=>absurd h2 (Nat.not_lt.2 (Nat.le_trans (by decide +kernel) h1)))) jli ((jjy n a).symm.trans h)⟩,rfl⟩
def j2z (n:Nat):List LC:=[]
def q3f (n:Nat) (a1:List (List UInt8)):Option (List UInt8) :=
 (q7e a1 ([32]:List UInt8)).bind fun (r1:List UInt8)=>(qc4 r1 ([10]:List UInt8)).bind fun s2=>some s2
def qgx (n:Nat):FC:={ f:=59,args:=[.one (.c (.d (.lst .str)))],res:=.one (.c (.d .str)),F:=fun p=>q3f n p }
def je9 (n:Nat):List FC:=[qxf]
theorem jfg (n:Nat) {G:World->Prop} (hG:Know Inv G) : ∀c∈je9 n,q17 Tryz.prog G c/\q0b c.args=true:=List.forall_mem_cons.2 ⟨j8k G hG,(fun _ h=>by cases h)⟩
def jaz:q0a:=[]
theorem jre:drB jaz (q00 Tryz.f59)=true:=by kernel_rfl
theorem jro (n:Nat) : ∀a,(qgx n).F a=main Tryz.prog 6 (je9 n) (j2z n) jaz (q00 Tryz.f59) [.tmp 2] (qgx n).args (qgx n).res a:=by intro a;kernel_rfl
theorem jqd (n:Nat):q0d Inv Tryz.prog (qgx n):=fun G hG=>⟨⟨by kernel_rfl,fun a r h=>q04 (c:=q00 Tryz.f59) Tryz.func59 (by kernel_rfl) (by kernel_rfl) (Nat.le_of_ble_eq_true (by kernel_rfl)) hG.st (by kernel_rfl) (rs:=[.tmp 2]) (by kernel_rfl) (jfg n hG) (lts:=j2z n) (fun F hF hFG=>have hK:Know Inv F.G:=hFG ▸ hG;(q02 fun j L h1 h2 h3=>absurd h2 (Nat.not_lt.2 (Nat.le_trans (by decide +kernel) h1)))) jre ((jro n a).symm.trans h)⟩,rfl⟩
def qur (n:Nat):List LC:=[]
def qmp (n:Nat) (a1:Int×(Int×(Int×((List UInt8)×((List UInt8)×(Int×(Int×(Int×((List UInt8)×List UInt8))))))))):Option (List UInt8) :=
 (bif (decide (a1.1=a1.2.2.2.2.2.1)&&(decide (a1.2.1=a1.2.2.2.2.2.2.1)&&(decide (a1.2.2.1=a1.2.2.2.2.2.2.2.1)&&(decide (a1.2.2.2.1=a1.2.2.2.2.2.2.2.2.1)&&(decide (a1.2.2.2.2.1=a1.2.2.2.2.2.2.2.2.2)&&true))))) then (q6w n (a1.1,(a1.2.1,(a1.2.2.1,(a1.2.2.2.1,a1.2.2.2.2.1))))).bind fun r1=>some r1 else (q6w n (a1.1,(a1.2.1,(a1.2.2.1,(a1.2.2.2.1,a1.2.2.2.2.1))))).bind fun r2=>(qc4 ([91]:List UInt8) r2).bind fun s3=>(qc4 s3 ([44,32]:List UInt8)).bind fun s4=>(q6w n a1.2.2.2.2.2).bind fun r5=>(qc4 s4 r5).bind fun s6=>(qc4 s6 ([93]:List UInt8)).bind fun s7=>some s7)
def qb5 (n:Nat):FC:={ f:=60,args:=[.one (.agg [.d (.int .i64),.d (.int .i64),.d (.int .i64),.d .str,.d .str,.d (.int .i64),.d (.int .i64),.d (.int .i64),.d .str,.d .str])],res:=.one (.c (.d .str)),F:=fun p=>qmp n p }
def j3k (n:Nat):List FC:=[q9s n]
theorem j9h (n:Nat) {G:World->Prop} (hG:Know Inv G) : ∀c∈j3k n,q17 Tryz.prog G c/\q0b c.args=true:=List.forall_mem_cons.2 ⟨qy8 n G hG,(fun _ h=>by cases h)⟩
def j5u:q0a:=[(3,[⟨51539607576,2^33,0⟩,⟨420906795024,2^36,1⟩,⟨49*2^36,2^39,3⟩,⟨49*2^39,2^42,7⟩,⟨49*2^42,2^45,15⟩,⟨1688849860263960,2^48,0⟩,⟨13792273858822160,2^51,32⟩,⟨49*2^51,2^54,103⟩,⟨25089*2^45,2^57,255⟩,⟨49*2^57,2^60,511⟩,⟨1152921504606847360,64,1023⟩]),(1000003,[])]
theorem jjc:drB j5u (q00 Tryz.f60)=true:=by kernel_rfl
theorem jln (n:Nat) : ∀a,(qb5 n).F a=main Tryz.prog 21 (j3k n) (qur n) j5u (q00 Tryz.f60) [.tmp 2] (qb5 n).args (qb5 n).res a:=by intro a;kernel_rfl
theorem jip (n:Nat):q0d Inv Tryz.prog (qb5 n):=fun G hG=>⟨⟨by kernel_rfl,fun a r h=>q04 (c:=q00 Tryz.f60) Tryz.func60 (by kernel_rfl) (by kernel_rfl) (Nat.le_of_ble_eq_true (by kernel_rfl)) hG.st (by kernel_rfl) (rs:=[.tmp 2]) (by kernel_rfl) (j9h n hG) (lts:=qur n) (fun F hF hFG=>have hK:Know Inv F.G:=hFG ▸ hG;(q02 fun j L h1 h2 h3=>absurd h2 (Nat.not_lt.2 (Nat.le_trans (by decide +kernel) h1)))) jjc ((jln n a).symm.trans h)⟩,rfl⟩
@[reducible] def qnp:SSt:=⟨[(3,.one (.c (.row 16))),(81,.one (.c (.d (.lst (.prod (.int .i64) (.prod (.int .i64) (.prod (.int .i64) (.prod .str (.prod .str (.prod (.int .i64) (.prod (.int .i64) (.prod (.int .i64) (.prod .str .str))))))))))))),(82,.one (.c (.d (.int .i64)))),(83,.one (.c (.d (.int .i64))))],[],[(16,⟨9,false,.str⟩)]⟩
@[reducible] def qcd:List (Exit×SSt):=[(.exit 6,⟨[(3,.one (.c (.row 16)))],[],[(16,⟨9,false,.str⟩)]⟩)]
def j70 (n:Nat) (rec:(List ((Int)×((Int)×((Int)×(List UInt8×(List UInt8×((Int)×((Int)×((Int)×(List UInt8×List UInt8))))))))))->Int->Int->(List (List UInt8))->Option ((Unit×Unit)×Unit×((List (List UInt8))×Unit))) (a1:List ((Int)×((Int)×((Int)×(List UInt8×(List UInt8×((Int)×((Int)×((Int)×(List UInt8×List UInt8)))))))))) (a2:Int) (a3:Int) (a4:List (List UInt8)):Option ((Unit×Unit)×Unit×((List (List UInt8))×Unit)) :=
 (bif decide (a3<a2) then (q1b a1 a3).bind fun x21=>(qmp n x21).bind fun r22=>(q3f n ([([114,101,116,114,97,99,116]:List UInt8),r22]:List (List UInt8))).bind fun r23=>(q3e 16 a4 ([r23]:List (List UInt8))).bind fun l24=>q08 (IntKind.wrap .i64 (a3+1)) fun n25=>rec a1 a2 n25 l24 else some ((((),()),((),(a4,())))))
def j7h (n:Nat) (rec:pSt qnp->Option (q0e qcd)) (p:pSt qnp):Option (q0e qcd):=j70 n (fun a1 a2 a3 a4=>rec (((),(a1,(a2,(a3,())))),((),(a4,())))) p.1.2.1 p.1.2.2.1 p.1.2.2.2.1 p.2.2.1
def q64 (n m:Nat) (a1:List ((Int)×((Int)×((Int)×(List UInt8×(List UInt8×((Int)×((Int)×((Int)×(List UInt8×List UInt8)))))))))) (a2:Int) (a3:Int) (a4:List (List UInt8)):Option ((Unit×Unit)×Unit×((List (List UInt8))×Unit)):=q0g (j7h n) m (((),(a1,(a2,(a3,())))),((),(a4,())))
theorem qot (n m:Nat) (a1 a2 a3 a4):q64 n (m+1) a1 a2 a3 a4=j70 n (fun a1 a2 a3 a4=>q64 n m a1 a2 a3 a4) a1 a2 a3 a4:=rfl
def jiq (n:Nat):LC:={ sh:=qnp,outs:=qcd,F:=q0g (j7h n) n }
@[reducible] def qnu:SSt:=⟨[(1,.one (.c (.box 1 0))),(3,.one (.c (.row 16))),(63,.one (.c (.d (.lst (.prod .str (.prod (.int .i64) (.prod (.int .i64) (.prod (.int .i64) (.prod .str .str))))))))),(64,.one (.c (.d (.int .i64)))),(65,.one (.c (.d (.int .i64))))],[(1,(35,[.d .str,.d .str,.d (.lst (.prod .str (.prod (.int .i64) (.prod (.int .i64) (.prod (.int .i64) (.prod .str .str)))))),.d (.lst (.prod .str .str)),.d (.lst (.prod .str (.prod (.int .i64) (.prod (.int .i64) (.prod (.int .i64) (.prod .str .str)))))),.d (.lst (.prod (.int .i64) (.prod (.int .i64) (.prod (.int .i64) (.prod .str (.prod .str (.prod (.int .i64) (.prod (.int .i64) (.prod (.int .i64) (.prod .str .str))))))))))]))],[(16,⟨9,false,.str⟩)]⟩
@[reducible] def qcp:List (Exit×SSt):=[(.exit 4,⟨[(1,.one (.c (.box 1 0))),(3,.one (.c (.row 16)))],[(1,(35,[.d .str,.d .str,.d (.lst (.prod .str (.prod (.int .i64) (.prod (.int .i64) (.prod (.int .i64) (.prod .str .str)))))),.d (.lst (.prod .str .str)),.d (.lst (.prod .str (.prod (.int .i64) (.prod (.int .i64) (.prod (.int .i64) (.prod .str .str)))))),.d (.lst (.prod (.int .i64) (.prod (.int .i64) (.prod (.int .i64) (.prod .str (.prod .str (.prod (.int .i64) (.prod (.int .i64) (.prod (.int .i64) (.prod .str .str))))))))))]))],[(16,⟨9,false,.str⟩)]⟩)]
def j9i (n:Nat) (rec:(List (List UInt8×((Int)×((Int)×((Int)×(List UInt8×List UInt8))))))->Int->Int->(List UInt8)->(List UInt8)->(List (List UInt8×((Int)×((Int)×((Int)×(List UInt8×List UInt8))))))->(List (List UInt8×List UInt8))->(List (List UInt8×((Int)×((Int)×((Int)×(List UInt8×List UInt8))))))->(List ((Int)×((Int)×((Int)×(List UInt8×(List UInt8×((Int)×((Int)×((Int)×(List UInt8×List UInt8))))))))))->(List (List UInt8))->Option ((Unit×(Unit×Unit))×(((List UInt8)×((List UInt8)×((List (List UInt8×((Int)×((Int)×((Int)×(List UInt8×List UInt8))))))×((List (List UInt8×List UInt8))×((List (List UInt8×((Int)×((Int)×((Int)×(List UInt8×List UInt8))))))×(List ((Int)×((Int)×((Int)×(List UInt8×(List UInt8×((Int)×((Int)×((Int)×(List UInt8×List UInt8)))))))))))))))×Unit)×((List (List UInt8))×Unit))) (a1:List (List UInt8×((Int)×((Int)×((Int)×(List UInt8×List UInt8)))))) (a2:Int) (a3:Int) (a4:List UInt8) (a5:List UInt8) (a6:List (List UInt8×((Int)×((Int)×((Int)×(List UInt8×List UInt8)))))) (a7:List (List UInt8×List UInt8)) (a8:List (List UInt8×((Int)×((Int)×((Int)×(List UInt8×List UInt8)))))) (a9:List ((Int)×((Int)×((Int)×(List UInt8×(List UInt8×((Int)×((Int)×((Int)×(List UInt8×List UInt8)))))))))) (a10:List (List UInt8)):Option ((Unit×(Unit×Unit))×(((List UInt8)×((List UInt8)×((List (List UInt8×((Int)×((Int)×((Int)×(List UInt8×List UInt8))))))×((List (List UInt8×List UInt8))×((List (List UInt8×((Int)×((Int)×((Int)×(List UInt8×List UInt8))))))×(List ((Int)×((Int)×((Int)×(List UInt8×(List UInt8×((Int)×((Int)×((Int)×(List UInt8×List UInt8)))))))))))))))×Unit)×((List (List UInt8))×Unit)) :=
 (bif decide (a3<a2) then (q1b a1 a3).bind fun x15=>(q6w n x15.2).bind fun r16=>(q3f n ([([101,120,99,108,117,100,101]:List UInt8),x15.1,r16]:List (List UInt8))).bind fun r17=>(q3e 16 a10 ([r17]:List (List UInt8))).bind fun l18=>q08 (IntKind.wrap .i64 (a3+1)) fun n19=>rec a1 a2 n19 a4 a5 a6 a7 a8 a9 l18 else some ((((),((),())),(((a4,(a5,(a6,(a7,(a8,a9))))),()),(a10,())))))
def j96 (n:Nat) (rec:pSt qnu->Option (q0e qcp)) (p:pSt qnu):Option (q0e qcp):=j9i n (fun a1 a2 a3 a4 a5 a6 a7 a8 a9 a10=>rec (((),((),(a1,(a2,(a3,()))))),(((a4,(a5,(a6,(a7,(a8,a9))))),()),(a10,())))) p.1.2.2.1 p.1.2.2.2.1 p.1.2.2.2.2.1 p.2.1.1.1 p.2.1.1.2.1 p.2.1.1.2.2.1 p.2.1.1.2.2.2.1 p.2.1.1.2.2.2.2.1 p.2.1.1.2.2.2.2.2 p.2.2.1
def q61 (n m:Nat) (a1:List (List UInt8×((Int)×((Int)×((Int)×(List UInt8×List UInt8)))))) (a2:Int) (a3:Int) (a4:List UInt8) (a5:List UInt8) (a6:List (List UInt8×((Int)×((Int)×((Int)×(List UInt8×List UInt8)))))) (a7:List (List UInt8×List UInt8)) (a8:List (List UInt8×((Int)×((Int)×((Int)×(List UInt8×List UInt8)))))) (a9:List ((Int)×((Int)×((Int)×(List UInt8×(List UInt8×((Int)×((Int)×((Int)×(List UInt8×List UInt8)))))))))) (a10:List (List UInt8)):Option ((Unit×(Unit×Unit))×(((List UInt8)×((List UInt8)×((List (List UInt8×((Int)×((Int)×((Int)×(List UInt8×List UInt8))))))×((List (List UInt8×List UInt8))×((List (List UInt8×((Int)×((Int)×((Int)×(List UInt8×List UInt8))))))×(List ((Int)×((Int)×((Int)×(List UInt8×(List UInt8×((Int)×((Int)×((Int)×(List UInt8×List UInt8)))))))))))))))×Unit)×((List (List UInt8))×Unit)):=q0g (j96 n) m (((),((),(a1,(a2,(a3,()))))),(((a4,(a5,(a6,(a7,(a8,a9))))),()),(a10,())))
theorem qo3 (n m:Nat) (a1 a2 a3 a4 a5 a6 a7 a8 a9 a10):q61 n (m+1) a1 a2 a3 a4 a5 a6 a7 a8 a9 a10=j9i n (fun a1 a2 a3 a4 a5 a6 a7 a8 a9 a10=>q61 n m a1 a2 a3 a4 a5 a6 a7 a8 a9 a10) a1 a2 a3 a4 a5 a6 a7 a8 a9 a10:=rfl
def jk9 (n:Nat):LC:={ sh:=qnu,outs:=qcp,F:=q0g (j96 n) n }
@[reducible] def qn3:SSt:=⟨[(1,.one (.c (.box 1 0))),(3,.one (.c (.row 16))),(46,.one (.c (.d (.lst (.prod .str .str))))),(47,.one (.c (.d (.int .i64)))),(48,.one (.c (.d (.int .i64))))],[(1,(35,[.d .str,.d .str,.d (.lst (.prod .str (.prod (.int .i64) (.prod (.int .i64) (.prod (.int .i64) (.prod .str .str)))))),.d (.lst (.prod .str .str)),.d (.lst (.prod .str (.prod (.int .i64) (.prod (.int .i64) (.prod (.int .i64) (.prod .str .str)))))),.d (.lst (.prod (.int .i64) (.prod (.int .i64) (.prod (.int .i64) (.prod .str (.prod .str (.prod (.int .i64) (.prod (.int .i64) (.prod (.int .i64) (.prod .str .str))))))))))]))],[(16,⟨9,false,.str⟩)]⟩
@[reducible] def qdk:List (Exit×SSt):=[(.exit 2,⟨[(1,.one (.c (.box 1 0))),(3,.one (.c (.row 16)))],[(1,(35,[.d .str,.d .str,.d (.lst (.prod .str (.prod (.int .i64) (.prod (.int .i64) (.prod (.int .i64) (.prod .str .str)))))),.d (.lst (.prod .str .str)),.d (.lst (.prod .str (.prod (.int .i64) (.prod (.int .i64) (.prod (.int .i64) (.prod .str .str)))))),.d (.lst (.prod (.int .i64) (.prod (.int .i64) (.prod (.int .i64) (.prod .str (.prod .str (.prod (.int .i64) (.prod (.int .i64) (.prod (.int .i64) (.prod .str .str))))))))))]))],[(16,⟨9,false,.str⟩)]⟩)]
def j7q (n:Nat) (rec:(List (List UInt8×List UInt8))->Int->Int->(List UInt8)->(List UInt8)->(List (List UInt8×((Int)×((Int)×((Int)×(List UInt8×List UInt8))))))->(List (List UInt8×List UInt8))->(List (List UInt8×((Int)×((Int)×((Int)×(List UInt8×List UInt8))))))->(List ((Int)×((Int)×((Int)×(List UInt8×(List UInt8×((Int)×((Int)×((Int)×(List UInt8×List UInt8))))))))))->(List (List UInt8))->Option ((Unit×(Unit×Unit))×(((List UInt8)×((List UInt8)×((List (List UInt8×((Int)×((Int)×((Int)×(List UInt8×List UInt8))))))×((List (List UInt8×List UInt8))×((List (List UInt8×((Int)×((Int)×((Int)×(List UInt8×List UInt8))))))×(List ((Int)×((Int)×((Int)×(List UInt8×(List UInt8×((Int)×((Int)×((Int)×(List UInt8×List UInt8)))))))))))))))×Unit)×((List (List UInt8))×Unit))) (a1:List (List UInt8×List UInt8)) (a2:Int) (a3:Int) (a4:List UInt8) (a5:List UInt8) (a6:List (List UInt8×((Int)×((Int)×((Int)×(List UInt8×List UInt8)))))) (a7:List (List UInt8×List UInt8)) (a8:List (List UInt8×((Int)×((Int)×((Int)×(List UInt8×List UInt8)))))) (a9:List ((Int)×((Int)×((Int)×(List UInt8×(List UInt8×((Int)×((Int)×((Int)×(List UInt8×List UInt8)))))))))) (a10:List (List UInt8)):Option ((Unit×(Unit×Unit))×(((List UInt8)×((List UInt8)×((List (List UInt8×((Int)×((Int)×((Int)×(List UInt8×List UInt8))))))×((List (List UInt8×List UInt8))×((List (List UInt8×((Int)×((Int)×((Int)×(List UInt8×List UInt8))))))×(List ((Int)×((Int)×((Int)×(List UInt8×(List UInt8×((Int)×((Int)×((Int)×(List UInt8×List UInt8)))))))))))))))×Unit)×((List (List UInt8))×Unit)) :=
 (bif decide (a3<a2) then (q1b a1 a3).bind fun x10=>(q3f n ([([114,101,112,108,97,99,101]:List UInt8),x10.1,([61,62]:List UInt8),x10.2]:List (List UInt8))).bind fun r11=>(q3e 16 a10 ([r11]:List (List UInt8))).bind fun l12=>q08 (IntKind.wrap .i64 (a3+1)) fun n13=>rec a1 a2 n13 a4 a5 a6 a7 a8 a9 l12 else some ((((),((),())),(((a4,(a5,(a6,(a7,(a8,a9))))),()),(a10,())))))
def j87 (n:Nat) (rec:pSt qn3->Option (q0e qdk)) (p:pSt qn3):Option (q0e qdk):=j7q n (fun a1 a2 a3 a4 a5 a6 a7 a8 a9 a10=>rec (((),((),(a1,(a2,(a3,()))))),(((a4,(a5,(a6,(a7,(a8,a9))))),()),(a10,())))) p.1.2.2.1 p.1.2.2.2.1 p.1.2.2.2.2.1 p.2.1.1.1 p.2.1.1.2.1 p.2.1.1.2.2.1 p.2.1.1.2.2.2.1 p.2.1.1.2.2.2.2.1 p.2.1.1.2.2.2.2.2 p.2.2.1
def q66 (n m:Nat) (a1:List (List UInt8×List UInt8)) (a2:Int) (a3:Int) (a4:List UInt8) (a5:List UInt8) (a6:List (List UInt8×((Int)×((Int)×((Int)×(List UInt8×List UInt8)))))) (a7:List (List UInt8×List UInt8)) (a8:List (List UInt8×((Int)×((Int)×((Int)×(List UInt8×List UInt8)))))) (a9:List ((Int)×((Int)×((Int)×(List UInt8×(List UInt8×((Int)×((Int)×((Int)×(List UInt8×List UInt8)))))))))) (a10:List (List UInt8)):Option ((Unit×(Unit×Unit))×(((List UInt8)×((List UInt8)×((List (List UInt8×((Int)×((Int)×((Int)×(List UInt8×List UInt8))))))×((List (List UInt8×List UInt8))×((List (List UInt8×((Int)×((Int)×((Int)×(List UInt8×List UInt8))))))×(List ((Int)×((Int)×((Int)×(List UInt8×(List UInt8×((Int)×((Int)×((Int)×(List UInt8×List UInt8)))))))))))))))×Unit)×((List (List UInt8))×Unit)):=q0g (j87 n) m (((),((),(a1,(a2,(a3,()))))),(((a4,(a5,(a6,(a7,(a8,a9))))),()),(a10,())))
theorem qo1 (n m:Nat) (a1 a2 a3 a4 a5 a6 a7 a8 a9 a10):q66 n (m+1) a1 a2 a3 a4 a5 a6 a7 a8 a9 a10=j7q n (fun a1 a2 a3 a4 a5 a6 a7 a8 a9 a10=>q66 n m a1 a2 a3 a4 a5 a6 a7 a8 a9 a10) a1 a2 a3 a4 a5 a6 a7 a8 a9 a10:=rfl
def jn3 (n:Nat):LC:={ sh:=qn3,outs:=qdk,F:=q0g (j87 n) n }
@[reducible] def qnl:SSt:=⟨[(1,.one (.c (.box 1 0))),(3,.one (.c (.row 16))),(28,.one (.c (.d (.lst (.prod .str (.prod (.int .i64) (.prod (.int .i64) (.prod (.int .i64) (.prod .str .str))))))))),(29,.one (.c (.d (.int .i64)))),(30,.one (.c (.d (.int .i64))))],[(1,(35,[.d .str,.d .str,.d (.lst (.prod .str (.prod (.int .i64) (.prod (.int .i64) (.prod (.int .i64) (.prod .str .str)))))),.d (.lst (.prod .str .str)),.d (.lst (.prod .str (.prod (.int .i64) (.prod (.int .i64) (.prod (.int .i64) (.prod .str .str)))))),.d (.lst (.prod (.int .i64) (.prod (.int .i64) (.prod (.int .i64) (.prod .str (.prod .str (.prod (.int .i64) (.prod (.int .i64) (.prod (.int .i64) (.prod .str .str))))))))))]))],[(16,⟨9,false,.str⟩)]⟩
@[reducible] def qcx:List (Exit×SSt):=[(.exit 0,⟨[(1,.one (.c (.box 1 0))),(3,.one (.c (.row 16)))],[(1,(35,[.d .str,.d .str,.d (.lst (.prod .str (.prod (.int .i64) (.prod (.int .i64) (.prod (.int .i64) (.prod .str .str)))))),.d (.lst (.prod .str .str)),.d (.lst (.prod .str (.prod (.int .i64) (.prod (.int .i64) (.prod (.int .i64) (.prod .str .str)))))),.d (.lst (.prod (.int .i64) (.prod (.int .i64) (.prod (.int .i64) (.prod .str (.prod .str (.prod (.int .i64) (.prod (.int .i64) (.prod (.int .i64) (.prod .str .str))))))))))]))],[(16,⟨9,false,.str⟩)]⟩)]
def j8i (n:Nat) (rec:(List (List UInt8×((Int)×((Int)×((Int)×(List UInt8×List UInt8))))))->Int->Int->(List UInt8)->(List UInt8)->(List (List UInt8×((Int)×((Int)×((Int)×(List UInt8×List UInt8))))))->(List (List UInt8×List UInt8))->(List (List UInt8×((Int)×((Int)×((Int)×(List UInt8×List UInt8))))))->(List ((Int)×((Int)×((Int)×(List UInt8×(List UInt8×((Int)×((Int)×((Int)×(List UInt8×List UInt8))))))))))->(List (List UInt8))->Option ((Unit×(Unit×Unit))×(((List UInt8)×((List UInt8)×((List (List UInt8×((Int)×((Int)×((Int)×(List UInt8×List UInt8))))))×((List (List UInt8×List UInt8))×((List (List UInt8×((Int)×((Int)×((Int)×(List UInt8×List UInt8))))))×(List ((Int)×((Int)×((Int)×(List UInt8×(List UInt8×((Int)×((Int)×((Int)×(List UInt8×List UInt8)))))))))))))))×Unit)×((List (List UInt8))×Unit))) (a1:List (List UInt8×((Int)×((Int)×((Int)×(List UInt8×List UInt8)))))) (a2:Int) (a3:Int) (a4:List UInt8) (a5:List UInt8) (a6:List (List UInt8×((Int)×((Int)×((Int)×(List UInt8×List UInt8)))))) (a7:List (List UInt8×List UInt8)) (a8:List (List UInt8×((Int)×((Int)×((Int)×(List UInt8×List UInt8)))))) (a9:List ((Int)×((Int)×((Int)×(List UInt8×(List UInt8×((Int)×((Int)×((Int)×(List UInt8×List UInt8)))))))))) (a10:List (List UInt8)):Option ((Unit×(Unit×Unit))×(((List UInt8)×((List UInt8)×((List (List UInt8×((Int)×((Int)×((Int)×(List UInt8×List UInt8))))))×((List (List UInt8×List UInt8))×((List (List UInt8×((Int)×((Int)×((Int)×(List UInt8×List UInt8))))))×(List ((Int)×((Int)×((Int)×(List UInt8×(List UInt8×((Int)×((Int)×((Int)×(List UInt8×List UInt8)))))))))))))))×Unit)×((List (List UInt8))×Unit)) :=
 (bif decide (a3<a2) then (q1b a1 a3).bind fun x4=>(q6w n x4.2).bind fun r5=>(q3f n ([([114,101,113,117,105,114,101]:List UInt8),x4.1,r5]:List (List UInt8))).bind fun r6=>(q3e 16 a10 ([r6]:List (List UInt8))).bind fun l7=>q08 (IntKind.wrap .i64 (a3+1)) fun n8=>rec a1 a2 n8 a4 a5 a6 a7 a8 a9 l7 else some ((((),((),())),(((a4,(a5,(a6,(a7,(a8,a9))))),()),(a10,())))))
def j9w (n:Nat) (rec:pSt qnl->Option (q0e qcx)) (p:pSt qnl):Option (q0e qcx):=j8i n (fun a1 a2 a3 a4 a5 a6 a7 a8 a9 a10=>rec (((),((),(a1,(a2,(a3,()))))),(((a4,(a5,(a6,(a7,(a8,a9))))),()),(a10,())))) p.1.2.2.1 p.1.2.2.2.1 p.1.2.2.2.2.1 p.2.1.1.1 p.2.1.1.2.1 p.2.1.1.2.2.1 p.2.1.1.2.2.2.1 p.2.1.1.2.2.2.2.1 p.2.1.1.2.2.2.2.2 p.2.2.1
def q62 (n m:Nat) (a1:List (List UInt8×((Int)×((Int)×((Int)×(List UInt8×List UInt8)))))) (a2:Int) (a3:Int) (a4:List UInt8) (a5:List UInt8) (a6:List (List UInt8×((Int)×((Int)×((Int)×(List UInt8×List UInt8)))))) (a7:List (List UInt8×List UInt8)) (a8:List (List UInt8×((Int)×((Int)×((Int)×(List UInt8×List UInt8)))))) (a9:List ((Int)×((Int)×((Int)×(List UInt8×(List UInt8×((Int)×((Int)×((Int)×(List UInt8×List UInt8)))))))))) (a10:List (List UInt8)):Option ((Unit×(Unit×Unit))×(((List UInt8)×((List UInt8)×((List (List UInt8×((Int)×((Int)×((Int)×(List UInt8×List UInt8))))))×((List (List UInt8×List UInt8))×((List (List UInt8×((Int)×((Int)×((Int)×(List UInt8×List UInt8))))))×(List ((Int)×((Int)×((Int)×(List UInt8×(List UInt8×((Int)×((Int)×((Int)×(List UInt8×List UInt8)))))))))))))))×Unit)×((List (List UInt8))×Unit)):=q0g (j9w n) m (((),((),(a1,(a2,(a3,()))))),(((a4,(a5,(a6,(a7,(a8,a9))))),()),(a10,())))
theorem qny (n m:Nat) (a1 a2 a3 a4 a5 a6 a7 a8 a9 a10):q62 n (m+1) a1 a2 a3 a4 a5 a6 a7 a8 a9 a10=j8i n (fun a1 a2 a3 a4 a5 a6 a7 a8 a9 a10=>q62 n m a1 a2 a3 a4 a5 a6 a7 a8 a9 a10) a1 a2 a3 a4 a5 a6 a7 a8 a9 a10:=rfl
def jkc (n:Nat):LC:={ sh:=qnl,outs:=qcx,F:=q0g (j9w n) n }
def qd2 (n:Nat):List LC:=[jkc n,jn3 n,jk9 n,jiq n]
def jbo (n:Nat) (a1:(List UInt8)×((List UInt8)×((List (List UInt8×((Int)×((Int)×((Int)×(List UInt8×List UInt8))))))×((List (List UInt8×List UInt8))×((List (List UInt8×((Int)×((Int)×((Int)×(List UInt8×List UInt8))))))×(List ((Int)×((Int)×((Int)×(List UInt8×(List UInt8×((Int)×((Int)×((Int)×(List UInt8×List UInt8))))))))))))))):Option (List UInt8) :=
 (q3f n ([([109,111,100,117,108,101]:List UInt8),a1.1]:List (List UInt8))).bind fun r1=>(bif !decide (a1.2.1=([]:List UInt8)) then (q3f n ([([103,111]:List UInt8),a1.2.1]:List (List UInt8))).bind fun r2=>(q3e 16 ([r1]:List (List UInt8)) ([r2]:List (List UInt8))).bind fun l3=>(q62 n n a1.2.2.1 (a1.2.2.1.length:Int) (0:Int) a1.1 a1.2.1 a1.2.2.1 a1.2.2.2.1 a1.2.2.2.2.1 a1.2.2.2.2.2 l3).bind fun o9=>(q66 n n o9.2.1.1.2.2.2.1 (o9.2.1.1.2.2.2.1.length:Int) (0:Int) o9.2.1.1.1 o9.2.1.1.2.1 o9.2.1.1.2.2.1 o9.2.1.1.2.2.2.1 o9.2.1.1.2.2.2.2.1 o9.2.1.1.2.2.2.2.2 o9.2.2.1).bind fun o14=>(q61 n n o14.2.1.1.2.2.2.2.1 (o14.2.1.1.2.2.2.2.1.length:Int) (0:Int) o14.2.1.1.1 o14.2.1.1.2.1 o14.2.1.1.2.2.1 o14.2.1.1.2.2.2.1 o14.2.1.1.2.2.2.2.1 o14.2.1.1.2.2.2.2.2 o14.2.2.1).bind fun o20=>(q64 n n o20.2.1.1.2.2.2.2.2 (o20.2.1.1.2.2.2.2.2.length:Int) (0:Int) o20.2.2.1).bind fun o26=>(q7e o26.2.2.1 ([]:List UInt8)).bind fun (r27:List UInt8)=>some r27 else (q62 n n a1.2.2.1 (a1.2.2.1.length:Int) (0:Int) a1.1 a1.2.1 a1.2.2.1 a1.2.2.2.1 a1.2.2.2.2.1 a1.2.2.2.2.2 ([r1]:List (List UInt8))).bind fun o28=>(q66 n n o28.2.1.1.2.2.2.1 (o28.2.1.1.2.2.2.1.length:Int) (0:Int) o28.2.1.1.1 o28.2.1.1.2.1 o28.2.1.1.2.2.1 o28.2.1.1.2.2.2.1 o28.2.1.1.2.2.2.2.1 o28.2.1.1.2.2.2.2.2 o28.2.2.1).bind fun o29=>(q61 n n o29.2.1.1.2.2.2.2.1 (o29.2.1.1.2.2.2.2.1.length:Int) (0:Int) o29.2.1.1.1 o29.2.1.1.2.1 o29.2.1.1.2.2.1 o29.2.1.1.2.2.2.1 o29.2.1.1.2.2.2.2.1 o29.2.1.1.2.2.2.2.2 o29.2.2.1).bind fun o30=>(q64 n n o30.2.1.1.2.2.2.2.2 (o30.2.1.1.2.2.2.2.2.length:Int) (0:Int) o30.2.2.1).bind fun o31=>(q7e o31.2.2.1 ([]:List UInt8)).bind fun (r32:List UInt8)=>some r32)
def qsa (n:Nat):FC:={ f:=36,args:=[.one (.agg [.d .str,.d .str,.d (.lst (.prod .str (.prod (.int .i64) (.prod (.int .i64) (.prod (.int .i64) (.prod .str .str)))))),.d (.lst (.prod .str .str)),.d (.lst (.prod .str (.prod (.int .i64) (.prod (.int .i64) (.prod (.int .i64) (.prod .str .str)))))),.d (.lst (.prod (.int .i64) (.prod (.int .i64) (.prod (.int .i64) (.prod .str (.prod .str (.prod (.int .i64) (.prod (.int .i64) (.prod (.int .i64) (.prod .str .str))))))))))])],res:=.one (.c (.d .str)),F:=fun p=>jbo n p }
def qkb (n:Nat):List FC:=[qgx n,q9s n,qb5 n,qxf]
theorem qbn (n:Nat) {G:World->Prop} (hG:Know Inv G) : ∀c∈qkb n,q17 Tryz.prog G c/\q0b c.args=true:=List.forall_mem_cons.2 ⟨jqd n G hG,List.forall_mem_cons.2 ⟨qy8 n G hG,List.forall_mem_cons.2 ⟨jip n G hG,List.forall_mem_cons.2 ⟨j8k G hG,(fun _ h=>by cases h)⟩⟩⟩⟩
def qkf:q0a:=[(7,[⟨30423614405477506761820783772160,2^102,0⟩,⟨243388915243820045087367015530496,2^105,0⟩,⟨1987676141157863701546830626095104,2^108,2⟩,⟨15576890575604482885591488987758592,2^111,0⟩,⟨127211273034103276898997160065957888,2^114,8⟩,⟨49*2^114,2^117,24⟩,⟨25089*2^108,5*2^120,62⟩,⟨53*2^120,2^123,126⟩,⟨49*2^123,5*2^126,254⟩,⟨4004566781977058768584705*2^50,604462909807314587353089*2^50,511⟩,⟨680564733841876926926750340763443268608,512,1023⟩]),(17,[⟨1234128417990904531616226886918012878737051899226310797418299904,2^207,0⟩,⟨73559785961562665201200657303214840813699477864812904451*2^27,2^210,0⟩,⟨300369126009714216238236017321460599989272867947986026497*2^28,2^213,2⟩,⟨4707826301540010572876842067405749812076766583348025884675*2^27,2^216,0⟩,⟨19223624064621709839247105108573478399313463548671105695745*2^28,2^219,8⟩,⟨49*2^219,2^222,24⟩,⟨25089*2^213,5*2^225,62⟩,⟨53*2^225,2^228,126⟩,⟨49*2^228,5*2^231,254⟩,⟨162444527514471923652347649653393377553121724408453398529*2^50,24519928653854221733733552434404946937899825954937634817*2^50,511⟩,⟨27606985387162255149739023449108101809804435888681546221775996802042880,512,1023⟩])]
theorem qpc:drB qkf (q00 Tryz.f36)=true:=by kernel_rfl
theorem jon (n:Nat) : ∀rec p,j7h n rec p=round Tryz.prog 97 (qkb n) (qd2 n) qkf 4 qnp qcd (q01 0 3 (q00 Tryz.f36)) rec p:=by intro rec p;kernel_rfl
theorem jpw (n:Nat) : ∀rec p,j96 n rec p=round Tryz.prog 97 (qkb n) (qd2 n) qkf 3 qnu qcp (q01 0 2 (q00 Tryz.f36)) rec p:=by intro rec p;kernel_rfl
theorem jpx (n:Nat) : ∀rec p,j87 n rec p=round Tryz.prog 97 (qkb n) (qd2 n) qkf 2 qn3 qdk (q01 0 1 (q00 Tryz.f36)) rec p:=by intro rec p;kernel_rfl
theorem jqb (n:Nat) : ∀rec p,j9w n rec p=round Tryz.prog 97 (qkb n) (qd2 n) qkf 1 qnl qcx (q01 0 0 (q00 Tryz.f36)) rec p:=by intro rec p;kernel_rfl
theorem jjz (n:Nat) {F:Fr} (hF:F.n=97) (hK:Know Inv F.G):q8a Tryz.prog F (jiq n) (q01 0 3 (q00 Tryz.f36)) :=
 q0h hF (by kernel_rfl) (qbn n hK) (jon n) (fuel:=n) (fun _=>rfl) (q02 fun j L h1 h2 h3=>absurd h2 (Nat.not_lt.2 (Nat.le_trans (by decide +kernel) h1))) (q0w qpc)
theorem jm7 (n:Nat) {F:Fr} (hF:F.n=97) (hK:Know Inv F.G):q8a Tryz.prog F (jk9 n) (q01 0 2 (q00 Tryz.f36)) :=
 q0h hF (by kernel_rfl) (qbn n hK) (jpw n) (fuel:=n) (fun _=>rfl) (q02 fun j L h1 h2 h3=>absurd h2 (Nat.not_lt.2 (Nat.le_trans (by decide +kernel) h1))) (q0w qpc)
theorem jn7 (n:Nat) {F:Fr} (hF:F.n=97) (hK:Know Inv F.G):q8a Tryz.prog F (jn3 n) (q01 0 1 (q00 Tryz.f36)) :=
 q0h hF (by kernel_rfl) (qbn n hK) (jpx n) (fuel:=n) (fun _=>rfl) (q02 fun j L h1 h2 h3=>absurd h2 (Nat.not_lt.2 (Nat.le_trans (by decide +kernel) h1))) (q0w qpc)
theorem jhl (n:Nat) {F:Fr} (hF:F.n=97) (hK:Know Inv F.G):q8a Tryz.prog F (jkc n) (q01 0 0 (q00 Tryz.f36)) :=
 q0h hF (by kernel_rfl) (qbn n hK) (jqb n) (fuel:=n) (fun _=>rfl) (q02 fun j L h1 h2 h3=>absurd h2 (Nat.not_lt.2 (Nat.le_trans (by decide +kernel) h1))) (q0w qpc)
theorem jw2 (n:Nat) : ∀a,(qsa n).F a=main Tryz.prog 97 (qkb n) (qd2 n) qkf (q00 Tryz.f36) [.tmp 2] (qsa n).args (qsa n).res a:=by intro a;kernel_rfl
theorem jtp (n:Nat):q0d Inv Tryz.prog (qsa n):=fun G hG=>⟨⟨by kernel_rfl,fun a r h=>q04 (c:=q00 Tryz.f36) Tryz.func36 (by kernel_rfl) (by kernel_rfl) (Nat.le_of_ble_eq_true (by kernel_rfl)) hG.st (by kernel_rfl) (rs:=[.tmp 2]) (by kernel_rfl) (qbn n hG) (lts:=qd2 n) (fun F hF hFG=>have hK:Know Inv F.G:=hFG ▸ hG;(q02 (c:=(q00 Tryz.f36)) (fun j L h1 h2 h3=>by
  have h2':j<4:=Nat.lt_of_lt_of_le h2 (by decide +kernel)
  match j,h1,h2',h3 with
  | 0,_,_,h3=>obtain rfl:=Option.some.inj h3;exact (show q01 0 0 (q00 Tryz.f36)=q01 0 0 (q00 Tryz.f36) by kernel_rfl) ▸ jhl n hF hK
  | 1,_,_,h3=>obtain rfl:=Option.some.inj h3;exact (show q01 0 1 (q00 Tryz.f36)=q01 0 1 (q00 Tryz.f36) by kernel_rfl) ▸ jn7 n hF hK
  | 2,_,_,h3=>obtain rfl:=Option.some.inj h3;exact (show q01 0 2 (q00 Tryz.f36)=q01 0 2 (q00 Tryz.f36) by kernel_rfl) ▸ jm7 n hF hK
  | 3,_,_,h3=>obtain rfl:=Option.some.inj h3;exact (show q01 0 3 (q00 Tryz.f36)=q01 0 3 (q00 Tryz.f36) by kernel_rfl) ▸ jjz n hF hK
  | j+4,_,h2',_=>exact absurd h2' (by omega)))) qpc ((jw2 n a).symm.trans h)⟩,rfl⟩
@[reducible] def qh2:SSt:=⟨[(0,.one (.c (.d (.lst (.prod .str (.prod (.int .i64) (.prod (.int .i64) (.prod (.int .i64) (.prod .str .str))))))))),(1,.one (.c (.d (.lst (.prod .str (.prod (.int .i64) (.prod (.int .i64) (.prod (.int .i64) (.prod .str .str))))))))),(12,.one (.c (.d (.int .i64)))),(13,.one (.c (.d (.int .i64))))],[],[]⟩
@[reducible] def qa8:List (Exit×SSt):=[(.ret,⟨[(4,.one (.c (.d .bool)))],[],[]⟩),(.exit 0,⟨[],[],[]⟩)]
def qzt (n:Nat) (rec:(List (List UInt8×((Int)×((Int)×((Int)×(List UInt8×List UInt8))))))->(List (List UInt8×((Int)×((Int)×((Int)×(List UInt8×List UInt8))))))->Int->Int->Option (((Bool×Unit)×Unit×Unit)⊕(Unit×Unit×Unit))) (a1:List (List UInt8×((Int)×((Int)×((Int)×(List UInt8×List UInt8)))))) (a2:List (List UInt8×((Int)×((Int)×((Int)×(List UInt8×List UInt8)))))) (a3:Int) (a4:Int):Option (((Bool×Unit)×Unit×Unit)⊕(Unit×Unit×Unit)) :=
 (bif decide (a4<a3) then (q1b a1 a4).bind fun x1=>(q1b a2 a4).bind fun x2=>(bif !(decide (x1.1=x2.1)&&((decide (x1.2.1=x2.2.1)&&(decide (x1.2.2.1=x2.2.2.1)&&(decide (x1.2.2.2.1=x2.2.2.2.1)&&(decide (x1.2.2.2.2.1=x2.2.2.2.2.1)&&(decide (x1.2.2.2.2.2=x2.2.2.2.2.2)&&true)))))&&true)) then some (Sum.inl ((false,()),((),()))) else q08 (IntKind.wrap .i64 (a4+1)) fun n3=>rec a1 a2 a3 n3) else some (Sum.inr (((),((),())))))
def qyw (n:Nat) (rec:pSt qh2->Option (q0e qa8)) (p:pSt qh2):Option (q0e qa8):=qzt n (fun a1 a2 a3 a4=>rec ((a1,(a2,(a3,(a4,())))),((),()))) p.1.1 p.1.2.1 p.1.2.2.1 p.1.2.2.2.1
def qam (n m:Nat) (a1:List (List UInt8×((Int)×((Int)×((Int)×(List UInt8×List UInt8)))))) (a2:List (List UInt8×((Int)×((Int)×((Int)×(List UInt8×List UInt8)))))) (a3:Int) (a4:Int):Option (((Bool×Unit)×Unit×Unit)⊕(Unit×Unit×Unit)):=q0g (qyw n) m ((a1,(a2,(a3,(a4,())))),((),()))
theorem qmg (n m:Nat) (a1 a2 a3 a4):qam n (m+1) a1 a2 a3 a4=qzt n (fun a1 a2 a3 a4=>qam n m a1 a2 a3 a4) a1 a2 a3 a4:=rfl
def jdy (n:Nat):LC:={ sh:=qh2,outs:=qa8,F:=q0g (qyw n) n }
def qow (n:Nat):List LC:=[jdy n]
def qq2 (n:Nat) (a1:List (List UInt8×((Int)×((Int)×((Int)×(List UInt8×List UInt8)))))) (a2:List (List UInt8×((Int)×((Int)×((Int)×(List UInt8×List UInt8)))))):Option (Bool) :=
 (bif !decide ((a1.length:Int)=(a2.length:Int)) then some false else (qam n n a1 a2 (a1.length:Int) (0:Int)).bind fun o4=>Sum.elim (fun (q5:(Bool×Unit)×Unit×Unit)=>some q5.1.1) (fun (q6:(Unit)×Unit×Unit)=>some true) o4)
def qfm (n:Nat):FC:={ f:=56,args:=[.one (.c (.d (.lst (.prod .str (.prod (.int .i64) (.prod (.int .i64) (.prod (.int .i64) (.prod .str .str)))))))),.one (.c (.d (.lst (.prod .str (.prod (.int .i64) (.prod (.int .i64) (.prod (.int .i64) (.prod .str .str))))))))],res:=.one (.c (.d .bool)),F:=fun p=>qq2 n p.1 p.2 }
def qz6 (n:Nat):List FC:=[]
theorem qw8 (n:Nat) {G:World->Prop} (hG:Know Inv G) : ∀c∈qz6 n,q17 Tryz.prog G c/\q0b c.args=true:=(fun _ h=>by cases h)
def qxb:q0a:=[(6,[⟨1688849860263937,2^48,0⟩,⟨13510798882144256,2^51,0⟩,⟨393*2^48,2^54,3⟩,⟨49*2^54,2^57,7⟩,⟨6917529027641081864,2^60,0⟩,⟨55340232221128687616,2^63,0⟩,⟨393*2^60,2^66,48⟩,⟨49*2^66,2^69,112⟩,⟨200705*2^57,2^72,255⟩])]
theorem jdb:drB qxb (q00 Tryz.f56)=true:=by kernel_rfl
theorem jhv (n:Nat) : ∀rec p,qyw n rec p=round Tryz.prog 26 (qz6 n) (qow n) qxb 1 qh2 qa8 (q01 0 0 (q00 Tryz.f56)) rec p:=by intro rec p;kernel_rfl
theorem jgi (n:Nat) {F:Fr} (hF:F.n=26) (hK:Know Inv F.G):q8a Tryz.prog F (jdy n) (q01 0 0 (q00 Tryz.f56)) :=
 q0h hF (by kernel_rfl) (qw8 n hK) (jhv n) (fuel:=n) (fun _=>rfl) (q02 fun j L h1 h2 h3=>absurd h2 (Nat.not_lt.2 (Nat.le_trans (by decide +kernel) h1))) (q0w jdb)
theorem jqg (n:Nat) : ∀a,(qfm n).F a=main Tryz.prog 26 (qz6 n) (qow n) qxb (q00 Tryz.f56) [.tmp 4] (qfm n).args (qfm n).res a:=by intro a;kernel_rfl
theorem jom (n:Nat):q0d Inv Tryz.prog (qfm n):=fun G hG=>⟨⟨by kernel_rfl,fun a r h=>q04 (c:=q00 Tryz.f56) Tryz.func56 (by kernel_rfl) (by kernel_rfl) (Nat.le_of_ble_eq_true (by kernel_rfl)) hG.st (by kernel_rfl) (rs:=[.tmp 4]) (by kernel_rfl) (qw8 n hG) (lts:=qow n) (fun F hF hFG=>have hK:Know Inv F.G:=hFG ▸ hG;(q02 (c:=(q00 Tryz.f56)) (fun j L h1 h2 h3=>by
  have h2':j<1:=Nat.lt_of_lt_of_le h2 (by decide +kernel)
  match j,h1,h2',h3 with
  | 0,_,_,h3=>obtain rfl:=Option.some.inj h3;exact (show q01 0 0 (q00 Tryz.f56)=q01 0 0 (q00 Tryz.f56) by kernel_rfl) ▸ jgi n hF hK
  | j+1,_,h2',_=>exact absurd h2' (by omega)))) jdb ((jqg n a).symm.trans h)⟩,rfl⟩
@[reducible] def qd5:SSt:=⟨[(0,.one (.c (.d (.lst (.prod .str .str))))),(1,.one (.c (.d (.lst (.prod .str .str))))),(12,.one (.c (.d (.int .i64)))),(13,.one (.c (.d (.int .i64))))],[],[]⟩
@[reducible] def q7y:List (Exit×SSt):=[(.ret,⟨[(4,.one (.c (.d .bool)))],[],[]⟩),(.exit 0,⟨[],[],[]⟩)]
def qpk (n:Nat) (rec:(List (List UInt8×List UInt8))->(List (List UInt8×List UInt8))->Int->Int->Option (((Bool×Unit)×Unit×Unit)⊕(Unit×Unit×Unit))) (a1:List (List UInt8×List UInt8)) (a2:List (List UInt8×List UInt8)) (a3:Int) (a4:Int):Option (((Bool×Unit)×Unit×Unit)⊕(Unit×Unit×Unit)) :=
 (bif decide (a4<a3) then (q1b a1 a4).bind fun x1=>(q1b a2 a4).bind fun x2=>(bif !(decide (x1.1=x2.1)&&(decide (x1.2=x2.2)&&true)) then some (Sum.inl ((false,()),((),()))) else q08 (IntKind.wrap .i64 (a4+1)) fun n3=>rec a1 a2 a3 n3) else some (Sum.inr (((),((),())))))
def qs7 (n:Nat) (rec:pSt qd5->Option (q0e q7y)) (p:pSt qd5):Option (q0e q7y):=qpk n (fun a1 a2 a3 a4=>rec ((a1,(a2,(a3,(a4,())))),((),()))) p.1.1 p.1.2.1 p.1.2.2.1 p.1.2.2.2.1
def q7t (n m:Nat) (a1:List (List UInt8×List UInt8)) (a2:List (List UInt8×List UInt8)) (a3:Int) (a4:Int):Option (((Bool×Unit)×Unit×Unit)⊕(Unit×Unit×Unit)):=q0g (qs7 n) m ((a1,(a2,(a3,(a4,())))),((),()))
theorem qjq (n m:Nat) (a1 a2 a3 a4):q7t n (m+1) a1 a2 a3 a4=qpk n (fun a1 a2 a3 a4=>q7t n m a1 a2 a3 a4) a1 a2 a3 a4:=rfl
def j4m (n:Nat):LC:={ sh:=qd5,outs:=q7y,F:=q0g (qs7 n) n }
def qjn (n:Nat):List LC:=[j4m n]
def qni (n:Nat) (a1:List (List UInt8×List UInt8)) (a2:List (List UInt8×List UInt8)):Option (Bool) :=
 (bif !decide ((a1.length:Int)=(a2.length:Int)) then some false else (q7t n n a1 a2 (a1.length:Int) (0:Int)).bind fun o4=>Sum.elim (fun (q5:(Bool×Unit)×Unit×Unit)=>some q5.1.1) (fun (q6:(Unit)×Unit×Unit)=>some true) o4)
def qb0 (n:Nat):FC:={ f:=57,args:=[.one (.c (.d (.lst (.prod .str .str)))),.one (.c (.d (.lst (.prod .str .str))))],res:=.one (.c (.d .bool)),F:=fun p=>qni n p.1 p.2 }
def qov (n:Nat):List FC:=[]
theorem qpd (n:Nat) {G:World->Prop} (hG:Know Inv G) : ∀c∈qov n,q17 Tryz.prog G c/\q0b c.args=true:=(fun _ h=>by cases h)
def qrs:q0a:=[(6,[⟨1688849860263937,2^48,0⟩,⟨13510798882144256,2^51,0⟩,⟨393*2^48,2^54,3⟩,⟨49*2^54,2^57,7⟩,⟨6917529027641081864,2^60,0⟩,⟨55340232221128687616,2^63,0⟩,⟨393*2^60,2^66,48⟩,⟨49*2^66,2^69,112⟩,⟨200705*2^57,2^72,255⟩])]
theorem j4o:drB qrs (q00 Tryz.f57)=true:=by kernel_rfl
theorem jer (n:Nat) : ∀rec p,qs7 n rec p=round Tryz.prog 26 (qov n) (qjn n) qrs 1 qd5 q7y (q01 0 0 (q00 Tryz.f57)) rec p:=by intro rec p;kernel_rfl
theorem j7s (n:Nat) {F:Fr} (hF:F.n=26) (hK:Know Inv F.G):q8a Tryz.prog F (j4m n) (q01 0 0 (q00 Tryz.f57)) :=
 q0h hF (by kernel_rfl) (qpd n hK) (jer n) (fuel:=n) (fun _=>rfl) (q02 fun j L h1 h2 h3=>absurd h2 (Nat.not_lt.2 (Nat.le_trans (by decide +kernel) h1))) (q0w j4o)
theorem jij (n:Nat) : ∀a,(qb0 n).F a=main Tryz.prog 26 (qov n) (qjn n) qrs (q00 Tryz.f57) [.tmp 4] (qb0 n).args (qb0 n).res a:=by intro a;kernel_rfl
theorem jku (n:Nat):q0d Inv Tryz.prog (qb0 n):=fun G hG=>⟨⟨by kernel_rfl,fun a r h=>q04 (c:=q00 Tryz.f57) Tryz.func57 (by kernel_rfl) (by kernel_rfl) (Nat.le_of_ble_eq_true (by kernel_rfl)) hG.st (by kernel_rfl) (rs:=[.tmp 4]) (by kernel_rfl) (qpd n hG) (lts:=qjn n) (fun F hF hFG=>have hK:Know Inv F.G:=hFG ▸ hG;(q02 (c:=(q00 Tryz.f57)) (fun j L h1 h2 h3=>by
  have h2':j<1:=Nat.lt_of_lt_of_le h2 (by decide +kernel)
  match j,h1,h2',h3 with
  | 0,_,_,h3=>obtain rfl:=Option.some.inj h3;exact (show q01 0 0 (q00 Tryz.f57)=q01 0 0 (q00 Tryz.f57) by kernel_rfl) ▸ j7s n hF hK
  | j+1,_,h2',_=>exact absurd h2' (by omega)))) j4o ((jij n a).symm.trans h)⟩,rfl⟩
@[reducible] def qca:SSt:=⟨[(0,.one (.c (.d (.lst (.prod (.int .i64) (.prod (.int .i64) (.prod (.int .i64) (.prod .str (.prod .str (.prod (.int .i64) (.prod (.int .i64) (.prod (.int .i64) (.prod .str .str))))))))))))),(1,.one (.c (.d (.lst (.prod (.int .i64) (.prod (.int .i64) (.prod (.int .i64) (.prod .str (.prod .str (.prod (.int .i64) (.prod (.int .i64) (.prod (.int .i64) (.prod .str .str))))))))))))),(12,.one (.c (.d (.int .i64)))),(13,.one (.c (.d (.int .i64))))],[],[]⟩
@[reducible] def q80:List (Exit×SSt):=[(.ret,⟨[(4,.one (.c (.d .bool)))],[],[]⟩),(.exit 0,⟨[],[],[]⟩)]
def qqq (n:Nat) (rec:(List ((Int)×((Int)×((Int)×(List UInt8×(List UInt8×((Int)×((Int)×((Int)×(List UInt8×List UInt8))))))))))->(List ((Int)×((Int)×((Int)×(List UInt8×(List UInt8×((Int)×((Int)×((Int)×(List UInt8×List UInt8))))))))))->Int->Int->Option (((Bool×Unit)×Unit×Unit)⊕(Unit×Unit×Unit))) (a1:List ((Int)×((Int)×((Int)×(List UInt8×(List UInt8×((Int)×((Int)×((Int)×(List UInt8×List UInt8)))))))))) (a2:List ((Int)×((Int)×((Int)×(List UInt8×(List UInt8×((Int)×((Int)×((Int)×(List UInt8×List UInt8)))))))))) (a3:Int) (a4:Int):Option (((Bool×Unit)×Unit×Unit)⊕(Unit×Unit×Unit)) :=
 (bif decide (a4<a3) then (q1b a1 a4).bind fun x1=>(q1b a2 a4).bind fun x2=>(bif !((decide (x1.1=x2.1)&&(decide (x1.2.1=x2.2.1)&&(decide (x1.2.2.1=x2.2.2.1)&&(decide (x1.2.2.2.1=x2.2.2.2.1)&&(decide (x1.2.2.2.2.1=x2.2.2.2.2.1)&&true)))))&&((decide (x1.2.2.2.2.2.1=x2.2.2.2.2.2.1)&&(decide (x1.2.2.2.2.2.2.1=x2.2.2.2.2.2.2.1)&&(decide (x1.2.2.2.2.2.2.2.1=x2.2.2.2.2.2.2.2.1)&&(decide (x1.2.2.2.2.2.2.2.2.1=x2.2.2.2.2.2.2.2.2.1)&&(decide (x1.2.2.2.2.2.2.2.2.2=x2.2.2.2.2.2.2.2.2.2)&&true)))))&&true)) then some (Sum.inl ((false,()),((),()))) else q08 (IntKind.wrap .i64 (a4+1)) fun n3=>rec a1 a2 a3 n3) else some (Sum.inr (((),((),())))))
def qrr (n:Nat) (rec:pSt qca->Option (q0e q80)) (p:pSt qca):Option (q0e q80):=qqq n (fun a1 a2 a3 a4=>rec ((a1,(a2,(a3,(a4,())))),((),()))) p.1.1 p.1.2.1 p.1.2.2.1 p.1.2.2.2.1
def q81 (n m:Nat) (a1:List ((Int)×((Int)×((Int)×(List UInt8×(List UInt8×((Int)×((Int)×((Int)×(List UInt8×List UInt8)))))))))) (a2:List ((Int)×((Int)×((Int)×(List UInt8×(List UInt8×((Int)×((Int)×((Int)×(List UInt8×List UInt8)))))))))) (a3:Int) (a4:Int):Option (((Bool×Unit)×Unit×Unit)⊕(Unit×Unit×Unit)):=q0g (qrr n) m ((a1,(a2,(a3,(a4,())))),((),()))
theorem qk9 (n m:Nat) (a1 a2 a3 a4):q81 n (m+1) a1 a2 a3 a4=qqq n (fun a1 a2 a3 a4=>q81 n m a1 a2 a3 a4) a1 a2 a3 a4:=rfl
def j2o (n:Nat):LC:={ sh:=qca,outs:=q80,F:=q0g (qrr n) n }
def qki (n:Nat):List LC:=[j2o n]
def qnc (n:Nat) (a1:List ((Int)×((Int)×((Int)×(List UInt8×(List UInt8×((Int)×((Int)×((Int)×(List UInt8×List UInt8)))))))))) (a2:List ((Int)×((Int)×((Int)×(List UInt8×(List UInt8×((Int)×((Int)×((Int)×(List UInt8×List UInt8)))))))))):Option (Bool) :=
 (bif !decide ((a1.length:Int)=(a2.length:Int)) then some false else (q81 n n a1 a2 (a1.length:Int) (0:Int)).bind fun o4=>Sum.elim (fun (q5:(Bool×Unit)×Unit×Unit)=>some q5.1.1) (fun (q6:(Unit)×Unit×Unit)=>some true) o4)
def qbc (n:Nat):FC:={ f:=58,args:=[.one (.c (.d (.lst (.prod (.int .i64) (.prod (.int .i64) (.prod (.int .i64) (.prod .str (.prod .str (.prod (.int .i64) (.prod (.int .i64) (.prod (.int .i64) (.prod .str .str)))))))))))),.one (.c (.d (.lst (.prod (.int .i64) (.prod (.int .i64) (.prod (.int .i64) (.prod .str (.prod .str (.prod (.int .i64) (.prod (.int .i64) (.prod (.int .i64) (.prod .str .str))))))))))))],res:=.one (.c (.d .bool)),F:=fun p=>qnc n p.1 p.2 }
def qr6 (n:Nat):List FC:=[]
theorem qt5 (n:Nat) {G:World->Prop} (hG:Know Inv G) : ∀c∈qr6 n,q17 Tryz.prog G c/\q0b c.args=true:=(fun _ h=>by cases h)
def qp1:q0a:=[(6,[⟨1688849860263937,2^48,0⟩,⟨13510798882144256,2^51,0⟩,⟨393*2^48,2^54,3⟩,⟨49*2^54,2^57,7⟩,⟨6917529027641081864,2^60,0⟩,⟨55340232221128687616,2^63,0⟩,⟨393*2^60,2^66,48⟩,⟨49*2^66,2^69,112⟩,⟨200705*2^57,2^72,255⟩])]
theorem j5d:drB qp1 (q00 Tryz.f58)=true:=by kernel_rfl
theorem jgh (n:Nat) : ∀rec p,qrr n rec p=round Tryz.prog 26 (qr6 n) (qki n) qp1 1 qca q80 (q01 0 0 (q00 Tryz.f58)) rec p:=by intro rec p;kernel_rfl
theorem j6h (n:Nat) {F:Fr} (hF:F.n=26) (hK:Know Inv F.G):q8a Tryz.prog F (j2o n) (q01 0 0 (q00 Tryz.f58)) :=
 q0h hF (by kernel_rfl) (qt5 n hK) (jgh n) (fuel:=n) (fun _=>rfl) (q02 fun j L h1 h2 h3=>absurd h2 (Nat.not_lt.2 (Nat.le_trans (by decide +kernel) h1))) (q0w j5d)
theorem jik (n:Nat) : ∀a,(qbc n).F a=main Tryz.prog 26 (qr6 n) (qki n) qp1 (q00 Tryz.f58) [.tmp 4] (qbc n).args (qbc n).res a:=by intro a;kernel_rfl
theorem jmd (n:Nat):q0d Inv Tryz.prog (qbc n):=fun G hG=>⟨⟨by kernel_rfl,fun a r h=>q04 (c:=q00 Tryz.f58) Tryz.func58 (by kernel_rfl) (by kernel_rfl) (Nat.le_of_ble_eq_true (by kernel_rfl)) hG.st (by kernel_rfl) (rs:=[.tmp 4]) (by kernel_rfl) (qt5 n hG) (lts:=qki n) (fun F hF hFG=>have hK:Know Inv F.G:=hFG ▸ hG;(q02 (c:=(q00 Tryz.f58)) (fun j L h1 h2 h3=>by
  have h2':j<1:=Nat.lt_of_lt_of_le h2 (by decide +kernel)
  match j,h1,h2',h3 with
  | 0,_,_,h3=>obtain rfl:=Option.some.inj h3;exact (show q01 0 0 (q00 Tryz.f58)=q01 0 0 (q00 Tryz.f58) by kernel_rfl) ▸ j6h n hF hK
  | j+1,_,h2',_=>exact absurd h2' (by omega)))) j5d ((jik n a).symm.trans h)⟩,rfl⟩
def j3t (n:Nat):List LC:=[]
def qjf (n:Nat) (a1:(List UInt8)×((List UInt8)×((List (List UInt8×((Int)×((Int)×((Int)×(List UInt8×List UInt8))))))×((List (List UInt8×List UInt8))×((List (List UInt8×((Int)×((Int)×((Int)×(List UInt8×List UInt8))))))×(List ((Int)×((Int)×((Int)×(List UInt8×(List UInt8×((Int)×((Int)×((Int)×(List UInt8×List UInt8))))))))))))))) (a2:(List UInt8)×((List UInt8)×((List (List UInt8×((Int)×((Int)×((Int)×(List UInt8×List UInt8))))))×((List (List UInt8×List UInt8))×((List (List UInt8×((Int)×((Int)×((Int)×(List UInt8×List UInt8))))))×(List ((Int)×((Int)×((Int)×(List UInt8×(List UInt8×((Int)×((Int)×((Int)×(List UInt8×List UInt8))))))))))))))):Option (Bool) :=
 (bif decide (a1.1=a2.1) then (bif decide (a1.2.1=a2.2.1) then (qq2 n a1.2.2.1 a2.2.2.1).bind fun r1=>(bif r1 then (qni n a1.2.2.2.1 a2.2.2.2.1).bind fun r2=>(bif r2 then (qq2 n a1.2.2.2.2.1 a2.2.2.2.2.1).bind fun r3=>(bif r3 then (qnc n a1.2.2.2.2.2 a2.2.2.2.2.2).bind fun r4=>some r4 else some false) else some false) else some false) else some false) else some false)
def qcl (n:Nat):FC:={ f:=35,args:=[.one (.agg [.d .str,.d .str,.d (.lst (.prod .str (.prod (.int .i64) (.prod (.int .i64) (.prod (.int .i64) (.prod .str .str)))))),.d (.lst (.prod .str .str)),.d (.lst (.prod .str (.prod (.int .i64) (.prod (.int .i64) (.prod (.int .i64) (.prod .str .str)))))),.d (.lst (.prod (.int .i64) (.prod (.int .i64) (.prod (.int .i64) (.prod .str (.prod .str (.prod (.int .i64) (.prod (.int .i64) (.prod (.int .i64) (.prod .str .str))))))))))]),.one (.agg [.d .str,.d .str,.d (.lst (.prod .str (.prod (.int .i64) (.prod (.int .i64) (.prod (.int .i64) (.prod .str .str)))))),.d (.lst (.prod .str .str)),.d (.lst (.prod .str (.prod (.int .i64) (.prod (.int .i64) (.prod (.int .i64) (.prod .str .str)))))),.d (.lst (.prod (.int .i64) (.prod (.int .i64) (.prod (.int .i64) (.prod .str (.prod .str (.prod (.int .i64) (.prod (.int .i64) (.prod (.int .i64) (.prod .str .str))))))))))])],res:=.one (.c (.d .bool)),F:=fun p=>qjf n p.1 p.2 }
def jco (n:Nat):List FC:=[qfm n,qb0 n,qbc n]
theorem jgx (n:Nat) {G:World->Prop} (hG:Know Inv G) : ∀c∈jco n,q17 Tryz.prog G c/\q0b c.args=true:=List.forall_mem_cons.2 ⟨jom n G hG,List.forall_mem_cons.2 ⟨jku n G hG,List.forall_mem_cons.2 ⟨jmd n G hG,(fun _ h=>by cases h)⟩⟩⟩
def jbx:q0a:=[]
theorem jog:drB jbx (q00 Tryz.f35)=true:=by kernel_rfl
theorem jr6 (n:Nat) : ∀a,(qcl n).F a=main Tryz.prog 45 (jco n) (j3t n) jbx (q00 Tryz.f35) [.tmp 4] (qcl n).args (qcl n).res a:=by intro a;kernel_rfl
theorem jd1 (n:Nat):q0d Inv Tryz.prog (qcl n):=fun G hG=>⟨⟨by kernel_rfl,fun a r h=>q04 (c:=q00 Tryz.f35) Tryz.func35 (by kernel_rfl) (by kernel_rfl) (Nat.le_of_ble_eq_true (by kernel_rfl)) hG.st (by kernel_rfl) (rs:=[.tmp 4]) (by kernel_rfl) (jgx n hG) (lts:=j3t n) (fun F hF hFG=>have hK:Know Inv F.G:=hFG ▸ hG;(q02 fun j L h1 h2 h3=>absurd h2 (Nat.not_lt.2 (Nat.le_trans (by decide +kernel) h1)))) jog ((jr6 n a).symm.trans h)⟩,rfl⟩
def j11 (n:Nat):List LC:=[]
def qb9 (n:Nat) (a1:(List UInt8)×((List UInt8)×((List (List UInt8×((Int)×((Int)×((Int)×(List UInt8×List UInt8))))))×((List (List UInt8×List UInt8))×((List (List UInt8×((Int)×((Int)×((Int)×(List UInt8×List UInt8))))))×(List ((Int)×((Int)×((Int)×(List UInt8×(List UInt8×((Int)×((Int)×((Int)×(List UInt8×List UInt8))))))))))))))):Option ((List UInt8)×(Int)) :=
 (jbo n a1).bind fun r1=>(q2u n r1).bind fun r2=>(bif !decide (r2.2.2=0) then some (([]:List UInt8),r2.2.2) else (qjf n r2.1 a1).bind fun r3=>(bif !r3 then some (([]:List UInt8),(1:Int)) else some (r1,(0:Int))))
def qcc (n:Nat):FC:={ f:=14,args:=[.one (.agg [.d .str,.d .str,.d (.lst (.prod .str (.prod (.int .i64) (.prod (.int .i64) (.prod (.int .i64) (.prod .str .str)))))),.d (.lst (.prod .str .str)),.d (.lst (.prod .str (.prod (.int .i64) (.prod (.int .i64) (.prod (.int .i64) (.prod .str .str)))))),.d (.lst (.prod (.int .i64) (.prod (.int .i64) (.prod (.int .i64) (.prod .str (.prod .str (.prod (.int .i64) (.prod (.int .i64) (.prod (.int .i64) (.prod .str .str))))))))))])],res:=.tup [.c (.d .str),.c (.d (.int .i64))],F:=fun p=>qb9 n p }
def jds (n:Nat):List FC:=[qsa n,q6p n,qcl n]
theorem jfr (n:Nat) {G:World->Prop} (hG:Know Inv G) : ∀c∈jds n,q17 Tryz.prog G c/\q0b c.args=true:=List.forall_mem_cons.2 ⟨jtp n G hG,List.forall_mem_cons.2 ⟨qsu n G hG,List.forall_mem_cons.2 ⟨jd1 n G hG,(fun _ h=>by cases h)⟩⟩⟩
def je7:q0a:=[]
theorem jrt:drB je7 (q00 Tryz.f14)=true:=by kernel_rfl
theorem jqh (n:Nat) : ∀a,(qcc n).F a=main Tryz.prog 24 (jds n) (j11 n) je7 (q00 Tryz.f14) [.tmp 2,.tmp 3] (qcc n).args (qcc n).res a:=by intro a;kernel_rfl
theorem jc1 (n:Nat):q0d Inv Tryz.prog (qcc n):=fun G hG=>⟨⟨by kernel_rfl,fun a r h=>q04 (c:=q00 Tryz.f14) Tryz.func14 (by kernel_rfl) (by kernel_rfl) (Nat.le_of_ble_eq_true (by kernel_rfl)) hG.st (by kernel_rfl) (rs:=[.tmp 2,.tmp 3]) (by kernel_rfl) (jfr n hG) (lts:=j11 n) (fun F hF hFG=>have hK:Know Inv F.G:=hFG ▸ hG;(q02 fun j L h1 h2 h3=>absurd h2 (Nat.not_lt.2 (Nat.le_trans (by decide +kernel) h1)))) jrt ((jqh n a).symm.trans h)⟩,rfl⟩
end Go.Proofs.YtapfankgdkdkgaaGreatDoor.AM
namespace Go.Proofs.YtapfankgdkdkgaaGreatDoor.AM
open Go.RowKit
set_option linter.unusedVariables false
set_option linter.unusedSimpArgs false
def WAt (i:Nat) (ws:List Lx.Wd):Prop:=∀w∈ws,0<=w.2/\w.2+((w.1.length:Nat):Int)<=(i:Int)
theorem WAt.mono {i j:Nat} {ws:List Lx.Wd} (h:WAt i ws) (hj:i<=j):WAt j ws:=fun w hw=>by have:=h w hw;omega
theorem WAt.snoc {i:Nat} {ws:List Lx.Wd} {w:Lx.Wd} (h:WAt i ws) (hw:0<=w.2/\w.2+((w.1.length:Nat):Int)<=(i:Int)):WAt i (ws ++ [w]):=fun x hx=>by
 rcases List.mem_append.1 hx with hx|hx
 ·exact h x hx
 ·rw [List.mem_singleton.1 hx];exact hw
theorem WAt.addL {i:Nat} {ws:List Lx.Wd} {c:UInt8} (h:WAt i ws):WAt (i+1) (Lx.addL ws c):=by
 unfold Lx.addL
 split
 ·rename_i t p hp
  have hm:(t,p)∈ws:=List.mem_of_getLast? hp
  have h0:=h _ hm
  refine WAt.snoc (fun x hx=>?_) (by simp at h0 ⊢;omega)
  have:=h x (List.dropLast_subset _ hx)
  omega
 ·exact h.mono (by omega)
theorem qoo : ∀(l:List UInt8) (i:Nat) (op:Bool) (ws:List Lx.Wd),WAt i ws->WAt (i+l.length) (Lx.qtt l i op ws)
 | [],i,op,ws,h=>by rw [Lx.qtt];exact h
 | c::r,i,op,ws,h=>by
  rw [Lx.qtt,List.length_cons,show i+(r.length+1)=(i+1)+r.length by omega]
  split
  ·exact qoo r (i+1) false _ ((h.mono (by omega)).snoc (by simp))
  ·split
   ·exact qoo r (i+1) false _ (h.mono (by omega))
   ·split
    ·exact qoo r (i+1) true _ h.addL
    ·exact qoo r (i+1) true _ ((h.mono (by omega)).snoc (by simp))
theorem jpj (t:List UInt8):WAt t.length (q11 t):=by
 unfold q11 Lx.j0e
 rw [Lx.qhr]
 have:=qoo (t.take (Lx.ji1 t false)) 0 false [] (fun w hw=>by cases hw)
 refine this.mono ?_
 simp;omega
theorem jqn (t:List UInt8) (h:t.length<=100001):WB (q11 t):=by
 refine ⟨Nat.le_trans (Lx.jq2 t).1 h,fun w hw=>?_⟩
 have:=jpj t w hw
 omega
theorem SB.mono {k j:Nat} {σ:MS} (h:SB k σ) (hj:k<=j):SB j σ:=by unfold SB at *;omega
theorem qht {k:Nat} {σ σ':MS} {c:Cl} {st:Int} {w:Lx.Wd} (h:SB k σ) (e:q1c σ c st w = .inr σ'):SB k σ':=by
 unfold q1c at e
 split at e
 ·cases e
 ·cases e;exact h
theorem jyh {k:Nat} {σ σ':MS} {v:List UInt8} {ws:List Lx.Wd} {st:Int} (h:SB k σ) (e:qtr σ st v ws = .inr σ'):SB (k+1) σ':=by
 have h':=h.mono (Nat.le_succ k)
 obtain ⟨b1,b2,b3,b4⟩:=h
 unfold qtr at e
 split at e
 ·cases e
 ·split at e
  ·split at e
   ·cases e
   ·refine qht (k:=k+1) ?_ e
    exact h'
  ·split at e
   ·split at e
    ·cases e
    ·refine qht (k:=k+1) ?_ e
     exact h'
   ·split at e
    ·split at e
     ·cases e
     ·exact qht (k:=k+1) ⟨by simp;omega,by simp;omega,by simp;omega,by simp;omega⟩ e
    ·split at e
     ·split at e
      ·cases e
      ·exact qht (k:=k+1) ⟨by simp;omega,by simp;omega,by simp;omega,by simp;omega⟩ e
     ·split at e
      ·split at e
       ·cases e
       ·split at e
        ·cases e
        ·exact qht (k:=k+1) ⟨by simp;omega,by simp;omega,by simp;omega,by simp;omega⟩ e
      ·split at e
       ·cases e
       ·split at e
        ·cases e
        ·split at e
         ·cases e
         ·cases e
          exact ⟨by simp;omega,by simp;omega,by simp;omega,by simp;omega⟩
theorem jkg {k:Nat} {σ σ':MS} {v:List UInt8} {ws:List Lx.Wd} {st:Int} (h:SB k σ) (e:q47 σ st v ws = .inr σ'):SB (k+1) σ':=by
 unfold q47 at e
 split at e
 ·exact jyh h e
 ·cases e
theorem jhj {k:Nat} {σ σ':MS} {ws:List Lx.Wd} {st:Int} (h:SB k σ) (e:qav σ st ws = .inr σ'):SB (k+1) σ':=by
 unfold qav at e
 split at e
 ·cases e;exact h.mono (Nat.le_succ k)
 ·split at e
  ·split at e
   ·cases e;exact h.mono (Nat.le_succ k)
   ·exact jkg h e
  ·split at e
   ·cases e;exact h.mono (Nat.le_succ k)
   ·exact jkg h e
def tot:List (List UInt8)->Nat
 | []=>0
 | x::xs=>x.length+1+tot xs
theorem j6p (c:UInt8) : ∀(l cur:List UInt8),tot (spl c cur l)=cur.length+l.length+1
 | [],cur=>by simp [spl,tot]
 | x::r,cur=>by
  rw [spl]
  split
  ·rw [tot,j6p c r []];simp;omega
  ·rw [j6p c r _];simp;omega
theorem j23 (s:List UInt8):tot (Lx.q0p s)<=s.length+1:=by
 unfold Lx.q0p
 split
 ·simp [tot]
 ·rw [j6p]
  split
  ·simp
  ·simp
theorem j0u : ∀(ls:List (List UInt8)) (i:Nat) (out:List Lx.Ln),(Lx.q4z ls i out).2.2=0->Lx.q4z ls i out=(out++ls.map Lx.j0e,(((i+ls.length:Nat):Int),0))
 | [],i,out,_=>by rw [Lx.q4z];simp
 | x::xs,i,out,h=>by
  rw [Lx.q4z] at h ⊢
  split
  ·rename_i hc
   rw [if_pos hc] at h
   rw [j0u xs (i+1) _ h]
   simp;omega
  ·rename_i hc
   rw [if_neg hc] at h
   cases h
def fauT (i e:Int):IV:=qn5 128 (.agg ⟨[.int .i64 i,Subtype.val (errT e)]⟩)
theorem joe (i e:Int):qxq (fauT i e)=some (i,e):=rfl
theorem jjg (i e:Int):q42 (Subtype.val (fauT i e))=some false:=rfl
theorem jpa (n:Nat):qlb n=q3j n:=rfl
theorem j0w (n:Nat) (ls:List (List UInt8)) (a2:Int) (hl:ls.length<=100001) (hx : ∀x∈ls,x.length<=100001) (hn:200000<n) :
  ∀(m j:Nat) (st:Int) (σ:MS),j<=ls.length->ls.length - j<m->0<=st->st+((tot (ls.drop j):Nat):Int)<=1000000->SB j σ ->
  match q5t (ls.drop j) (j:Int) st σ with
  | .inl e=>∃ y,q3j n m (ls.map Lx.j0e) a2 ls ((ls.length:Nat):Int) (j:Int) vbs σ.sd σ.mo σ.go a2 st σ.bk σ.rq σ.sw σ.ex σ.rt=some (Sum.inl ((j2e,(fauT e.1 e.2,())),y))
  | .inr σ'=>∃ st',q3j n m (ls.map Lx.j0e) a2 ls ((ls.length:Nat):Int) (j:Int) vbs σ.sd σ.mo σ.go a2 st σ.bk σ.rq σ.sw σ.ex σ.rt =
    some (Sum.inr (((a2,((),())),((vbs,(σ'.sd,((σ'.mo,(σ'.go,((),((),((),((),(a2,(st',(σ'.bk,((),())))))))))),()))),(σ'.rq,(σ'.sw,(σ'.ex,(σ'.rt,()))))))))
 | 0,j,st,σ,_,h,_,_,_=>absurd h (Nat.not_lt_zero _)
 | m+1,j,st,σ,hj,h,h0,ht,hs=>by
  rw [qin]
  unfold qoc
  by_cases c0:j<ls.length
  ·have c0':((j:Nat):Int)<((ls.length:Nat):Int):=by omega
   rw [List.drop_eq_getElem_cons c0] at ht ⊢
   rw [tot] at ht
   have hxj:=hx ls[j] (List.getElem_mem c0)
   have i2:q1b (ls.map Lx.j0e) (j:Int)=some (Lx.j0e ls[j]):=by
    rw [q0o (by rw [List.length_map];exact c0)];simp
   have hL:=jac n σ (q11 ls[j]) a2 st ⟨h0,by omega⟩ (jqn _ hxj) (hs.mono (by omega)) hn
   rw [q5t]
   simp only [c0',decide_true,cond_true,q0o c0,i2,Option.bind_some]
   cases hr:qav σ st (q11 ls[j]) with
   | inl e =>
    rw [hr] at hL
    obtain ⟨y,hy⟩:=hL
    unfold q11 at hy
    refine ⟨((),()),?_⟩
    rw [hy]
    rfl
   | inr σ' =>
    rw [hr] at hL
    unfold q11 at hL
    have hL':_=some (qb1,pk σ' a2 st vbs):=hL
    rw [hL']
    have e1:IntKind.wrap .i64 (((ls[j].length:Nat):Int)+1)=((ls[j].length:Nat):Int)+1:=wrap64 (by omega) (by omega)
    have e2:IntKind.wrap .i64 (st+(((ls[j].length:Nat):Int)+1))=st+((ls[j].length:Nat):Int)+1:=by rw [wrap64 (by omega) (by omega)];omega
    have ih:=j0w n ls a2 hl hx hn m (j+1) (st+((ls[j].length:Nat):Int)+1) σ' (by omega) (by omega) (by omega) (by omega) (jhj hs hr)
    simp only [pk,qb2,Option.bind_some,Bool.not_true,cond_false,q08,e1,e2,q07 (show j<4611686018427387904 by omega)]
    exact ih
  ·have c0' : ¬ ((j:Nat):Int)<((ls.length:Nat):Int):=by omega
   simp only [c0',decide_false,cond_false]
   rw [List.drop_eq_nil_of_le (by omega),q5t]
   exact ⟨st,rfl⟩
theorem qx5 (n:Nat) (s:List UInt8) (hs:s.length<=100000) (hn:200000<n) :
  match qjp s with
  | .inl e=>qcu n s=none/\qgt n s=some (j2e,fauT e.1 e.2)
  | .inr (σ,k)=>∃ st',qcu n s=some (((),qb1),pk σ k st' vbs):=by
 unfold qjp qcu qgt
 obtain ⟨l1,l2⟩:=Lx.qag s
 have l3:=j23 s
 rw [Lx.jqq n s hs (by omega)]
 by_cases h9:(Lx.q4z (Lx.q0p s) 0 []).2.2=0
 ·rw [if_neg (by simp [h9]),j0u _ _ _ h9]
  have hlp:=j0w n (Lx.q0p s) ((Lx.q0p s).length:Nat) (by omega) (fun x hx=>by have:=l2 x hx;omega) hn n 0 0 ms0 (Nat.zero_le _) (by omega) (Int.le_refl _) (by rw [List.drop_zero];omega) ⟨Nat.le_refl _,Nat.le_refl _,Nat.le_refl _,Nat.le_refl _⟩
  rw [show ((0:Nat):Int)=(0:Int) from rfl,List.drop_zero] at hlp
  simp only [Option.bind_some,decide_true,Bool.not_true,cond_false,j7x,Lx.jat n s (show s.length<=1000000 by omega),List.nil_append,Nat.zero_add,jpa]
  cases hr:q5t (Lx.q0p s) 0 0 ms0 with
  | inl e =>
   rw [hr] at hlp
   obtain ⟨y,hy⟩:=hlp
   rw [show ms0.sd = [] from rfl,show ms0.mo = [] from rfl,show ms0.go = [] from rfl,show ms0.bk = [] from rfl,show ms0.rq = [] from rfl,show ms0.sw = [] from rfl,show ms0.ex = [] from rfl,show ms0.rt = [] from rfl] at hy
   rw [hy]
   exact ⟨rfl,rfl⟩
  | inr σ =>
   rw [hr] at hlp
   obtain ⟨st',hy⟩:=hlp
   rw [show ms0.sd = [] from rfl,show ms0.mo = [] from rfl,show ms0.go = [] from rfl,show ms0.bk = [] from rfl,show ms0.rq = [] from rfl,show ms0.sw = [] from rfl,show ms0.ex = [] from rfl,show ms0.rt = [] from rfl] at hy
   rw [hy]
   simp only [Option.bind_some,Sum.elim_inr]
   by_cases hb:σ.bk = []
   ·by_cases hm:σ.mo = []
    ·simp only [hb,hm,decide_true,Bool.not_true,cond_false,cond_true,ne_eq,not_true_eq_false,if_false,if_true]
     exact ⟨trivial,rfl⟩
    ·simp only [hb,hm,decide_true,decide_false,Bool.not_true,cond_false,ne_eq,not_true_eq_false,if_false]
     exact ⟨st',by rw [<-hb];rfl⟩
   ·simp only [hb,decide_false,Bool.not_false,cond_true,ne_eq,not_false_eq_true,if_true]
    exact ⟨trivial,rfl⟩
 ·rw [if_pos h9]
  simp only [Option.bind_some,decide_eq_false h9,Bool.not_false,cond_true]
  exact ⟨trivial,rfl⟩
theorem q9z (n:Nat) (s:List UInt8) (hs:s.length<=100000) (hn:200000<n):q2u n s=some (q1r s):=by
 have h:=qx5 n s hs hn
 unfold q2u q1r
 cases hr:qjp s with
 | inl e =>
  rw [hr] at h
  obtain ⟨h1,h2⟩:=h
  rw [h1,h2]
  simp only [qq0,Option.bind_some,jjg,Bool.not_false,cond_true,joe]
 | inr x =>
  obtain ⟨σ,k⟩:=x
  rw [hr] at h
  obtain ⟨st',h1⟩:=h
  rw [h1]
  simp only [qq0,qb2,Option.bind_some,Bool.not_true,cond_false]
  rfl
theorem j91 (n:Nat) (s p:List UInt8) (hs:s.length<=100000) (hn:200000<n):qdp n s p=some (j1c s p):=by
 have h:=qx5 n s hs hn
 unfold qdp j1c
 cases hr:qjp s with
 | inl e =>
  rw [hr] at h
  obtain ⟨h1,h2⟩:=h
  rw [h1,h2]
  simp only [qq0,Option.bind_some,jjg,Bool.not_false,cond_true]
 | inr x =>
  obtain ⟨σ,k⟩:=x
  rw [hr] at h
  obtain ⟨st',h1⟩:=h
  rw [h1]
  simp only [qq0,qb2,Option.bind_some,Bool.not_true,cond_false,pk,jf0]
  show some _=some (match q0c clT (q8y,(p,v0)) σ.sd with|some x=>_|none=>_)
  cases q0c clT (q8y,(p,v0)) σ.sd<;>rfl
end Go.Proofs.YtapfankgdkdkgaaGreatDoor.AM
