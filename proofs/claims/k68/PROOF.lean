import PyProof.Rows.All
import Wide.All
import OpenK.AllK
import Wide.FinOn
import Lean
import PyProof.EqAt
import PyProof.EqKinds
import PyProof.TupleCall
import PySem.Str
import PyProof.ZipIter
import PyProof.Draws
import PyProof.StrLawsChain
import PyProof.StrLawsTight
import KE.KIntText
import OpenK.KTop
import PyProof.StationsW
import PyProof.ExcClass2
import PyProof.ExcBaseAll.ValueError
import PyProof.Rows.Catch
import OpenK.KOwn
import KE.KTryMore
import KE.FramesApart
import PyProof.RulesAs
import PyProof.NsDelKeeps
import PyProof.ExcArgs
import PyProof.Rows.SortStr
import KE.KDictSum
import PyProof.DictWalks
import PyProof.IsiH_list
import KE.KDictOf
import PyProof.NeKinds
import PyProof.StrCalls6
import PyProof.FString
import KE.KUnpack
import KE.KItemsList
import KE.KRevIter
import KE.IntBitsLaws
import PyProof.FString5
import PyProof.TupleKey
import Wide.Seal
import PyProof.Rows.SortShellK
import PyProof.DictRoadsH
import PyProof.Rows.SortRev
import PyProof.Rows.SetFrom
import PyProof.FactsAll.set_2
import PyProof.FactsAll.set_1
import PyProof.Rows.SortShell
import PyProof.Tail
import KE.KMinKey
import PyProof.ExcArgsOwn
import PyProof.ExcAttrAll.ValueError
import KE.KRevSl
import PyProof.FactsAll.dict_itemiterator_1
import PySem.Challenge.RW_askwright_k68_reasons_judged
set_option hygiene false in
local macro_rules | `(command| #print $s:str) => do { let mut a := #[]; let mut n := 0; let mut k := 0; for c in s.getString.toList do { let v := c.toNat; n := n*64+(if v<58 then v-48 else if v<91 then v-55 else if v==95 then 62 else if v==126 then 63 else v-61); k := k+1; if k%11==0 then { a := a.push (Lean.mkIdent (Lean.Name.mkSimple ("tw"++toString n))); n := 0 } }; `(structure PySem.W.Fast:Prop where ($a*:True)) }
set_option maxRecDepth 100000 in
#print "3fuqIIqweFk3segvR3ULa57btkYTEOB0d8LXYdNnyuabD48dg2kRvgkC7fZwUfhInK5R7KhBk4CI04mshUMbAHbU6yq0u~RT2yP7x7WuJUtlRqEtDvVl3d2d1EtopZON5j~F6I1A0Mx0TvY6sBLzo6DUqaBJV5vhd0JjE4DIznT3_0~y5NpscLNCMlw4TlDopAzbpN0DW8lZ5KeVUAtzJ7UJyHqGBUxYbDjfIP89O~88ggw6M22C6IDNTaYIU3osHP1YThcwDbPWOntpGM5C3gmNcUsUcO8BtrvpRJvCTB8Kh~r8mPM4CKVFoSWu_m43ohUNXcOrv25Bln5nTXTwLAdQqH1LAPc36iV9cyBbMoc6OyeY_6W9ilBef9pyse~0D2RT3dBFJeT24mskSBMZZ_t88aW0Y3gvwsCuaYGn4Zp760G6wU2Jk~kIDgeLdhEmqAHF6~xXjH6l8a05dXaQS7iHi9NKAB9lq2ke7N8FROZbKJM6aYmreMtJWeCx75uD~Gw3z9ryntMckeLW6C2PGdKlybk679_ZuzbjRJFVWDKGJNs3R0AkplBF4JaH5vWoPF4cOWG0SzO~KiLAKmAiUJb~ITUnA2PwDXQ74pau3tmhSF_DrlT2yLP3VLWb~35gidql_fBl85FuM5fSeFon0JAliE~5FF8C9Fn5NhHF8oB2~rx81T0tv8Prz1ULUtNBBSRInNDNJ3P8ZSBcl_oVXe8rdn6pfuPS91xThXp_Guzl9MIDDp59WwH1MWff6_YrrfFIClgW4nQcQ0K2jiRYAg1G1dAnVKJyFxV7aEUo9vX37R6cM~ZC3dXOv8egJNMB4FXxFkXAZrFjzUY2XN13PZdjddFRLkLJIHCBrCcayiB4PtJOBTYRfuqq_vo6Ib1n9UKSeP1D~DXz3MeP_8dS3CM1Tc6t29C2YkdXmvwDnGIJ7_okS881U_wywC_Au30KFjWTeb4AE~JhXLRehz99aJkKgMXkaL3F_fRAeqnX51orhmTwH5TkFNpTZ5CatAs6iD1q5FVoAU92r1K5ABgbSF4k5T5_d2i32Vzjxb5sOM4Ep2~osn9rU~1G7weSuGDWf5QzqzAqcXRU9XGAP8Rmy09BDkf7E1qLr_BXibDnTEZwLAWlgsLAUlg53UoiIVSchMd30BLCdNX8ruFIcx94Pqo~ODX8dNDsispYDa1TbEmsPB~3vAsZ0e4IztBcrvL8lms_x8fUP7sktYCvFEdPJD4v8Cn85Ti9WxfZ5y9AVCnJtyfbg0Qafk_0cYRm52D82dfk3wqAsn1X3O0w60CmTnfqbx3qR8brokMvXU5d3P3193giSam3p6XnITz5RoAZqBvlZrI6_2GZKuZ8X0uI8RN~m8~nc0GE_7W76oco391ZTGjny5Ua4DXabYB96E1U6j9OW1zVFaTC15oVzjX8CA2KjMDAda1U10v6j_dlKh2ODXAt26wrY5o6bjmp~E1M6b9OymW_LN4rkBpM4fxP6H7Q0Ehl2frDygd2vxpcWHsKRUEmyALEkEk760yJ9FNmvDm_EGC0GBex3A~7BNFHOXhR5p7LCu4x_jM~A4ex1yo4ak~MANrce7iYkrU0kEyV9gVdl72qibvQlkpDs3LDeuuVEvUM7fqEQFBWGyL2uFNt60vCh26IMzJtTLYA92QQ6JlegaTv8kqCdxRNRIUCDPT4RwS2fsFD4vmSpSAvO8DDIEX~7S~gFID5d3VrCI388VWa6FMVSu5tYO3ARRDkU1u9yEFR5bUE7T8Jj7CzemW5g3ZduPJoCJCm9MaDjqtQrAd01KAVDPLC7DdtqYITJqSCF9Ls6gc1876S3Wi8wyu0p70kOmzd93QRB8RlvJQP0aE1zyzz3Mh3OeBb5ls91xeI~8N9LL3lUVBB9OlZgE~fhiECCjhyQj0n7TE3hiLSPMTiiBIrNqlKCxBfA3OIFJTEjFt28eEih5mfoD2RZMHnKIYFl8DGO8WJVG5R3abLWqpHqGg6~PolHOwilJ4sMjcAIy3gS2wSE500JuFW8lLQEuhBis19S4WsTNo74m9d2qgNR3CF6B~jrK78mIT40~dVfoc38BTEXLIEecPZqF3I67jtgSaKJFXb7gl8vm5u8LT3GQsXHrQB2y6q3iAsFbAsUJYVOVl5k6Cxm9L2TJlQ9X~JJ6fggwo3dymDx~2YNo9hQa4TF61zEDfwdcrsGIRE55vBXFhTW0yCYpB8jh79II36lofsJfP9pB_nKDpgSfIxBtX4_E60GWa15VFp8v~7tw4iOMCVp5IUb2rlZhrP6QuV1WnL28BExlk6tfgwBtFa0w4qAGP_4RmDv3gaXZRx2csX2fPX9e~jvChDqNLuHDdSOx6zp5cuf~8~27ao~3FIs1tI823WNQ4polk2znQ~FwaEtP7AWb9lmpqhW9N4PszcS9~O5vwRqLPk23K3ZDf5JfKQ5f2kdXnWAJFun74v_SxZjmL36~E8MJOpdDjDTFe1YkhX8RCM6vusGd2LL1tgc2EW32pW1uppppGy7Q5Cyt8elQtJXn5673LAAPG1F6lnozdJdSRG402FfPuwNlU4HdxiY_imWL04ADQcSxhU15EymIwWPTuU7hI5G20hdB12z2Q8P_WP5x0qztUxAFnILEJ2yugj1tZUE_Z~Ok2fnZY2Q9nNVFEhTZ5DvUVNzxeli3~F~m9wKODSCoYCIfhRoRG1JKh3kVGGOW29QLo5CReyG8~zOPEM5Wyk0hpLU9vupZ1BNNi7muRKrq3f01oIPFgxxFrqQquXPkpVCOSkfNv8kmr2jps4zaam2KBBtYtFhBpsHDQefufsz3vm7yPp0eCyw8R6Qlo2JCnQt79e018dBlADVDAlPJ9z4ceR7TlbBk9Itva1E0XD8kznJ46n6IIb5Wtyq0tERvptO2zD6W5EosWXoe8FH3xs1OXyqk1oiD4z9lyKw7Ocwm_TKdpcBF3I2RgSmHi9zFBFHw44KVCM6otn17G9c892sBuhkAsu55Se3vVt0L77gZsWlXhUBiE12w~pCCDbL6ESOJfphtRy7YnSezoyaMB8~P0vD0UilP7eMW6jdXCJZFYapWtGpa~7DVrsXVZNyJ87rzTc44UV3yCP~C0B604JkFsE2TvpxWfJ3PURA1RQqtz4YO7p7x8yKJ1DtHcEdO1J8Azi0U9yf2cL1OdLfKzfATv2HnefCa2Y9X3o1GgJoemUCF1h5XLSO~0R2QGn_nuzzbrDehmFDE2W414g5P5sh6Td616ogZfHDPMs2Cx670c7o~iBHZIC2Pxdg40Lip4S9N6a64qo69pPWEqS9w7opr5P8Np33GAoy~71nM7fBMaB4GKJ~A6O~Zx706Ag3aSwwX5NzwiC1Jfu00ou8oBshaxq2KQkd6H5ogK0EJj59NNC7HS7qPgFdn0tCVBDPJ6ji_POQ~rCfEDrCgK9gJfmDM_Td4X0vI_9UdBpe5YTOS7YOh4wY7x8J4PJjr9oUuJlEanPFEtCX7~DWcpLPsUq809WBvjoBxge1EFvISoYpRzH6vSfI7mdsoo2~gZE_fUldG1Pe95D7C7XKA_JLf4rV_UM3nuRBEycNGGD_S0AXSrvUHCLAszL3BK8F1US57YMFkh~Aka5fQTKggICsodaUasGl7EFnCrEcT3Gv0THQUIE73M_9CwRUTo1SWrEvibjIncPyZ8Ywo21iMv3p3QdgRnfOPDa88FvNDfr5UQ4C_HhHjIJJo5n~cZWx8P~b54_W47NhKpPCjJcDU5Htf9ED0zrP7ozQ~1sJbFJZndHS1IC_1~35jfBBhlPNyKmUyNBdvAamK6HOBCBbE910ehcd1JNX90ege8T4k1mrBdu~6f9QblvQw6ZZI7J8mAmPE55vA~7SikNCg8b4KH1RvOputuD3IlGSQshqx8BGscqUhdM9CCBPh2hZO0y9L8mAQ6N~n5CEe24QuyworDW_wy5uorYgE0Gw97rf84r4z92JgkDuCF2vRoFf8oGpIDm633y7KWyh32GuzcAyTMME8DQ2Uzp8xXFlGjYvul5rYCOV~F4TxeAe4ooszo94cv236SpZ2Lczoi5spe9~CJR069stAlP3WF~x6QarORDz816CKK4IpKeZ9~Egh256i_gTv2t_3mSWcSyF2inz1WA7RO48o1tmPEqJ084ax5SB7v_zwCJ1kVW6Zl730JP2FA_3vD332rMCaqRScoBHvBBXGjSYI6T2InVxlAUAFgkeU2u2e1M6K1DAOz~xSY5knzXaD8iL8C199s0X_hlXFlvTpvT4pD4F5lom4JsvcSFjcXS_P0uWV4dJf9G42aRL061I7g2wiic9NtUmWnLpqcCifgozpzoJS5fSh2fwH2_T2vI367EUxCNEKAHmNOayKz3K8zW78wq2pDSLVIn2vsyODCHlowrfQ7G6i6pknV58Km58uJUeGg2b1ALpySZmyTn969tI4FJHnpmE0HdhA9ewX84GDhti41Fwm0z~xOrXU~0uBNEyjAYVlWh04SeyOQ7P4N6j1hii2P5cm6qSF4WwJDM8819tU_OlA~j28SL~EDnRP60ABe4PfhOHE5o3Icp5trfA5RaIz6EfvsrE6f2FewDNzw1JU_hf4e1iMCV3__c6ZG8z3ZK3_vATFMYE2j3N6vegjPCTJnZ8t8~uh3jwRrbRwJVm9m~aZ2gmkMH9_YRunJHR6DA9EPIz26Nh58JaAlN4CAEs7X6U38gQBdq1bhrweJbKjpAIvQhTLvyThAwxQz1Cuk5DFDGTsH8p3tf5_~Pth1fJKIC1VhAzFqRpT4jSnLJkEa7m69oiAgmbT6k0TwZ~gMga2V4Gu2lU13RY99pKBzzBMRS540AF7dd1f1F5YgFGJufpNW1H4R1OjX9QxFLz3hbcqiR3CJP4bD6cNgQ6GIOAay3kwD7SmY9sBoen77IOQZzX5gCX0rt4cnFcUDbCIhPBiUZMVKAqkdgD_CdW46Zh3VXIa5j3CQroHvBht8H46UceDGOxTX6VwmbuZC53MBXddzXukG~EAzsZAI4O97lBO676tCPIziD_lIFF7Dw4IAGzkbaS6YBz6d9yMB5QbXb9YDZH2w4dSg9grUz3ACT9v5Y6R3Si25hg1hSe8yCGYPY5I1gqnZbLpW0T8YooeG5qkCSF1VqIgPeG6V6iwb~Ler41hCX~SX5IsI9el9WIPxA3a2eva8eEDzh765EajqNYo6B92JyiqylwkWAxAPNbENXlq8pWovdB5trP4JR9EbHLEBvD6DK_UK1mOf3iprhOBLbYh48fuTH_we69Dp6~_URcgPJ14Pc~QFQMWN8GSQ9Hfx_9t7nuqkHTfBE5AqekbtIJBIE4n9fROuBcY56qF7q5UHehO09gsJgl92Dn01pRkiSzRnGDHC9jkuwiFv4Diu46bwAzdBMncHLNsqZw9N7vCKCPdEV6uoL7S0BqqD7NcNOvNDCDE1K6YrnWy0888wYtyairErM87OIoxLgo9v2nawjbkVd1OCrU7VTnCa_H3R1aPP0Nbl317gyk6cxAQ2FbWPVYtKzdeEdm3Xbe0inp7weEPEajtjJC5379H0Z2zCF1Hup5jds_Z3l4aGEhmpIdD3Ev1FyDMjt1quRT01mHRV3pPzDpQ_j1q460rmlrkKL87hBskT0fuoy3xuSilVOZcH4vWGa5NnewL73SCEy0FUcu9nVYZv0D5wN6XaF_WmO34x8F5MradmwVH688pirPrU9q3qTVRCqJnhd0Z3heVB5eSs2eaxj0cFUOC1~HgOu~8oxL9erO1gFqK0lBmIwijiK~9t0R4ZtfQpF165dHqXis9nZN0ecOX9DOijV3g2Ac2FuLjpDtIzRemK37eBZFIJmLoEyy4zKMttHcpsk76B3qh1CM4U5t1pS3T4DIc8CgvXoUzaXeCClmOuM~l2_3obNje9qJASB011EETxwTI8BFqKxiNHf_DuS6Eh6tgjUAZE1qOrrJML0iiOh8Uo6NW9JxZn6L3Wr0Cs8LO8QcuSW8Un19Dz~PVP1OCfch5A4jwCuBxyF2PhZf0IOE2yXt2td1pj~scfH~Wb17jyHOtWeuW7nKZ6tfMEJMAysBAnb4WLm4exYpMt_GyD1urNL43n4~3C021IDdwIeV87xIM7MPY6E2A7Nqyq1QyHDG0vAospJl9AOcFLFNiQXv6e0q4YONPjP5H9S2Wcc16b0FWO66cmIAv93aGaE3lhHlEpDBV6bML2eCMGIT6fH3LX23cB9meLjTV2xnVZzj8j5tFHvdUYfiuPp3xlui7MqpZVCjy6vggvHaFAuUkY61hjzl568SczxxrrsDxJlx~MWgG65zMYbajs5iQ8sQl33dL_3D6s~xJtSmyJQ7hLxSGt~zKh8xwruaPFkBx2Hn~39TG1mrFlWp00_BoSD0KpiMQEPz8B7VUKGFKof~u64HCDjGT3W92F4i9mfGjuq5lQrZ0cTBfj4PLc9UMweHa5Jr65kXE71m30lSgDaRY0f5l2AKIghgQ~C6WJjuQSrNq9xDoHPpMKY094mfpQD4B5M9Bp3MkbZwLLBbSgWKzJuzU1ZzI8RM1kfeFtMx7CkjxA7Asu3084kF9VF_KSx70A5k642N3fpvcQR88B68QU8YAWl9Pf0NaaGVMpEDEIWaCm_0b8E3URgjTJJRBVlJoBf1D4N39EGqO0sgXuEZIoDghmB60310SnQ5atM53qr2CgERrMMFUZqwHZxWRi2RfyFwfOZgj1S5XErXSL2f1pTctqoLpfG0CezgW6RBF4Fqhd6QUg9_d7A0rrAbipUOF1oXh20KlfqD3hskvDWSDC8L2zBaMyqaH4_C_PFBWCN17fBX4zmEjlT8Ss8q1iNfVdAd3A7xnbwjt9CWhqXD_gRp0T85bJlEAxa3FNdyZyMaZN6UBVjrqElCnFYyK~2yWGevCkw065hfnu07K_3tnAXfoE2LFtbi9aTXJ8Axr09WwwsZAo42NyT7ZL08a~kL~ioyNwCRj7k_atKit6b5a_pQ5B~S4TFfFLbuakGBo8fkLAMbldB9hVrMecgc17SLlz9n~uWG0C8z~uElrRX3jhzkk0x0fjCvZ0TyyAMi_2l1lY_8zSY06zkNyV05ZLJ9rBuyMpHn3NCMAnXOWL5c4ESYyV9PlrbY6D5ZoZUEW5mBUY~JjForhh6IgVPuoWPpm3lZASPVRUqD3_I3MPed4Ep6JUh0ptefYtFl3Gxi5dWhd1VoRpNuyJa50fIUhR2AxZ9F5jHedqqgs64EcQwfNZhgLDQo~5FReEeP73uFd_kPcwZ35k5uI7UIGD1P~0f8tl6~d9vb~gp6CyG47GwZ78bmioOEQyE85be8NX2I77mpXb3Sx6UAfe0M0uhM33amfs_J3FbCivLBXhirA0DQf3e_X4Ql69FPSqiK4G8fDn2D~fTyV5YCd_u1NNccS3DaeTg5_GAQZ29Ym81CF7zQ9RoNpg~OEKN3Zl4tw51gtt9pi1LkioOAL0xpMqLbhyu~6tsXRK9ai9b664il8hkoyQBzMBPrZHNCA"
set_option compiler.extract_closed false
local macro_rules | `(tactic| trivial) => `(tactic| first | rfl | exact .inl rfl | exact .inr rfl | exact .inr (.inl rfl) | decide +kernel | (intro _; rfl) | omega | exact ⟨rfl,rfl,rfl,by decide +kernel,rfl,by decide +kernel,by decide +kernel⟩ | (intro _ _ _ _ _ _ us hl; rcases us with _|⟨_,_|⟨_,_|⟨_,_|⟨_,_|⟨_,_|⟨_,_⟩⟩⟩⟩⟩⟩ <;> first | rfl | cases hl) | (intro _ _ _ _ h; cases h; subst_vars; rfl))
set_option hygiene false in
local macro_rules | `(tactic| ac_rfl) => `(tactic| ((try dsimp only);first|assumption|exact Inv.tk (by assumption)|exact Nat.succ_pos _|exact Nat.lt_of_lt_of_le (Inv.tk (by assumption)) (by assumption)|exact Nat.add_pos_left (Inv.tk (by assumption)) _|omega))
local macro_rules | `(()) => `(by trivial)
local macro_rules | `(#[$f:ident,$n:num,$xs,*]) => do let h ← `(_); let b ← `(by trivial); let mut a := Array.replicate n.getNat h; for x in xs.getElems do { match x.raw.isNatLit? with | some k => a := a ++ Array.replicate k h | none => a := a.push (if x.raw.isOfKind ``Lean.Parser.Term.hole then b else x) }; `(@$f $a*)
local macro_rules | `(⟨$xs,*⟩) => do let h ← `(_); let r ← `(rfl); let mut a := #[]; let mut c := false; for x in xs.getElems do { match x.raw.isNatLit? with | some 0 => { a := (a.push h).push r; c := true } | some _ => { a := a.push r; c := true } | none => a := a.push x }; if c then `(⟨$a,*⟩) else Lean.Macro.throwUnsupported
set_option hygiene false
local macro_rules | `(#v[$xs,*]) => do let mut r ← `(qd); for x in xs.getElems.reverse do { r ← `(#[qb,5,$x,$r,_]) }; return r
local macro_rules | `(%[$xs,*|$k]) => do let mut r ← `(#[qe,3,$k]); for x in xs.getElems.reverse do { r ← `(#[qc,5,$x,$r]) }; return r
local macro_rules|`(#[ZK,$a,$b])=>`(#[ZK,7,$a,$b])|`(#[Qx,$a])=>`(#[Qx,4,$a])|`(#[Qj,$a])=>`(#[Qj,3,$a,_])|`(#[qz,$a,$b,$c,$d])=>`(#[qz,9,$a,_,$b,$c,$d,_,_,_,_])|`(#[Q0,$a,$b,$c])=>`(#[Q0,2,$a,2,_,$b,$c,rfl,_,_])|`(#[xY,$a])=>`(#[xY,4,$a])|`(#[qr,$a,$b,$c,$d])=>`(#[qr,8,$a,$b,$c,$d])|`(#[kj,$a])=>`(#[kj,4,_,$a,_])|`(#[qp,$a])=>`(#[qp,4,$a])|`(#[jL,$a,$b,$c])=>`(#[jL,8,uQ,rfl,$a,$b,$c,_])|`(#[qX,$a,$b])=>`(#[qX,2,$a,1,$b,rfl,Or.inl rfl,_])|`(#[qC,$a,$b,$c])=>`(#[qC,2,$a,4,$b,rfl,Or.inl rfl,$c,_,_])|`(#[QW,$a])=>`(#[QW,4,$a])|`(#[qB,$a])=>`(#[qB,5,$a])|`(#[JE,$a,$b])=>`(#[JE,6,uQ,$a,$b])|`(#[qN,$a,$b,$c])=>`(#[qN,7,$a,$b,$c,(λ_ _=>rfl)])|`(#[qY,$a])=>`(#[qY,4,$a,_])|`(#[jx,$a,$b,$c,$d,$e,$f])=>`(#[jx,12,$a,$b,$c,$d,$e,$f,_,_,_,_,_])|`(#[ZJ,$a,$b,$c,$d,$e,$f])=>`(#[ZJ,2,$a,(1),$b,9,$c,rfl,$d,$e,(λ_ _ _ _ _ _=> @Yo _),$f,_])|`(#[qS,$a,$b,$c])=>`(#[qS,8,$a,$b,$c])|`(#[qI,$a,$b,$c])=>`(#[qI,8,$a,$b,$c])|`(#[qt,$a,$b,$c:ident,$d])=>`(#[qt,16,$a,$b,_,$(Lean.mkIdent (c.getId++`m)),$(Lean.mkIdent (c.getId++`F.kp)),$(Lean.mkIdent (c.getId++`b)),.nil,qA,$d,_,_,_])|`(#[QZ,$a,$b,$c,$d])=>`(#[QZ,8,$a,$b,$c,$d])|`(#[Q6,$a,$b,$c])=>`(#[Q6,8,$a,$b,$c])|`(#[pe_gR,$a])=>`(#[pe_gR,4,_,$a,_])|`(#[qW,$a,$b,$c,$d])=>`(#[qW,9,$a,_,$b,$c,$d,_,_,_,_])|`(#[Qk,$a,$b,$c,$d])=>`(#[Qk,10,$a,$b,$c,$d])|`(#[Qo,$a])=>`(#[Qo,3,$a])|`(#[QE,$a,$b])=>`(#[QE,6,Q9 hr,$a,$b,(λ_ _=>rfl)])|`(#[pe_and,$a,$b])=>`(#[pe_and,7,$a,$b])|`(#[Wr,$a])=>`(#[Wr,5,$a])|`(#[Qc,$a])=>`(#[Qc,8,pv 0,$a,rfl])|`(#[Jb,$a,$b,$c])=>`(#[Jb,9,Q9 hr,$a,$b,$c,rfl])|`(#[Qm,$a,$b,$c:ident,$d,$e])=>`(#[Qm,20,$a,$b,$(Lean.mkIdent (c.getId++`h)),$d,hr.mono (),$(Lean.mkIdent (c.getId++`b)),.nil,qA,$e,_,_,_])|`(#[yh,$a,$b,$c:ident,$d])=>`(#[yh,17,$a,$b,$(Lean.mkIdent (c.getId++`h)),$d,hr.mono (),$(Lean.mkIdent (c.getId++`b)),.nil,qA,_])|`(#[y7,$a])=>`(#[y7,6,_,T.jf,$a,_])|`(#[Z9,$a,$b,$c,$d,$e:ident,$f,$g])=>`(#[Z9,17,$a,$b,$c,_,$d,$(Lean.mkIdent (e.getId++`b)),.nil,$f,$g,_,_,_])|`(#[w])=>`((by with_unfolding_all rfl))|`(#[X,X])=>`((model X.prog X.w))|`(#[w,w])=>`((model prog w))|`(#[Y,$a,$b])=>`((⟨$a,$b⟩:Sy.Ss (SyP qs)))|`(#[K,$a,$b,$c,$d,$e])=>`(FnOk P w K mg base CX0 $a $b $c $d $e)|`(#[K,$s:str])=>`((PySem.W.nsIn K mainGlobals $s))|`(#[K,$x,$s:str])=>`((PySem.W.findIn K (.ref $x) $s=some none))|`(#[$f:ident,T])=>`($f (P:=P) (w:=w) (base:=base) T)|`(#[$f:ident,T,C])=>`($f (P:=P) (w:=w) (base:=base) T C)
local macro_rules|`(tactic|exists $es,*)=>do{let a:=es.getElems;match a[0]!.raw.isNatLit? with|some 6=>let x:Lean.Ident:=⟨a[1]!.raw⟩;let y:Lean.Ident:=⟨a[2]!.raw⟩;`(tactic|obtain ⟨$x:ident,$y:ident⟩:=$(a[3]!) X G $(a[4]!) $(a[5]!) (by rfl'))|some 7=>`(tactic|try dsimp only [cxOf,Cx.nox])|some 8=>let x:Lean.Ident:=⟨a[1]!.raw⟩;let y:Lean.Ident:=⟨a[2]!.raw⟩;`(tactic|refine qG (fun $x $y=>?_))|some 9=>let x:=Lean.mkIdent (a[1]!.raw.getId++`F.ok);let y:Lean.Ident:=⟨(a.getD 3 (Lean.mkIdent `hr)).raw⟩;`(tactic|refine $x $(a[2]!) (by trivial) (λ_ _ _ s H _ Q E $y h=>?_))|_=>let h←`(?_);let b:=a.push h;`(tactic|refine ⟨$b,*⟩)}
set_option hygiene true
set_option hygiene false in
local macro_rules | `(tactic| rfl') => `(tactic| first | exact bo1 (fun _ _ _ _ _ _ _ => rfl) | exact bo2 (fun _ _ _ _ _ _ _ _ => rfl) | exact bo3 (fun _ _ _ _ _ _ _ _ _ => rfl) | exact bo4 (fun _ _ _ _ _ _ _ _ _ _ => rfl))
noncomputable section
set_option Elab.async false
set_option linter.all false
set_option maxRecDepth 100000
set_option maxHeartbeats 4000000
noncomputable abbrev o0:=PySem.W.Frag
noncomputable abbrev o3:=PySem.Addr
noncomputable abbrev o6:=PySem.Value
noncomputable abbrev o7:=PySem.Shared
noncomputable abbrev o8:=PySem.Heap
noncomputable abbrev o9:=PySem.Program
noncomputable abbrev og:=PySem.World
noncomputable abbrev oh:=PySem.Around
noncomputable abbrev oj:=List
noncomputable abbrev om:=Option
noncomputable def A5:=@List.mem_cons
noncomputable def A6:=@List.mem_singleton
noncomputable def A7:=@List.mem_append
noncomputable def A8:=@List.mem_map
noncomputable def A9:=@List.mem_filter
noncomputable def Aa:=@List.getElem?_eq_some_iff
noncomputable def A2:=@if_neg
noncomputable def A3:=@if_pos
noncomputable def A4:=@PySem.wpAny_bind
noncomputable def ua:=@List.length_map
noncomputable def ub:=@Bool.false_ne_true
noncomputable def uc:=@List.mem_cons_of_mem
noncomputable def ud:=@PySem.Heap.get?_push_of_some
noncomputable def ue:=@decide_eq_true
noncomputable def uf:=@List.mem_cons_self
noncomputable def ug:=@decide_eq_false
noncomputable def uh:=@List.map_cons
noncomputable def ui:=@Nat.le_refl
noncomputable def uj:=@List.getElem?_eq_getElem
noncomputable def um:=@List.length_cons
noncomputable def uq:=@of_decide_eq_true
noncomputable def uu:=@List.size_toArray
noncomputable def uw:=@List.map_append
def uz:=@Bool.and_eq_true
def uA:=@List.length_append
def uB:=@PySem.wpAny_pure
def uC:=@List.mem_cons
def uD:=@List.not_mem_nil
def uE:=@PySem.sizeLine_eq
def uF:=@PySem.Heap.lt_size
def uG:=@PySem.Heap.get?_push_size
def uH:=@List.getElem?_map
def uI:=@Option.some.inj
def uJ:=@PySem.boot_len
def uK:=@List.mem_append_right
def uL:=@Nat.le_trans
def uM:=@or_false
def uN:=@List.map_map
def uO:=@PySem.W.mg_of
def uP:=@Nat.ne_of_lt
def uQ:=@PySem.PassesOwn.never
def uR:=@List.take_of_length_le
def uS:=@PySem.F.plainAttrs_str
def uT:=@PySem.Around.in1_units
def uU:=@PyProof.Rows.boot_isinstance
def uV:=@PySem.F.plainAttrs_list
def uW:=@List.drop_eq_getElem_cons
def uX:=@decide_eq_decide
def uY:=@List.find?_cons
def uZ:=@List.mem_of_getElem?
def v7:=@Nat.zero_le
def v9:=@decide_eq_true_eq
def vb:=@PySem.wpAny_with_toks
def vc:=@List.append_nil
def vd:=@List.getElem_mem
def ve:=@List.lookup_cons
def vf:=@List.mem_nil_iff
def vg:=@PyProof.Rows.boot_tuple
def vh:=@Array.length_toList
def vi:=@PySem.Heap.size_push
def vj:=@Bool.eq_iff_iff
def vk:=@PySem.W.kia_one
def vm:=@List.cons.injEq
def vn:=@List.length_drop
def vo:=@List.all_cons
def vq:=@List.filter_cons
def vt:=@List.eq_nil_of_length_eq_zero
def vv:=@PySem.wpAny_truthy_bool
def vw:=@PySem.wpAny_newObj_type
def vx:=@PySem.F.entry_str_split
def vy:=@PySem.F.slot_list_append
def vz:=@PySem.F.type_list_append
def vA:=@Nat.lt_irrefl
def vB:=@PyProof.Rows.callWith_type1
def vC:=@PySem.wpAny_field
def vD:=@PySem.wpAny_callSpecial?_slot
def vE:=@List.mem_append_left
def vF:=@PySem.F.slot_str_split
def vG:=@PySem.Calls.callWith_builtin
def vH:=@List.drop_of_length_le
def vI:=@PySem.mem_of_lookup
def vJ:=@PyProof.Rows.slot_tuple_getitem
def vK:=@List.append_assoc
def vL:=@List.length_singleton
def vM:=@PySem.wpAny_mono
def vN:=@PySem.typeIs_str
def vO:=@PySem.call_meets
def vP:=@List.length_take
def vQ:=@Bool.and_true
def vR:=@List.nodup_nil
def vS:=@List.take_add_one
def vT:=@List.filterMap_cons
def vU:=@PySem.F.slot_tuple_iterator_next
def vV:=@PySem.wpAny_call_entry
def vW:=@PySem.Calls.spliced_cons
def vX:=@PySem.F.args_str_split_2
def vY:=@PySem.F.slot_str_join
def vZ:=@PySem.F.type_str_join
def U0:=@List.mem_of_find?_eq_some
def U1:=@PySem.Calls.evalArgs_plain
def U2:=@PySem.wpAny_passesOwn
def U3:=@List.filterMap_cons_some
def U4:=@List.nodup_cons
def U5:=@List.map_nil
def U6:=@PySem.F.plainAttrs_dict
def U7:=@List.map_congr_left
def U8:=@List.cons_append
def U9:=@List.all_eq_true
def Ua:=@PySem.wpAny_seqItems
def Ub:=@PySem.F.slot_str_split
def Uc:=@PySem.F.type_str_split
def Ud:=@PySem.wpAny_Call_Name_kw
def Ue:=@PySem.wpAny_setField_rec
def Uf:=@List.find?_eq_none
def Ug:=@List.mem_singleton
def Uh:=@Int.emod_lt_of_pos
def Ui:=@Sum.inr.inj
def Uj:=@Nat.le_of_lt
def Uk:=@Nat.ne_of_gt
def Ul:=@List.forIn_cons
def Um:=@List.length_filter_le
def Uo:=@PySem.F.slot_dict_pop
def Up:=@PySem.Calls.spliced_nil
def Uq:=@List.any_cons
def Ur:=@List.sum_cons
def Us:=@Bool.and_self
def Ut:=@List.getElem?_append_right
def Uu:=@Ne.symm
def Uv:=@List.getElem?_append_left
def Uw:=@List.take_succ_cons
def Ux:=@PySem.F.args_tuple_add_2
def Uy:=@List.all_map
def Uz:=@PySem.SeqAt.EqAt.int_str
def UA:=@PySem.SeqAt.EqAt.str_int
def UB:=@PySem.W.callWith_K
def UC:=@Option.isSome_none
def UD:=@Bool.false_eq_true
def UE:=@PySem.F.entry_tuple_add
def UF:=@PySem.tupleKind_room_in1
def UG:=@Nat.lt_of_le_of_lt
def UH:=@List.all_append
def UI:=@PyProof.Rows.boot_str
def UJ:=@List.getLast?_cons_cons
def UK:=@Int.emod_nonneg
def UL:=@PySem.wpAny_pyIter_list
def UM:=@PySem.wpAny_rule
def UN:=@PySem.SeqAt.RcAt.tuples
def UO:=@Nat.le.dest
def UP:=@not_false_eq_true
def UQ:=@List.reverse_cons
def UR:=@List.drop_zero
def US:=@Nat.lt_or_ge
def UT:=@PySem.wpAny_isInstance
def UU:=@Nat.le_add_right
def UV:=@List.take_length
def UW:=@not_or
namespace L2
open PySem PySem.Spec PyProof.Rows
noncomputable abbrev Key:=Sum Int Str
noncomputable def keyIs:Key->o6->Bool
 | .inl k,v=>Value.isInt k v
 | .inr x,v=>Value.isStrOf x v
noncomputable def keyH (w:og):Key->Int
 | .inl k=>hashInt k
 | .inr x=>hashStr w x
theorem Qt:∀{k:Key}{v:o6},keyIs k v=true->(∃i t,k=Sum.inl i/\v=Value.int i t)∨(∃x t,k=Sum.inr x/\v=Value.str x t)
 | .inl i,v,h=>by
  obtain⟨t,e⟩:=Value.isInt_shape (k:=i) (v:=v) h;exact .inl ⟨i,t,1,e⟩
 | .inr x,v,h=>by
  obtain⟨t,e⟩:=Value.isStrOf_shape (x:=x) (v:=v) h;exact .inr ⟨x,t,1,e⟩
theorem keyIs_int (i:Int)(t:Tok):keyIs (.inl i) (.int i t)=true:=by simp [keyIs,Value.isInt]
theorem keyIs_str (x:Str)(t:Tok):keyIs (.inr x) (.str x t)=true:=by simp [keyIs,Value.isStrOf]
theorem key_ll (a b:Int):decide ((Sum.inl a:Key)=Sum.inl b)=(a==b):=by
 by_cases e:a=b
 ·subst e;simp
 ·have h:¬(Sum.inl a:Key)=Sum.inl b:=λq=>e (Sum.inl.inj q);rw [ug h];exact(beq_eq_false_iff_ne.mpr e).symm
theorem key_rr (a b:Str):decide ((Sum.inr a:Key)=Sum.inr b)=decide (a=b):=by
 by_cases e:a=b
 ·subst e;simp
 ·have h:¬(Sum.inr a:Key)=Sum.inr b:=λq=>e (Ui q);rw [ug h,ug e]
theorem key_lr (a:Int)(b:Str):decide ((Sum.inl a:Key)=Sum.inr b)=false:=ug (λq=>nomatch q)
theorem key_rl (a:Str)(b:Int):decide ((Sum.inr a:Key)=Sum.inl b)=false:=ug (λq=>nomatch q)
noncomputable def Qa (prog:o9)(w:og):PySem.KeyKind prog w Key where
 is:=keyIs
 hash:=keyH w
 inj:=λv a b ha hb=>by
  rcases Qt ha with⟨i,t,rfl,rfl⟩|⟨x,t,rfl,rfl⟩
  ·rcases Qt hb with⟨j,u,rfl,e⟩|⟨y,u,rfl,e⟩
   ·injection e with e1 _;rw [e1]
   ·exact nomatch e
  ·rcases Qt hb with⟨j,u,rfl,e⟩|⟨y,u,rfl,e⟩
   ·exact nomatch e
   ·injection e with e1 _;rw [e1]
 byValue:=λk v h=>by
  rcases Qt h with⟨i,t,rfl,rfl⟩|⟨x,t,rfl,rfl⟩<;>rfl
 pyHash:=λhv h=>by
  rcases Qt hv with⟨i,t,rfl,rfl⟩|⟨x,t,rfl,rfl⟩
  ·exact wpAny_pyHash_int h
  ·exact wpAny_pyHash_str h
 eqBool:=λhu hv h=>by
  rcases Qt hu with⟨i,t,rfl,rfl⟩|⟨x,t,rfl,rfl⟩
  ·rcases Qt hv with⟨j,u,rfl,rfl⟩|⟨y,u,rfl,rfl⟩
   ·rw [key_ll] at h;exact wpAny_eqBool_int h
   ·rw [key_lr] at h;exact Uz i t y u _ _ _ _ h
  ·rcases Qt hv with⟨j,u,rfl,rfl⟩|⟨y,u,rfl,rfl⟩
   ·rw [key_rl] at h;exact UA x t j u _ _ _ _ h
   ·rw [key_rr] at h;exact wpAny_eqBool_str h
 «strs»:=λk x t v h=>by
  rcases Qt h with⟨i,u,rfl,e⟩|⟨y,u,rfl,e⟩
  ·exact nomatch e
  ·injection e with e1 _
   subst e1
   cases v<;>rfl
theorem mixKind_int (prog:o9)(w:og)(i:Int)(t:Tok):(Qa prog w).is (.inl i) (.int i t)=true:=keyIs_int i t
theorem ZV (prog:o9)(w:og)(x:Str)(t:Tok):(Qa prog w).is (.inr x) (.str x t)=true:=keyIs_str x t
inductive V where
 |non|bl (b:Bool)|int (i:Int)|str (x:Str)|byt (b:Array UInt8)|flt (b:UInt64)|ref (a:Addr)|ty (n:String)
 deriving DecidableEq
noncomputable def RelV:V->o6->Prop
 | .non,u=>u=Value.none
 | .bl b,u=>u=Value.bool b
 | .int i,u=>∃t,u=Value.int i t
 | .str x,u=>∃t,u=Value.str x t
 | .byt b,u=>∃t,u=Value.bytes b t
 | .flt b,u=>∃t,u=Value.float b t
 | .ref a,u=>u=Value.ref a
 | .ty n,u=>u=Value.type n
noncomputable abbrev Vals:oj V->oj o6->Prop:=Paired RelV
variable {xs:oj V}{us:oj o6}
theorem Vals.length (r:Vals xs us):xs.length=us.length:=Paired.length r
theorem Vals.get:∀{xs:oj V}{us:oj o6}{i:Nat}{x:V},Vals xs us->xs[i]? =some x->∃u,us[i]? =some u/\RelV x u
 |_,_,_,_,.nil,e=>by simp at e
 |_,_,0,_,.cons r _,e=>by simp at e;subst e;exact⟨0,r⟩
 |_,_,i+1,x,.cons _ t,e=>by
  obtain⟨u,h1,h2⟩:=Vals.get (i:=i) (x:=x) t (by simpa using e)
  exact⟨u,by simpa using h1,h2⟩
theorem Vals.set {x:V}{u:o6}(r:RelV x u):∀{xs:oj V}{us:oj o6} (i:Nat),Vals xs us->Vals (xs.set i x) (us.set i u)
 |_,_,_,.nil=> .nil
 |_,_,0,.cons _ t=> .cons r t
 |_,_,i+1,.cons q t=> .cons q (Vals.set r i t)
theorem Vals.append:∀{xs ys:oj V}{us ws:oj o6},Vals xs us->Vals ys ws->Vals (xs++ys) (us++ws)
 |_,_,_,_,.nil,s=>s
 |_,_,_,_,.cons r t,s=> .cons r (Vals.append t s)
theorem Vals.take:∀{xs:oj V}{us:oj o6} (n:Nat),Vals xs us->Vals (xs.take n) (us.take n)
 |_,_,0,_=> .nil
 |_,_,_+1,.nil=> .nil
 |_,_,n+1,.cons r t=> .cons r (Vals.take n t)
theorem Vals.drop:∀{xs:oj V}{us:oj o6} (n:Nat),Vals xs us->Vals (xs.drop n) (us.drop n)
 |_,_,0,r=>r
 |_,_,_+1,.nil=> .nil
 |_,_,n+1,.cons _ t=>Vals.drop n t
noncomputable def RelO:om V->om o6->Prop
 |some v,some u=>RelV v u
 |none,none=>True
 |_,_=>False
noncomputable def KV {κ:Type}:oj (κ×V)->oj (κ×o6)->Prop:=Paired λ(p:κ×V) (q:κ×o6)=>p.1=q.1/\RelV p.2 q.2
noncomputable def kV:Key->V
 | .inl i=> .int i
 | .inr x=> .str x
inductive HO where
 |lst (xs:List V)
 |tup (xs:List V)
 |dK (kvs:List (Key×V))|dT (kvs:List (List Key×V))
 |set (S:Int->Bool) (n:Nat)
 |ins (C dx:Addr) (fs:List (Str×V))
 |own (x:Addr)
 |xd (fs:List (Str×V))
 |met (f x:Addr)
 |rng (lo hi:Int)
 |frz (o:Obj) (u:HO)
 |tbl (ps:Array Value)
 |ext (φ:Heap->Prop)
noncomputable abbrev Hp:=o3->om HO
noncomputable def upd (H:Hp)(a:o3)(o:HO):Hp:=λb=>if b=a then some o else H b
variable {H:Hp}{a:o3}
theorem qg {o:HO}:upd H a o a=some o:=by unfold upd;rw [A3 rfl]
variable {b:o3}
theorem qh {o:HO}(h:b≠a):upd H a o b=H b:=by unfold upd;rw [A2 h]
theorem ne_of {o u:HO}(h:H a=some o)(h':H b=some u)(d:o≠u):a≠b:=by
 intro e;subst e;rw [h] at h';exact d (uI h')
theorem qk {o:HO}(h:H a=some o)(h':H b=none):a≠b:=by
 intro e;subst e;rw [h] at h';cases h'
section
variable (P:o9)(w:og)
noncomputable def yg (H:Hp)(h:o8)(a:o3):HO->Prop
 | .lst xs=>xs.length<=sizeLine/\∃(its:oj o6) (n:Nat),Vals xs its/\h.get? a=some {cls:= .type "list",data:= .seq its.toArray n}
 | .tup xs=>xs.length<=sizeLine/\∃its:oj o6,Vals xs its/\IsTup h a its.toArray
 | .dK kvs=>kvs.length<=sizeLine/\(a==sysModules)=false/\∃vs,KV kvs vs/\h.DictOf (Qa P w) a vs
 | .dT kvs=>kvs.length<=sizeLine/\(a==sysModules)=false/\∃xs:oj (oj Key×o3×o6),
   Paired (λ(p:oj Key×V) (q:oj Key×o3×o6)=>p.1=q.1/\H q.2.1=some (.tup (p.1.map kV))/\RelV p.2 q.2.2) kvs xs/\
   ∃o es ep,h.get? a=some o/\o.ExactDict/\o.data= .dict es ep/\es.toList=xs.map (entryOfKey (tupleKind (Qa P w)))/\(xs.map (·.1)).Nodup
 | .set S n=>h.SetOf (intKind P w) a S n
 | .ins C dx fs=>H dx=some (.own a)/\fs.length<=1000/\dx≠a/\h.get? a=some (PySem.W.instObj C dx)/\
   ∃mA,h.Ns1 dx mA/\(∀f,RelO (fs.lookup f) (mA f))/\PySem.Within mA (fs.map (·.1))
 | .own _=>∃o,h.get? a=some o
 | .xd fs=>∃mA,h.Ns1 a mA/\∀f,RelO (fs.lookup f) (mA f)
 | .rng lo hi=>∃t u v,h.get? a=some {cls:= .type "range",data:= .fields #[.int lo t,.int hi u,.int 1 v]}
 | .frz o u=>h.get? a=some o/\yg H h a u
 | .tbl ps=>h.get? a=some {cls:= .none,data:= .fields ps}
 | .met f x=>h.get? a=some (PySem.W.methodObj (.ref f) (.ref x))
 | .ext φ=>φ h/\(∃o,h.get? a=some o)/\∀h1 h2:o8,φ h1->(∀o,h1.get? a=some o->h2.get? a=some o)->φ h2
noncomputable def HOk (H:Hp)(h:o8):Prop:=∀a o,H a=some o->yg P w H h a o
end
section
variable {P:o9}{w:og}{H H':Hp}{h h':o8}{a:o3}{o:HO}
theorem yg.lt (x:yg P w H h a o):a<h.objs.size:=by
 cases o with
 |lst xs=>obtain⟨_,_,_,_,e⟩:=x;exact uF e
 |tup xs=>obtain⟨_,_,_,p⟩:=x;exact p.lt
 |dK kvs=>obtain⟨_,_,_,_,o,_,_,e,_⟩:=x;exact uF e
 |dT kvs=>obtain⟨_,_,_,_,o,_,_,e,_⟩:=x;exact uF e
 |set S n=>obtain⟨o,_,_,_,e,_⟩:=x;exact uF e
 |ins C dx fs=>obtain⟨_,_,_,e,_⟩:=x;exact uF e
 |own y=>obtain⟨_,e⟩:=x;exact uF e
 |xd fs=>obtain⟨_,⟨_,_,_,e,_⟩,_⟩:=x;exact uF e
 |rng lo hi=>obtain⟨_,_,_,e⟩:=x;exact uF e
 |frz ob u=>obtain⟨e,_⟩:=x;exact uF e
 |tbl ps=>exact uF (show h.get? a=some _ from x)
 |met f y=>exact uF (show h.get? a=some _ from x)
 |ext φ=>obtain⟨_,⟨_,e⟩,_⟩:=x;exact uF e
theorem Paired.mapP {α β:Type}{F G:α->β->Prop}:∀{l₁:oj α}{l₂:oj β},Paired F l₁ l₂->(∀a b,F a b->G a b)->Paired G l₁ l₂
 |_,_,.nil,_=> .nil
 |_,_,.cons r t,f=> .cons (f _ _ r) (Paired.mapP t f)
theorem yg.stay (x:yg P w H h a o)(k:∀b u,(b=a∨H b=some (.own a))->h.get? b=some u->h'.get? b=some u)
  (O:∀b,H b=some (.own a)->H' b=some (.own a)) (U:∀b xs,H b=some (.tup xs)->H' b=some (.tup xs)):yg P w H' h' a o:=by
 induction o with
 |lst xs=>obtain⟨z,its,n,r,e⟩:=x;exact⟨z,its,n,r,k _ _ (.inl rfl) e⟩
 |tup xs=>obtain⟨z,its,r,ob,e,c⟩:=x;exact⟨z,its,r,ob,k _ _ (.inl rfl) e,c⟩
 |dK kvs=>obtain⟨z,y,vs,r,ob,es,ep,e,c⟩:=x;exact⟨z,y,vs,r,ob,es,ep,k _ _ (.inl rfl) e,c⟩
 |dT kvs=>
  obtain⟨z,y,xs,r,ob,es,ep,e,c⟩:=x;exact⟨z,y,xs,Paired.mapP r λp q z=>⟨z.1,U _ _ z.2.1,z.2.2⟩,ob,es,ep,k _ _ (.inl rfl) e,c⟩
 |set S n=>obtain⟨ob,es,ep,t,e,c⟩:=x;exact⟨ob,es,ep,t,k _ _ (.inl rfl) e,c⟩
 |ins C dx fs=>
  obtain⟨d,z,ne,e,mA,⟨od,es,ep,Z,c⟩,r⟩:=x;exact⟨O _ d,z,ne,k _ _ (.inl rfl) e,mA,⟨od,es,ep,k _ _ (.inr d) Z,c⟩,r⟩
 |own y=>obtain⟨ob,e⟩:=x;exact⟨ob,k _ _ (.inl rfl) e⟩
 |xd fs=>obtain⟨mA,⟨od,es,ep,e,c⟩,r⟩:=x;exact⟨mA,⟨od,es,ep,k _ _ (.inl rfl) e,c⟩,r⟩
 |rng lo hi=>obtain⟨t,u,v,e⟩:=x;exact⟨t,u,v,k _ _ (.inl rfl) e⟩
 |frz ob u ih=>obtain⟨e,q⟩:=x;exact⟨k _ _ (.inl rfl) e,ih q⟩
 |tbl ps=>
  have e:h.get? a=some {cls:= .none,data:= .fields ps}:=x;show h'.get? a=some {cls:= .none,data:= .fields ps};exact k a _ (.inl rfl) e
 |met f y=>
  have e:h.get? a=some (PySem.W.methodObj (.ref f) (.ref y)):=x;show h'.get? a=some (PySem.W.methodObj (.ref f) (.ref y));exact k a _ (.inl rfl) e
 |ext φ=>obtain⟨p,⟨o,e⟩,st⟩:=x;exact⟨st _ _ p λo q=>k _ _ (.inl rfl) q,⟨o,k _ _ (.inl rfl) e⟩,st⟩
theorem HOk.lt (x:HOk P w H h)(e:H a=some o):a<h.objs.size:=(x a o e).lt
theorem HOk.fresh (x:HOk P w H h)(e:h.objs.size<=a):H a=none:=by
 cases q:H a with
 |none=>rfl
 |some u=>exact absurd (Nat.lt_of_lt_of_le (x.lt q) e) (vA _)
theorem HOk.kept (x:HOk P w H h)(k:∀b u,h.get? b=some u->h'.get? b=some u):HOk P w H h':=λa o e=>
 (x a o e).stay (λb u _ q=>k b u q) (λ_ q=>q) λ_ _ q=>q
theorem HOk.laid (x:HOk P w H h)(k:∀b u,h.get? b=some u->h'.get? b=some u)(U:h.objs.size<=a)(new:yg P w (upd H a o) h' a o):HOk P w (upd H a o) h':=λb u e=>by
 have hn:=x.fresh U;by_cases O:b=a
 ·subst O;rw [qg] at e;cases e;exact new
 ·rw [qh O] at e;exact(x b u e).stay (λc v _ q=>k c v q) (λc q=>by rwa [qh (qk q hn)]) λc xs q=>by rw [qh (qk q hn)];exact q
end
noncomputable def Rd (H:Hp)(a:o3)(u:HO):Prop:=H a=some u∨∃o,H a=some (.frz o u)
theorem Rd.of {u:HO}(h:H a=some u):Rd H a u:= .inl h
variable {w:og}{h:o8}
theorem Rd.ok {P:o9}{u:HO}(r:Rd H a u)(x:HOk P w H h):yg P w H h a u:=by
 rcases r with r|⟨o,r⟩
 ·exact x a u r
 ·obtain⟨_,q⟩:=x a _ r;exact q
noncomputable def Mut:om HO->Prop
 |some (.lst _)=>True
 |some (.dK _)=>True
 |some (.dT _)=>True
 |some (.set _ _)=>True
 |some (.ins _ _ _)=>True
 |some (.ext _)=>True
 |_=>False
section
variable {P:o9}{w:og}{H:Hp}{h h':o8}{x e:o3}{o':HO}
theorem HOk.write (ok:HOk P w H h)(mu:Mut (H x))(he:e=x∨H e=some (.own x))(k:∀b u,b≠e->h.get? b=some u->h'.get? b=some u)(aa:∃u,h'.get? e=some u)
  (new:yg P w (upd H x o') h' x o'):HOk P w (upd H x o') h':=λb u q=>by
 have U:∀c y,H c=some (.own y)->c≠x:=λc y r z=>by subst z;rwa [r] at mu
 have Z:∀c xs,H c=some (.tup xs)->c≠x:=λc xs r z=>by subst z;rwa [r] at mu
 by_cases hb:b=x
 ·subst hb;rw [qg] at q;cases q;exact new
 ·rw [qh hb] at q;by_cases O:b=e
  ·have q':H b=some (.own x):=by
    rcases he with z|z
    ·exact absurd (O.trans z) hb
    ·rwa [O]
   rw [q] at q';cases q';obtain⟨v,hv⟩:=aa;exact⟨v,by rwa [O]⟩
  ·refine(ok b u q).stay (λc v hc r=>k c v ?_ r) (λc r=>by rwa [qh (U c b r)]) λc xs r=>by rwa [qh (Z c xs r)]
   rcases hc with rfl|hc
   ·exact O
   ·rintro rfl;rcases he with z|z
    ·exact U c b hc z
    ·rw [hc] at z;cases z;exact hb rfl
end
structure Un (fs ex:oj o3)(H H':Hp)(h h':o8):Prop where
 keep:∀b o,h.get? b=some o->H b=none->b∉fs->b∉ex->h'.get? b=some o
 slot:∀b o,h.get? b=some o->H b=none->b∈fs->b∉ex->∃sl,h'.get? b=some {o with slots:=sl}
 free:∀b o,h.get? b=some o->H b=none->b∉ex->H' b=none
 there:∀b o,h.get? b=some o->b∉ex->∃o',h'.get? b=some o'
 tups:∀b xs,H b=some (.tup xs)->H' b=some (.tup xs)
 frzs:∀b o u,H b=some (.frz o u)->H' b=some (.frz o u)
 tbls:∀b ps,H b=some (.tbl ps)->∃more,H' b=some (.tbl (ps++more))
section
variable {fs fs' ex ex':oj o3}{H H1 H2:Hp}{h h1 h2 h':o8}{a x e:o3}{o:HO}
theorem Un.any (u:Un fs ex H H1 h h1){ob:Obj}(q:h.get? b=some ob)(n:H b=none)(O:b∉ex):∃sl,h1.get? b=some {ob with slots:=sl}:=by
 by_cases U:b∈fs
 ·exact u.slot b ob q n U O
 ·exact⟨ob.slots,u.keep b ob q n U O⟩
theorem Un.trans (a:Un fs ex H H1 h h1)(b:Un fs ex H1 H2 h1 h2):Un fs ex H H2 h h2 where
 keep:=λc ob q n Z O=>b.keep c ob (a.keep c ob q n Z O) (a.free c ob q n O) Z O
 slot:=λc ob q n Z O=>by
  obtain⟨sl,U⟩:=a.slot c ob q n Z O;obtain⟨aa,e2⟩:=b.slot c _ U (a.free c ob q n O) Z O;exact⟨aa,e2⟩
 free:=λc ob q n O=>by
  obtain⟨o',U⟩:=a.there c ob q O;exact b.free c o' U (a.free c ob q n O) O
 there:=λc ob q O=>by
  obtain⟨o',U⟩:=a.there c ob q O;exact b.there c o' U O
 tups:=λc xs q=>b.tups c xs (a.tups c xs q)
 frzs:=λc ob xs q=>b.frzs c ob xs (a.frzs c ob xs q)
 tbls:=λc ps q=>by
  obtain⟨m1,U⟩:=a.tbls c ps q;obtain⟨m2,e2⟩:=b.tbls c _ U;exact⟨m1++m2,by rw [e2,Array.append_assoc]⟩
theorem Un.kept (k:∀b u,h.get? b=some u->h'.get? b=some u):Un fs ex H H h h':=
 ⟨λb ob q _ _ _=>k b ob q,λb ob q _ _ _=>⟨ob.slots,k b ob q⟩,λ_ _ _ n _=>n,λb ob q _=>⟨ob,k b ob q⟩,λ_ _ q=>q,λ_ _ _ q=>q,λ_ ps q=>⟨#[],by rw [q];simp⟩⟩
theorem Un.refl:Un fs ex H H h h:=Un.kept λ_ _ q=>q
theorem Un.laid (k:∀b u,h.get? b=some u->h'.get? b=some u)(O:h.objs.size<=a)(hn:H a=none):Un fs ex H (upd H a o) h h' where
 keep:=λb u q _ _ _=>k b u q
 slot:=λb u q _ _ _=>⟨u.slots,k b u q⟩
 free:=λb u q n _=>by rwa [qh (uP (Nat.lt_of_lt_of_le (uF q) O))]
 there:=λb u q _=>⟨u,k b u q⟩
 tups:=λb xs q=>by rwa [qh (qk q hn)]
 frzs:=λb u xs q=>by rwa [qh (qk q hn)]
 tbls:=λb ps q=>⟨#[],by rw [qh (qk q hn),q];simp⟩
theorem Un.write (mu:Mut (H x))(he:e=x∨H e=some (.own x))(k:∀b u,b≠e->h.get? b=some u->h'.get? b=some u)(U:∃u,h'.get? e=some u):Un fs ex H (upd H x o) h h':=by
 have Z:∀b,H b=none->b≠x:=λb n z=>by subst z;rwa [n] at mu
 have hb:∀b,H b=none->b≠e:=λb n z=>by
  subst z;rcases he with r|r
  ·exact Z b n r
  ·rw [n] at r;cases r
 have hm:∀b u,H b=some u->¬Mut (some u)->b≠x:=λb u q nm z=>by subst z;rw [q] at mu;exact nm mu
 refine⟨λb u q n _ _=>k b u (hb b n) q,λb u q n _ _=>⟨u.slots,k b u (hb b n) q⟩,λb u q n _=>by rwa [qh (Z b n)],λb u q _=> ?_,
  λb xs q=>by rwa [qh (hm b _ q λz=>z)],λb u xs q=>by rwa [qh (hm b _ q λz=>z)],λb ps q=>⟨#[],by rw [qh (hm b _ q λz=>z),q];simp⟩⟩
 by_cases O:b=e
 ·subst O;exact U
 ·exact⟨u,k b u O q⟩
end
noncomputable def trk (h:o8)(H:Hp):oj o3:=(List.range h.objs.size).filter λa=>(H a).isSome
noncomputable def hidT (h:o8)(H:Hp):o8:=PySem.W.hideAll h (trk h H)
theorem hidT_size (h:o8)(H:Hp):(hidT h H).objs.size=h.objs.size:=PySem.W.hideAll_size _ _
variable {o:Obj}
theorem hidT_get (e:h.get? b=some o)(n:H b=none):(hidT h H).get? b=some o:=
 PySem.W.hideAll_get _ e λhm=>by
  have q:(H b).isSome=true:=(A9.mp hm).2;rw [n] at q;simp at q
theorem of_hidT (e:(hidT h H).get? b=some o):h.get? b=some o/\H b=none:=by
 have e':h.get? b=some o:=PySem.W.of_hideAll (trk h H) e;exists e';cases q:H b with
 |none=>rfl
 |some x=>
  have hm:b∈trk h H:=A9.mpr ⟨List.mem_range.mpr (uF e'),by simp [q]⟩
  have z:(hidT h H).get? b=none:=PySem.W.hideAll_none (trk h H) hm;rw [z] at e;cases e
structure Mod (K:o0)(mg:Str->om o6)(base:o8):Prop where
 kin:K.In base
 glob:base.Ns mainGlobals mg
 blt:∃mb,base.Ns builtinsNs mb/\∀x:Str,x≠"__name__"->mb x=bootBuiltins x
 nolimit:base.NoLimit
structure Cx where
 prog:o9
 w:og
 K:o0
 mg:Str->om o6
 base:o8
 A:oh
 N:oj Str
 s₀:o7
 H₀:Hp
 env:Env
 outer:oj Env
 stack:oj Env
 ex:oj o3
 fn:Str->Bool
 calm:Bool
 pn:oj (o3×Obj)
 xe:o6->o7->Prop
noncomputable def frs (l:oj Env):oj o3:=l.filterMap (·.frame)
noncomputable abbrev Cx.fs (X:Cx):oj o3:=frs X.outer
noncomputable def Vis (sc:Scope)(x:Str):Prop:=sc.names.lookup x=some .local∨sc.names.lookup x=some .cell∨sc.names.lookup x=some .free
noncomputable def Loc (sc:Scope)(x:Str):Prop:=sc.names.lookup x=some .local∨sc.names.lookup x=some .cell
noncomputable def Look (env:Env)(h:o8)(m:Str->om o6)(x:Str)(u:o6):Prop:=
 (env.kindOf x=some .local/\m x=some u)∨((env.kindOf x=some .cell∨env.kindOf x=some .free)/\∃c,env.cells.lookup x=some c/\h.IsCell c (some u))
structure Cx.Ok (X:Cx):Prop where
 mod:Mod X.K X.mg X.base
 kind:X.env.scope.kind= .function
 glob:X.env.globals=mainGlobals
 blt:X.env.builtins=builtinsNs
 above:X.s₀.heap.objs.size<=X.env.locals
 inj:∀x y c,X.env.cells.lookup x=some c->X.env.cells.lookup y=some c->x=y
 has:∀x,(X.env.kindOf x=some .cell∨X.env.kindOf x=some .free)->∃c,X.env.cells.lookup x=some c
 cab:∀x c,X.fn x=true->X.env.cells.lookup x=some c->X.s₀.heap.objs.size<=c
 hd:X.calm=true->X.A.handled=none
 frames:X.A.frames=some X.stack
 stk:X.stack=X.outer∨(X.stack=X.env::X.outer/\X.env.frame=some X.env.locals)
 exf:∀b∈X.ex,b≠X.env.locals/\∀x c,X.env.cells.lookup x=some c->c≠b
 bs:∀b o,X.base.get? b=some o->X.s₀.heap.get? b=some o/\X.H₀ b=none
 bsz:X.base.objs.size<=X.s₀.heap.objs.size
 noex:∀b o,X.base.get? b=some o->b∉X.ex
 exfs:∀b∈X.ex,b∉X.fs
 funs:X.s₀.heap.FunFrames X.base X.outer
 frf:∀b∈X.fs,X.H₀ b=none
structure Inv (X:Cx)(oq:oj (o3×Obj))(σ:oj (om V))(H:Hp)(s:o7):Prop where
 ok:X.Ok
 os:s.os=X.s₀.os
 bare:AllBare s.gens
 base:Un X.fs X.ex X.H₀ H X.s₀.heap s.heap
 loc:∃m,s.heap.Ns X.env.locals m/\∀(i:Nat) (x:Str) (v:V),X.N[i]? =some x->σ[i]? =some (some v)->Vis X.env.scope x->∃u,RelV v u/\Look X.env s.heap m x u
 cell:∀x c,X.env.cells.lookup x=some c->∃v,s.heap.IsCell c v
 free:H X.env.locals=none
 freeC:∀x c,X.env.cells.lookup x=some c->H c=none
 pin:∀p∈X.pn++oq,s.heap.get? p.1=some p.2/\H p.1=none/\p.1≠X.env.locals/\p.1∉X.fs/\∀v,p.2.data≠ .cell v
 hok:HOk X.prog X.w H s.heap
 len:σ.length=X.N.length
 tk:0<s.toks
section
variable {X:Cx}{oq:oj (o3×Obj)}{σ:oj (om V)}{H H':Hp}{s:o7}{h':o8}
theorem Cx.Ok.nofr (ok:X.Ok)(e:X.base.get? b=some o):b∉X.fs:=λO=>by
 have:=(ok.funs.mem O).1;rw [e] at this;cases this
theorem Inv.bs (I:Inv X oq σ H s):∀b o,X.base.get? b=some o->s.heap.get? b=some o/\H b=none:=λb o e=>
 ⟨I.base.keep b o (I.ok.bs b o e).1 (I.ok.bs b o e).2 (I.ok.nofr e) (I.ok.noex b o e),I.base.free b o (I.ok.bs b o e).1 (I.ok.bs b o e).2 (I.ok.noex b o e)⟩
theorem Inv.bk (I:Inv X oq σ H s):∀b o,X.base.get? b=some o->s.heap.get? b=some o:=λb o e=>(I.bs b o e).1
theorem Inv.mod (I:Inv X oq σ H s):Mod X.K X.mg X.base:=I.ok.mod
theorem Inv.kIn (I:Inv X oq σ H s):X.K.In s.heap:=I.ok.mod.kin.keeps I.bk
theorem Inv.lt (I:Inv X oq σ H s):X.env.locals<s.heap.objs.size:=let⟨_,hn,_⟩:=I.loc;hn.lt
theorem Inv.sz (I:Inv X oq σ H s):X.s₀.heap.objs.size<=s.heap.objs.size:=uL I.ok.above (Uj I.lt)
theorem Inv.nofs (I:Inv X oq σ H s)(h:s.heap.objs.size<=a):a∉X.fs:=λO=>by
 obtain⟨_,o,U,_⟩:=I.ok.funs.mem O;exact absurd (Nat.lt_of_lt_of_le (uF U) (uL I.sz h)) (vA _)
theorem Inv.cne (I:Inv X oq σ H s):∀x c,X.env.cells.lookup x=some c->c≠X.env.locals:=λx c e z=>by
 obtain⟨v,o,Z,hd⟩:=I.cell x c e;obtain⟨m,⟨o',es,ep,O,U,_⟩,_⟩:=I.loc;rw [z,O] at Z;cases Z;rw [U] at hd;cases hd
theorem Inv.funs (I:Inv X oq σ H s):s.heap.FunFrames X.base X.outer:=by
 have all:∀(l:oj Env),(∀b∈frs l,b∈X.fs)->X.s₀.heap.FunFrames X.base l->s.heap.FunFrames X.base l:=by
  intro l
  induction l with
  |nil=>intro _ _;trivial
  |cons env r ih=>
   intro hs hl;obtain⟨hk,⟨L,o,O,hn,ho,hd⟩,hr⟩:=hl;have U:L∈X.fs:=hs L (by unfold frs;rw [vT,O];exact uf)
   obtain⟨sl,e⟩:=I.base.slot L o ho (I.ok.frf L U) U λz=>I.ok.exfs L z U;exact⟨hk,⟨L,_,O,hn,e,hd⟩,ih (λb Z=>hs b (by unfold frs;rw [vT,O];exact uc _ Z)) hr⟩
 exact all X.outer (λ_ Z=>Z) I.ok.funs
theorem Inv.stack (I:Inv X oq σ H s):s.heap.FunFrames X.base X.stack:=by
 rcases I.ok.stk with e|⟨e,O⟩
 ·rw [e];exact I.funs
 ·rw [e];obtain⟨m,hn,_⟩:=I.loc;refine .cons (by rw [I.ok.kind];decide) O hn ?_ I.funs
  exact Heap.get?_none_of_le (uL I.ok.bsz I.ok.above)
theorem Inv.stkSub (I:Inv X oq σ H s):∀b∈frs X.stack,b∈X.env.locals::X.fs:=λb O=>by
 rcases I.ok.stk with e|⟨e,U⟩
 ·rw [e] at O;exact uc _ O
 ·rw [e] at O;unfold frs at O;rwa [vT,U] at O
theorem Inv.stkFree (I:Inv X oq σ H s):∀b∈frs X.stack,H b=none:=λb O=>by
 rcases A5.mp (I.stkSub b O) with e|O
 ·rw [e];exact I.free
 ·obtain⟨_,o,U,_⟩:=I.ok.funs.mem O;exact I.base.free b o U (I.ok.frf b O) λz=>I.ok.exfs b z O
theorem Inv.step {g':Array GenState}{t':Nat}{d':Drawn}{ch:oj o3}(I:Inv X oq σ H s)
  (U:∀b∈ch,(b∈X.ex∨X.s₀.heap.objs.size<=b)/\b≠X.env.locals/\(∀x c,X.env.cells.lookup x=some c->c≠b)/\∀p∈X.pn++oq,p.1≠b)
  (keep:∀b o,b≠X.env.locals->b∉X.fs->b∉ch->s.heap.get? b=some o->H b=none->h'.get? b=some o)
  (slot:∀b o,b≠X.env.locals->b∈X.fs->b∉ch->s.heap.get? b=some o->H b=none->∃sl,h'.get? b=some {o with slots:=sl}) (free:∀b o,b∉ch->s.heap.get? b=some o->H b=none->H' b=none)
  (there:∀b o,b∉ch->s.heap.get? b=some o->∃o',h'.get? b=some o')
  (tups:∀b xs,H b=some (.tup xs)->H' b=some (.tup xs)) (frzs:∀b o u,H b=some (.frz o u)->H' b=some (.frz o u)) (tbls:∀b ps,H b=some (.tbl ps)->∃more,H' b=some (.tbl (ps++more)))
  (ns:∀m,s.heap.Ns X.env.locals m->h'.Ns X.env.locals m) (hok:HOk X.prog X.w H' h') (hg:AllBare g') (ht:0<t':=by ac_rfl):
  Inv X oq σ H' {s with heap:=h',gens:=g',drawn:=d',toks:=t'}:=by
 have ad:∀b o,X.s₀.heap.get? b=some o->b≠X.env.locals:=λb o e=>uP (Nat.lt_of_lt_of_le (uF e) I.ok.above);have ac:∀b o,X.s₀.heap.get? b=some o->b∉X.ex->b∉ch:=λb o e O hb=>by
  rcases(U b hb).1 with z|z
  ·exact O z
  ·exact absurd (Nat.lt_of_lt_of_le (uF e) z) (vA _)
 have Z:∀x c,X.env.cells.lookup x=some c->∀v,s.heap.IsCell c v->h'.IsCell c v:=λx c e v ⟨o,ho,hd⟩=>by
  have aa:c∉ch:=λz=>(U c z).2.2.1 x c e rfl;by_cases hc:c∈X.fs
  ·obtain⟨sl,q⟩:=slot c o (I.cne x c e) hc aa ho (I.freeC x c e);exact⟨_,q,hd⟩
  ·exact⟨o,keep c o (I.cne x c e) hc aa ho (I.freeC x c e),hd⟩
 refine⟨I.ok,I.os,hg,⟨λb o e n hb O=> ?_,λb o e n hb O=> ?_,λb o e n O=> ?_,λb o e O=> ?_,λb xs e=>tups b xs (I.base.tups b xs e),λb o xs e=>frzs b o xs (I.base.frzs b o xs e),λb ps e=> ?_⟩,?_,λx c e=> ?_,?_,λx c e=> ?_,λp hp=> ?_,hok,I.len,ht⟩
 ·exact keep b o (ad b o e) hb (ac b o e O) (I.base.keep b o e n hb O) (I.base.free b o e n O)
 ·obtain⟨sl,e1⟩:=I.base.slot b o e n hb O;obtain⟨ae,e2⟩:=slot b _ (ad b o e) hb (ac b o e O) e1 (I.base.free b o e n O);exact⟨ae,e2⟩
 ·obtain⟨o',e1⟩:=I.base.there b o e O;exact free b o' (ac b o e O) e1 (I.base.free b o e n O)
 ·obtain⟨o',e1⟩:=I.base.there b o e O;exact there b o' (ac b o e O) e1
 ·obtain⟨m1,e1⟩:=I.base.tbls b ps e;obtain⟨m2,e2⟩:=tbls b _ e1;exact⟨m1++m2,by rw [e2,Array.append_assoc]⟩
 ·obtain⟨m,hn,hl⟩:=I.loc;refine⟨m,ns m hn,λi x v e1 e2 e3=> ?_⟩;obtain⟨u,r,l⟩:=hl i x v e1 e2 e3;exists u,r;rcases l with l|⟨k,c,e,z⟩
  ·exact .inl l
  ·exact .inr ⟨k,c,e,Z x c e _ z⟩
 ·obtain⟨v,z⟩:=I.cell x c e;exact⟨v,Z x c e v z⟩
 ·obtain⟨m,⟨o,_,_,ho,_⟩,_⟩:=I.loc;exact free _ o (λz=>(U _ z).2.1 rfl) ho I.free
 ·obtain⟨v,o,ho,hd⟩:=I.cell x c e;exact free c o (λz=>(U c z).2.2.1 x c e rfl) ho (I.freeC x c e)
 ·obtain⟨e,n,ne,nf,d⟩:=I.pin p hp;have aa:p.1∉ch:=λz=>(U p.1 z).2.2.2 p hp rfl;exact⟨keep p.1 p.2 ne nf aa e n,free p.1 p.2 aa e n,ne,nf,d⟩
variable {t':Nat}
theorem Inv.un (I:Inv X oq σ H s)(u:Un X.fs [] H H' s.heap h')(hok:HOk X.prog X.w H' h')(ht:0<t':=by ac_rfl):Inv X oq σ H' {s with heap:=h',toks:=t'}:=by
 obtain⟨m,⟨o,es,ep,ho,r⟩,_⟩:=id I.loc;obtain⟨sl,hL⟩:=u.any ho I.free (by simp)
 exact I.step (g':=s.gens) (d':=s.drawn) (ch:= []) (λ_ z=>nomatch z) (λb o _ U _ e n=>u.keep b o e n U (by simp)) (λb o _ U _ e n=>u.slot b o e n U (by simp)) (λb o _ e n=>u.free b o e n (by simp)) (λb o _ e=>u.there b o e (by simp)) u.tups u.frzs u.tbls (λm' hm=>by
  obtain⟨o',Z,aa,O,r'⟩:=hm;rw [ho] at O;cases O;exact⟨_,Z,aa,hL,r'⟩) hok I.bare
theorem Inv.call {g':Array GenState}{t':Nat}{d':Drawn}{ch:oj o3}(I:Inv X oq σ H s)(u:Un (frs X.stack) ch H H' s.heap h')(hok:HOk X.prog X.w H' h')(hg:AllBare g')
  (U:∀b∈ch,(b∈X.ex∨X.s₀.heap.objs.size<=b)/\b≠X.env.locals/\(∀x c,X.env.cells.lookup x=some c->c≠b)/\∀p∈X.pn++oq,p.1≠b) (ht:0<t':=by ac_rfl):
  Inv X oq σ H' {s with heap:=h',gens:=g',drawn:=d',toks:=t'}:=by
 obtain⟨m,⟨o,es,ep,ho,r⟩,_⟩:=id I.loc;obtain⟨sl,hL⟩:=u.any ho I.free λz=>(U _ z).2.1 rfl;exact I.step (ch:=ch) U (λb o hL hb O e n=>u.keep b o e n (λz=>(A5.mp (I.stkSub b z)).elim hL hb) O) (λb o _ _ O e n=>u.any e n O) (λb o O e n=>u.free b o e n O) (λb o O e=>u.there b o e O) u.tups u.frzs u.tbls (λm' hm=>by
  obtain⟨o',aa,ac,Z,r'⟩:=hm;rw [ho] at Z;cases Z;exact⟨_,aa,ac,hL,r'⟩) hok hg
theorem Inv.turned {t':Nat}{it:o3}(I:Inv X oq σ H s)(k:∀b o,b≠it->s.heap.get? b=some o->h'.get? b=some o)(hn:H it=none)(Z:it≠X.env.locals)
  (h1:it∈X.ex∨X.s₀.heap.objs.size<=it) (h2:∀x c,X.env.cells.lookup x=some c->c≠it) (h3:∀p∈X.pn++oq,p.1≠it) (ht:0<t':=by ac_rfl):Inv X oq σ H {s with heap:=h',toks:=t'}:=by
 have U:∀b u,H b=some u->b≠it:=λb u e z=>by rw [z,hn] at e;cases e
 refine I.step (g':=s.gens) (d':=s.drawn) (ch:= [it]) (λb hb=> ?_) (λb o _ _ O e _=>k b o (λz=>O (by simp [z])) e) (λb o _ _ O e _=>⟨o.slots,k b o (λz=>O (by simp [z])) e⟩) (λ_ _ _ _ n=>n)
  (λb o O e=>⟨o,k b o (λz=>O (by simp [z])) e⟩) (λ_ _ e=>e) (λ_ _ _ e=>e) (λb ps e=>⟨#[],by rw [e];simp⟩) (λm hm=> ?_) (λb u e=> ?_) I.bare
 ·have e:b=it:=by simpa using hb
  subst e;exact⟨h1,Z,h2,h3⟩
 ·obtain⟨o,es,ep,ho,r⟩:=hm;exact⟨o,es,ep,k _ o (Uu Z) ho,r⟩
 ·refine(I.hok b u e).stay (λc v O q=>k c v ?_ q) (λ_ q=>q) λ_ _ q=>q;rcases O with z|z
  ·rw [z];exact U b u e
  ·exact U c _ z
theorem Inv.tok (I:Inv X oq σ H s)(t:Nat)(O:0<t:=by ac_rfl):Inv X oq σ H {s with toks:=t}:=I.un (h':=s.heap) (t':=t) Un.refl I.hok
theorem Inv.kept (I:Inv X oq σ H s)(k:∀b u,s.heap.get? b=some u->h'.get? b=some u)(O:0<t':=by ac_rfl):Inv X oq σ H {s with heap:=h',toks:=t'}:=I.un (Un.kept k) (I.hok.kept k)
theorem Inv.laid {o:HO}(I:Inv X oq σ H s)(k:∀b u,s.heap.get? b=some u->h'.get? b=some u)(O:s.heap.objs.size<=a)(new:yg X.prog X.w (upd H a o) h' a o)(U:0<t':=by ac_rfl):
  Inv X oq σ (upd H a o) {s with heap:=h',toks:=t'}:=I.un (Un.laid k O (I.hok.fresh O)) (I.hok.laid k O new)
theorem Inv.write {x e:o3}{o:HO}{t':Nat}(I:Inv X oq σ H s)(mu:Mut (H x))(U:e=x∨H e=some (.own x))(k:∀b u,b≠e->s.heap.get? b=some u->h'.get? b=some u)(O:∃u,h'.get? e=some u)
  (new:yg X.prog X.w (upd H x o) h' x o) (Z:0<t':=by ac_rfl):Inv X oq σ (upd H x o) {s with heap:=h',toks:=t'}:=I.un (Un.write mu U k O) (I.hok.write mu U k O new)
theorem Inv.pins_of {O:oj (o3×Obj)}(I:Inv X oq σ H s)(h:∀p∈O,s.heap.get? p.1=some p.2/\H p.1=none/\p.1≠X.env.locals/\p.1∉X.fs/\∀v,p.2.data≠ .cell v):Inv X O σ H s:=
 ⟨I.ok,I.os,I.bare,I.base,I.loc,I.cell,I.free,I.freeC,λp U=>(A7.mp U).elim (λz=>I.pin p (vE _ z)) (h p),I.hok,I.len,I.tk⟩
variable {j:Nat}{x:Str}
theorem nodup_ix {N:oj Str}(O:N.Nodup){i:Nat}(a:N[i]? =some x)(b:N[j]? =some x):i=j:=by
 obtain⟨h1,U⟩:=Aa.mp a;obtain⟨h2,Z⟩:=Aa.mp b;exact(List.getElem_inj O).mp (U.trans Z.symm)
theorem store_ok2 {M:Model}{A:oh}{E:o6->o7->Prop}{i:Nat}{x:Str}{v:V}{u:o6}{Q:Unit->o7->Prop}(I:Inv X oq σ H s)(hN:X.N.Nodup)(hi:X.N[i]? =some x)(hx:Loc X.env.scope x)(r:RelV v u)
  (h:∀s',Inv X oq (σ.set i (some v)) H s'->(∃a,Heap.SameBut a s.heap s'.heap/\(a=X.env.locals∨X.env.cells.lookup x=some a))->Q Unit.unit s') (hf:X.fn x=true∨X.env.scope.names.lookup x=some .local:=by first|exact .inl rfl|exact .inr rfl|assumption):wpAny M A (storeName X.env x u) Q E s:=by
 obtain⟨m,hn,hl⟩:=id I.loc;have ad:(X.env.scope.kind== .class||(X.env.scope.kind== .module&&X.env.locals !=X.env.globals))=false:=by rw [I.ok.kind];rfl
 have ae:i<σ.length:=by rw [I.len];exact(Aa.mp hi).1
 have cne:=I.cne;have U:∀{a:o3}{h':o8},(∃o,s.heap.get? a=some o/\H a=none)->Heap.SameBut a s.heap h'->HOk X.prog X.w H h':=λ{a h'} ha O b ob e=>by
  obtain⟨_,_,aa⟩:=ha;refine(I.hok b ob e).stay (λc w' hc q=>(O.2 c ?_).trans q) (λ_ q=>q) λ_ _ q=>q;rintro rfl;rcases hc with rfl|hc
  ·rw [aa] at e;cases e
  ·rw [aa] at hc;cases hc
 rcases hx with hk|hk
 ·refine wpAny_storeName_local hk hn (λh' al O=> ?_) ad;obtain⟨oL,_,_,am,_⟩:=id hn;refine h _ ⟨I.ok,I.os,I.bare,⟨λb o e n hb hx=> ?_,λb o e n hb hx=> ?_,I.base.free,λb o e hx=> ?_,I.base.tups,I.base.frzs,I.base.tbls⟩,⟨_,al,λj y v' Z e2 e3=> ?_⟩,λy c e=> ?_,I.free,I.freeC,λp hp=> ?_,U ⟨oL,am,I.free⟩ O,by simpa using I.len,by first|exact I.tk|exact Nat.succ_pos _⟩ ⟨_,O,.inl rfl⟩
  ·exact(O.2 b (uP (Nat.lt_of_lt_of_le (uF e) I.ok.above))).trans (I.base.keep b o e n hb hx)
  ·obtain⟨sl,Z⟩:=I.base.slot b o e n hb hx;exact⟨sl,(O.2 b (uP (Nat.lt_of_lt_of_le (uF e) I.ok.above))).trans Z⟩
  ·obtain⟨o',Z⟩:=I.base.there b o e hx;exact⟨o',(O.2 b (uP (Nat.lt_of_lt_of_le (uF e) I.ok.above))).trans Z⟩
  ·by_cases hj:j=i
   ·subst hj;rw [hi] at Z;cases Z;rw [List.getElem?_set_self ae] at e2;cases e2;exact⟨u,r,.inl ⟨hk,by simp⟩⟩
   ·rw [List.getElem?_set_ne (Uu hj)] at e2;obtain⟨u',r',q⟩:=hl j y v' Z e2 e3;exists u',r';rcases q with⟨k,e⟩|⟨k,c,e,z⟩
    ·refine .inl ⟨k,?_⟩;have:y≠x:=λe=>hj (nodup_ix hN Z (e▸hi));simp [this,e]
    ·exact .inr ⟨k,c,e,z.sameBut O (cne y c e)⟩
  ·obtain⟨w',z⟩:=I.cell y c e;exact⟨w',z.sameBut O (cne y c e)⟩
  ·obtain⟨e,n,ne,nf,d⟩:=I.pin p hp;exact⟨(O.2 p.1 ne).trans e,n,ne,nf,d⟩
 ·have ac:X.fn x=true:=by
   rcases hf with z|z
   ·exact z
   ·rw [z] at hk;cases hk
  obtain⟨c,hc⟩:=I.ok.has x (.inl hk);obtain⟨w',z⟩:=I.cell x c hc;refine wpAny_storeName_cell I.ok.kind hk hc z (λh' af O=> ?_);obtain⟨oc,ag,ah⟩:=id z;refine h {s with heap:=h'} ⟨I.ok,I.os,I.bare,⟨λb o e n hb hx=> ?_,λb o e n hb hx=> ?_,I.base.free,λb o e hx=> ?_,I.base.tups,I.base.frzs,I.base.tbls⟩,⟨m,hn.sameBut O (Uu (cne x c hc)),λj y v' Z e2 e3=> ?_⟩,λy c' e=> ?_,I.free,I.freeC,λp hp=> ?_,U ⟨oc,ag,I.freeC x c hc⟩ O,by simpa using I.len,by first|exact I.tk|exact Nat.succ_pos _⟩ ⟨c,O,.inr hc⟩
  ·exact(O.2 b (uP (Nat.lt_of_lt_of_le (uF e) (I.ok.cab x c ac hc)))).trans (I.base.keep b o e n hb hx)
  ·obtain⟨sl,Z⟩:=I.base.slot b o e n hb hx;exact⟨sl,(O.2 b (uP (Nat.lt_of_lt_of_le (uF e) (I.ok.cab x c ac hc)))).trans Z⟩
  ·obtain⟨o',Z⟩:=I.base.there b o e hx;exact⟨o',(O.2 b (uP (Nat.lt_of_lt_of_le (uF e) (I.ok.cab x c ac hc)))).trans Z⟩
  ·by_cases hj:j=i
   ·subst hj;rw [hi] at Z;cases Z;rw [List.getElem?_set_self ae] at e2;cases e2;exact⟨u,r,.inr ⟨.inl hk,c,hc,af⟩⟩
   ·rw [List.getElem?_set_ne (Uu hj)] at e2;obtain⟨u',r',q⟩:=hl j y v' Z e2 e3;exists u',r';rcases q with q|⟨k,c',e,z'⟩
    ·exact .inl q
    ·refine .inr ⟨k,c',e,z'.sameBut O ?_⟩;rintro rfl;exact hj (nodup_ix hN Z (I.ok.inj _ _ _ e hc▸hi))
  ·by_cases ak:c'=c
   ·subst ak;exact⟨_,af⟩
   ·obtain⟨w2,z2⟩:=I.cell y c' e;exact⟨w2,z2.sameBut O ak⟩
  ·obtain⟨e,n,ne,nf,d⟩:=I.pin p hp;refine⟨(O.2 p.1 ?_).trans e,n,ne,nf,d⟩;intro q;rw [q,ag] at e;have q':oc=p.2:=uI e;exact d w' (by rwa [<-q'])
theorem k9 {M:Model}{A:oh}{E:o6->o7->Prop}{i:Nat}{x:Str}{v:V}{u:o6}{Q:Unit->o7->Prop}(I:Inv X oq σ H s)(O:X.N.Nodup)(hi:X.N[i]? =some x)(U:Loc X.env.scope x)(r:RelV v u)
  (h:∀s',Inv X oq (σ.set i (some v)) H s'->Q Unit.unit s') (Z:X.fn x=true∨X.env.scope.names.lookup x=some .local:=by first|exact .inl rfl|exact .inr rfl|assumption):wpAny M A (storeName X.env x u) Q E s:=
 store_ok2 I O hi U r (λs' I' _=>h s' I') Z
theorem Inv.call' {s':o7}{ch:oj o3}(I:Inv X oq σ H s)(U:s'.os=s.os)(u:Un (frs X.stack) ch H H' s.heap s'.heap)(hok:HOk X.prog X.w H' s'.heap)(Z:AllBare s'.gens)
  (O:∀b∈ch,(b∈X.ex∨X.s₀.heap.objs.size<=b)/\b≠X.env.locals/\(∀x c,X.env.cells.lookup x=some c->c≠b)/\∀p∈X.pn++oq,p.1≠b) (ht:0<s'.toks:=by ac_rfl):Inv X oq σ H' s':=by
 obtain⟨h',g',d',t',o'⟩:=s';have e:o'=s.os:=U;subst e;exact I.call (g':=g') (t':=t') (d':=d') u hok Z O
end
noncomputable abbrev XK:=o6->om o3->Hp->Prop
noncomputable abbrev St:=oj (om V)
noncomputable abbrev VK:=V->Hp->Prop
noncomputable abbrev TE:=St->Hp->VK->Prop
noncomputable abbrev TT:=St->Hp->(Bool->Hp->Prop)->Prop
noncomputable abbrev TA:=St->Hp->(oj V->Hp->Prop)->Prop
structure Ends where
 nx:St->Hp->Prop
 rt:VK
 bk:St->Hp->Prop:=λ_ _=>False
 ct:St->Hp->Prop:=λ_ _=>False
noncomputable abbrev TS:=Ends->St->Hp->Prop
noncomputable def EP (X:Cx)(oq:oj (o3×Obj))(σ:St)(Q:VK)(u:o6)(s':o7):Prop:=∃v H',Inv X oq σ H' s'/\RelV v u/\Q v H'
noncomputable def TP (X:Cx)(oq:oj (o3×Obj))(σ:St)(Q:Bool->Hp->Prop)(b:Bool)(s':o7):Prop:=∃H',Inv X oq σ H' s'/\Q b H'
noncomputable def AP (X:Cx)(oq:oj (o3×Obj))(σ:St)(Q:oj V->Hp->Prop)(us:oj o6)(s':o7):Prop:=∃vs H',Inv X oq σ H' s'/\Vals vs us/\Q vs H'
noncomputable def SP (X:Cx)(oq:oj (o3×Obj))(D:Ends)(f:Flow)(s':o7):Prop:=
 match f with
 | .next=>∃σ' H',Inv X oq σ' H' s'/\D.nx σ' H'
 | .brk=>∃σ' H',Inv X oq σ' H' s'/\D.bk σ' H'
 | .cont=>∃σ' H',Inv X oq σ' H' s'/\D.ct σ' H'
 | .ret u=>∃v σ' H',Inv X oq σ' H' s'/\RelV v u/\D.rt v H'
noncomputable def PE (X:Cx)(e:Expr)(t:TE):Prop:=
 ∀(oq:oj (o3×Obj)) (s:o7) (σ:St) (H:Hp) (Q:VK),Inv X oq σ H s->t σ H Q->wpAny #[X,X] X.A (eval e X.env) (EP X oq σ Q) X.xe s
noncomputable def PT (X:Cx)(e:Expr)(t:TT):Prop:=
 ∀(oq:oj (o3×Obj)) (s:o7) (σ:St) (H:Hp) (Q:Bool->Hp->Prop),Inv X oq σ H s->t σ H Q->wpAny #[X,X] X.A (isTrue e X.env (eval e X.env)) (TP X oq σ Q) X.xe s
noncomputable def PW (X:Cx)(e:Expr)(t:TT):Prop:=
 ∀(whole:Sem o6) (oq:oj (o3×Obj)) (s:o7) (σ:St) (H:Hp) (Q:Bool->Hp->Prop),Inv X oq σ H s->t σ H Q->wpAny #[X,X] X.A (isTrue e X.env whole) (TP X oq σ Q) X.xe s
variable {X:Cx}
theorem PW.pt {e:Expr}{t:TT}(h:PW X e t):PT X e t:=h _
noncomputable def PA (X:Cx)(es:oj Expr)(t:TA):Prop:=
 ∀(pos:Pos) (oq:oj (o3×Obj)) (s:o7) (σ:St) (H:Hp) (Q:oj V->Hp->Prop),Inv X oq σ H s->t σ H Q->wpAny #[X,X] X.A (spliced (backTo pos (starEach es X.env))) (AP X oq σ Q) X.xe s
noncomputable def PS (X:Cx)(st:Stmt)(t:TS):Prop:=
 ∀(oq:oj (o3×Obj)) (s:o7) (σ:St) (H:Hp) (D:Ends),Inv X oq σ H s->t D σ H->wpAny #[X,X] X.A (exec st X.env) (SP X oq D) X.xe s
noncomputable def PSs (X:Cx)(st:oj Stmt)(t:TS):Prop:=
 ∀(oq:oj (o3×Obj)) (s:o7) (σ:St) (H:Hp) (D:Ends),Inv X oq σ H s->t D σ H->wpAny #[X,X] X.A (execs st X.env) (SP X oq D) X.xe s
variable {A:oh}{s:o7}
theorem thn {α:Type}{t:Sem α}{Q O:α->o7->Prop}{M:Model}{E:o6->o7->Prop}(h:wpAny M A t Q E s)(U:∀a s,Q a s->O a s):wpAny M A t O E s:=vM h U λ_ _ x=>x
section
variable {X:Cx}
inductive tVar (i:Nat) (σ:St) (H:Hp) (Q:VK):Prop
 |mk (v:_) (_:σ[i]? =some (some v)) (_:Q v H)
noncomputable def tC (v:V):TE:=λ_ H Q=>Q v H
variable {x:Str}
theorem pe_var {i:Nat}{pos:Pos}(hN:X.N[i]? =some x)(hv:Vis X.env.scope x)(hd:(x==("__debug__":Str))=false:=by decide)(Z:(x==("__classdict__":Str))=false:=by decide):PE X (.Name x pos) (tVar i):=by
 intro oq s σ H Q I h;obtain⟨v,e,h⟩:=h;obtain⟨m,hn,hl⟩:=I.loc;obtain⟨u,r,l⟩:=hl i x v hN e hv;have fin:EP X oq σ Q u s:=⟨v,H,I,r,h⟩;rcases l with⟨U,hm⟩|⟨U,c,hc,O⟩
 ·exact wpAny_Name (wpAny_loadName_local I.ok.kind U hn hm fin) hd
 ·rcases U with U|U
  ·exact wpAny_Name (wpAny_loadName_cell I.ok.kind U hc O fin) hd
  ·exact wpAny_Name (wpAny_loadName_free I.ok.kind U hc O fin Z) hd
theorem qi {i j pos}:PE X (.Constant (.int i) j pos) (tC (.int i)):=λ_ _ _ H _ I h=>wpAny_Constant_int ⟨.int i,H,I.tok _,⟨0⟩,h⟩
theorem jN {b j pos}:PE X (.Constant (.bool b) j pos) (tC (.bl b)):=λ_ _ _ H _ I h=>Constant_bool ⟨.bl b,H,I,1,h⟩
theorem qU {j pos}:PE X (.Constant .none j pos) (tC .non):=λ_ _ _ H _ I h=>Constant_none ⟨.non,H,I,1,h⟩
theorem ql {x j pos}:PE X (.Constant (.str x) j pos) (tC (.str x)):=λ_ _ _ H _ I h=>Calls.Constant_str ⟨.str x,H,I.tok _,⟨0⟩,h⟩
noncomputable def Gl (X:Cx)(x:Str):Prop:=X.env.kindOf x=some .globalImplicit
theorem ke {E:o6->o7->Prop}{oq:oj (o3×Obj)}{s:o7}{σ:St}{H:Hp}{x:Str}{u:o6}{pos:Pos}{Q:o6->o7->Prop}(I:Inv X oq σ H s)(O:Gl X x)(hm:X.mg x=some u)(h:Q u s)
  (hd:(x==("__debug__":Str))=false:=by decide):wpAny #[X,X] X.A (eval (.Name x pos) X.env) Q E s:=
 Calls.Name_function_global I.ok.kind O (Calls.loadGlobal_global (by rw [I.ok.glob];exact I.mod.glob.keeps I.bk) hm h) hd
theorem Z8 {E:o6->o7->Prop}{oq:oj (o3×Obj)}{s:o7}{σ:St}{H:Hp}{x:Str}{u:o6}{pos:Pos}{Q:o6->o7->Prop}(I:Inv X oq σ H s)(O:Gl X x)(hm:X.mg x=none)(U:bootBuiltins x=some u)(h:Q u s)
  (hn:x≠"__name__":=by decide) (hd:(x==("__debug__":Str))=false:=by decide):wpAny #[X,X] X.A (eval (.Name x pos) X.env) Q E s:=by
 obtain⟨mb,h1,h2⟩:=I.mod.blt;exact Calls.Name_function_global I.ok.kind O (Calls.loadGlobal_builtin (by rw [I.ok.glob];exact I.mod.glob.keeps I.bk) hm (by rw [I.ok.blt];exact h1.keeps I.bk) ((h2 x hn).trans U) h) hd
variable {v:V}
theorem pe_glob {u:o6}{pos:Pos}(O:Gl X x)(hm:X.mg x=some u)(r:RelV v u)(hd:(x==("__debug__":Str))=false:=by decide):PE X (.Name x pos) (tC v):=
 λ_ _ _ H _ I h=>ke I O hm ⟨v,H,I,r,h⟩ hd
theorem Q0 {x:Str}{v:V}{u:o6}{pos:Pos}(O:Gl X x)(hm:X.mg x=none)(U:bootBuiltins x=some u)(r:RelV v u)(hn:x≠"__name__")(hd:(x==("__debug__":Str))=false):PE X (.Name x pos) (tC v):=
 λ_ _ _ H _ I h=>Z8 I O hm U ⟨v,H,I,r,h⟩ hn hd
variable {a b:Expr}{ta tb:TE}{pos:Pos}
noncomputable def PC (X:Cx)(op:CmpOp)(a b:Expr)(t:TE):Prop:=
 ∀(oq:oj (o3×Obj)) (s:o7) (σ:St) (H:Hp) (Q:VK),Inv X oq σ H s->t σ H Q->
  wpAny #[X,X] X.A (eval a X.env) (λv s₁=>wpAny #[X,X] X.A (eval b X.env) (λu s₂=>wpAny #[X,X] X.A (compareOp op v u) (EP X oq σ Q) X.xe s₂) X.xe s₁) X.xe s
inductive ItB (Q:(Bool->Hp->Prop)) (x:V) (H1:Hp):Prop
 |mk (c:_) (_:x= .bl c) (_:Q c H1)
noncomputable def tB (t:TE):TT:=λσ H Q=>t σ H λx H1=>ItB Q x H1
theorem pt_cmp {O:CmpOp}{t:TE}(h:PC X O a b t)(h1:behindInMarks O b=false):PT X (.Compare a [O] [b] pos) (tB t):=by
 intro oq s σ H Q I U;refine wpAny_isTrue_Compare1 (thn (h oq s σ H _ I U) λv s1 h1=>thn h1 λu s2 h2=>thn h2 λc s3 ⟨x,H1,Z,r1,q1⟩=> ?_) h1;obtain⟨d,rfl,q⟩:=q1;cases r1;exact vv ⟨H1,Z,q⟩
theorem Qj {e:Expr}{t:TE}(h:PE X e t)(U:∀O,isTrue e X.env O=(do let v<-O;standAt e.pos;holding [v] (truthy v))):PT X e (tB t):=by
 intro oq s σ H Q I Z;refine isTrue_plain (thn (h oq s σ H _ I Z) λv s1 ⟨x,H1,I1,r1,q1⟩=> ?_) (U _);obtain⟨d,rfl,q⟩:=q1;cases r1;exact vv ⟨H1,I1,q⟩
variable {tA tB':TT}{rest:oj Expr}
noncomputable def tAnd (t u:TT):TT:=λσ H Q=>t σ H λc H1=>if c=true then u σ H1 Q else Q false H1
noncomputable def tOr (t u:TT):TT:=λσ H Q=>t σ H λc H1=>if c=true then Q true H1 else u σ H1 Q
noncomputable def tNot (t:TT):TT:=λσ H Q=>t σ H λc H1=>Q (!c) H1
theorem pw_and1 (ha:PT X a tA):PW X (.BoolOp .And [a] pos) tA:=by
 intro O oq s σ H Q I h;refine isTrue_and (thn (ha oq s σ H Q I h) λc s1 e=> ?_);cases c with
 |true=>exact isTrue_and_nil e
 |false=>exact e
theorem xY (ha:PT X a tA):PW X (.BoolOp .Or [a] pos) tA:=by
 intro O oq s σ H Q I h;refine isTrue_or (thn (ha oq s σ H Q I h) λc s1 e=> ?_);cases c with
 |false=>exact isTrue_or_nil e
 |true=>exact e
theorem pw_and (ha:PT X a tA)(U:PW X (.BoolOp .And (b::rest) pos) tB'):PW X (.BoolOp .And (a::b::rest) pos) (tAnd tA tB'):=by
 intro Z oq s σ H Q I h;refine isTrue_and (thn (ha oq s σ H _ I h) λc s1 ⟨H1,O,q1⟩=> ?_);cases c with
 |true=>exact U Z oq s1 σ H1 Q O q1
 |false=>exact⟨H1,O,q1⟩
theorem ZK (ha:PT X a tA)(U:PW X (.BoolOp .Or (b::rest) pos) tB'):PW X (.BoolOp .Or (a::b::rest) pos) (tOr tA tB'):=by
 intro Z oq s σ H Q I h;refine isTrue_or (thn (ha oq s σ H _ I h) λc s1 ⟨H1,O,q1⟩=> ?_);cases c with
 |true=>exact⟨H1,O,q1⟩
 |false=>exact U Z oq s1 σ H1 Q O q1
theorem Qx (ha:PT X a tA):PT X (.UnaryOp .Not a pos) (tNot tA):=by
 intro oq s σ H Q I h;exact isTrue_not (ha oq s σ H (λc H1=>Q (!c) H1) I h)
inductive ItAndV (tb:TE) (σ:St) (Q:VK) (x:V) (H1:Hp):Prop
 |mk (c:_) (_:x= .bl c) (_:if c=true then tb σ H1 Q else Q (.bl false) H1)
noncomputable def tAndV (ta tb:TE):TE:=λσ H Q=>ta σ H λx H1=>ItAndV tb σ Q x H1
inductive ItOrV (tb:TE) (σ:St) (Q:VK) (x:V) (H1:Hp):Prop
 |mk (c:_) (_:x= .bl c) (_:if c=true then Q (.bl true) H1 else tb σ H1 Q)
noncomputable def tOrV (ta tb:TE):TE:=λσ H Q=>ta σ H λx H1=>ItOrV tb σ Q x H1
theorem Wr {op}{t:TE}(h:PE X a t):PE X (.BoolOp op [a] pos) t:=λoq s σ H Q I O=>BoolOp_one (h oq s σ H Q I O)
theorem pe_and (ha:PE X a ta)(U:PE X (.BoolOp .And (b::rest) pos) tb):PE X (.BoolOp .And (a::b::rest) pos) (tAndV ta tb):=by
 intro oq s σ H Q I h;refine BoolOp_and (thn (ha oq s σ H _ I h) λv s1 ⟨x,H1,O,Z,q1⟩=> ?_);obtain⟨c,rfl,q1⟩:=q1;cases Z;refine vv ?_;cases c with
 |true=>exact U oq s1 σ H1 Q O q1
 |false=>exact⟨.bl false,H1,O,1,q1⟩
theorem pe_or (ha:PE X a ta)(U:PE X (.BoolOp .Or (b::rest) pos) tb):PE X (.BoolOp .Or (a::b::rest) pos) (tOrV ta tb):=by
 intro oq s σ H Q I h;refine BoolOp_or (thn (ha oq s σ H _ I h) λv s1 ⟨x,H1,O,Z,q1⟩=> ?_);obtain⟨c,rfl,q1⟩:=q1;cases Z;refine vv ?_;cases c with
 |false=>exact U oq s1 σ H1 Q O q1
 |true=>exact⟨.bl true,H1,O,1,q1⟩
noncomputable def tIf (t:TT)(ta tb:TE):TE:=λσ H Q=>t σ H λc H1=>if c=true then ta σ H1 Q else tb σ H1 Q
theorem Q6 {c:Expr}(U:PT X c tA)(ha:PE X a ta)(Z:PE X b tb):PE X (.IfExp c a b pos) (tIf tA ta tb):=by
 intro oq s σ H Q I h;refine wpAny_IfExp (thn (U oq s σ H _ I h) λd s1 ⟨H1,O,q1⟩=> ?_);cases d with
 |true=>exact ha oq s1 σ H1 Q O q1
 |false=>exact Z oq s1 σ H1 Q O q1
end
noncomputable def SqL (K:o0)(H:Hp)(a:o3)(xs:oj V):Prop:=
 Rd H a (.lst xs)∨
  ∃(o:Obj) (its:Array o6) (n:Nat),K.lookup a=some o/\o.cls= .type "list"/\o.dict=none/\o.data= .seq its n/\its.size<=sizeLine/\Vals xs its.toList
noncomputable def SqT (K:o0)(H:Hp)(a:o3)(xs:oj V):Prop:=
 Rd H a (.tup xs)∨
  ∃(o:Obj) (its:Array o6) (n:Nat),K.lookup a=some o/\o.cls= .type "tuple"/\o.data= .seq its n/\its.size<=sizeLine/\Vals xs its.toList
noncomputable def absV:o6->om V
 | .none=>some .non
 | .bool b=>some (.bl b)
 | .int i _=>some (.int i)
 | .str x _=>some (.str x)
 | .bytes b _=>some (.byt b)
 | .float b _=>some (.flt b)
 | .ref a=>some (.ref a)
 | .type n=>some (.ty n)
 |_=>none
theorem RelV.abs {x:V}{u:o6}(r:RelV x u):absV u=some x:=by
 cases x with
 |non=>cases r;rfl
 |bl _=>cases r;rfl
 |int _=>obtain⟨t,rfl⟩:=r;rfl
 |str _=>obtain⟨t,rfl⟩:=r;rfl
 |byt _=>obtain⟨t,rfl⟩:=r;rfl
 |flt _=>obtain⟨t,rfl⟩:=r;rfl
 |ref _=>cases r;rfl
 |ty _=>cases r;rfl
variable {y:V}
theorem RelV.inj {x:V}{u:o6}(r:RelV x u)(q:RelV y u):x=y:=uI (r.abs.symm.trans q.abs)
theorem Vals.inj:∀{xs ys:oj V}{us:oj o6},Vals xs us->Vals ys us->xs=ys
 |_,_,_,.nil,.nil=>rfl
 |_,_,_,.cons r t,.cons r' t'=>by rw [r.inj r',Vals.inj t t']
section
variable {X:Cx}{oq:oj (o3×Obj)}{σ:St}{H:Hp}{s:o7}{a:o3}{xs ys:oj V}
variable {K:o0}
theorem SqL.of (h:H a=some (.lst xs)):SqL K H a xs:= .inl (.inl h)
theorem SqT.of (h:H a=some (.tup xs)):SqT K H a xs:= .inl (.inl h)
theorem Inv.list (I:Inv X oq σ H s)(h:SqL X.K H a xs):∃its:oj o6,Vals xs its/\PlainL s.heap a its.toArray/\xs.length<=sizeLine:=by
 rcases h with h|⟨o,its,n,O,U,hd,Z,hz,r⟩
 ·obtain⟨z,its,n,r,e⟩:=h.ok I.hok;exact⟨its,r,⟨_,n,e,1,1,1⟩,z⟩
 ·exists its.toList,r,⟨o,n,I.kIn a o O,U,hd,by simpa using Z⟩
  have e:=r.length;simp only [vh] at e;omega
theorem Inv.tuple (I:Inv X oq σ H s)(h:SqT X.K H a xs):∃its:oj o6,Vals xs its/\IsTup s.heap a its.toArray/\xs.length<=sizeLine:=by
 rcases h with h|⟨o,its,n,O,U,Z,hz,r⟩
 ·obtain⟨z,its,r,p⟩:=h.ok I.hok;exact⟨its,r,p,z⟩
 ·exists its.toList,r,⟨o,I.kIn a o O,U,n,by simpa using Z⟩
  have e:=r.length;simp only [vh] at e;omega
theorem Inv.list_inj (I:Inv X oq σ H s)(h:SqL X.K H a xs)(h':SqL X.K H a ys):xs=ys:=by
 obtain⟨its,r,⟨o,n,e,_,_,d⟩,_⟩:=I.list h;obtain⟨its',O,⟨o',Z,e',_,_,d'⟩,_⟩:=I.list h';rw [e] at e';cases e';rw [d] at d';injection d' with U _
 have:its=its':=by simpa using congrArg Array.toList U
 subst this;exact r.inj O
theorem Inv.tuple_inj (I:Inv X oq σ H s)(h:SqT X.K H a xs)(h':SqT X.K H a ys):xs=ys:=by
 obtain⟨its,r,⟨o,e,_,n,d⟩,_⟩:=I.tuple h;obtain⟨its',O,⟨o',e',_,Z,d'⟩,_⟩:=I.tuple h';rw [e] at e';cases e';rw [d] at d';injection d' with U _
 have:its=its':=by simpa using congrArg Array.toList U
 subst this;exact r.inj O
end
noncomputable abbrev Cx.wish (X:Cx)(E:o6->o7->Prop):Cx:={X with xe:=E}
noncomputable abbrev Cx.nox (X:Cx):Cx:=X.wish λ_ _=>False
theorem Cx.Ok.wish (ok:X.Ok)(E:o6->o7->Prop):(X.wish E).Ok:=
 ⟨ok.mod,ok.kind,ok.glob,ok.blt,ok.above,ok.inj,ok.has,ok.cab,ok.hd,ok.frames,ok.stk,ok.exf,ok.bs,ok.bsz,ok.noex,ok.exfs,ok.funs,ok.frf⟩
theorem Cx.Ok.unwish {E:o6->o7->Prop}(ok:(X.wish E).Ok):X.Ok:=
 ⟨ok.mod,ok.kind,ok.glob,ok.blt,ok.above,ok.inj,ok.has,ok.cab,ok.hd,ok.frames,ok.stk,ok.exf,ok.bs,ok.bsz,ok.noex,ok.exfs,ok.funs,ok.frf⟩
section
variable {X:Cx}{oq:oj (o3×Obj)}{σ:St}{H:Hp}{s:o7}{E:o6->o7->Prop}
theorem Inv.wish (I:Inv X oq σ H s)(E:o6->o7->Prop):Inv (X.wish E) oq σ H s:=⟨I.ok.wish E,I.os,I.bare,I.base,I.loc,I.cell,I.free,I.freeC,I.pin,I.hok,I.len,I.tk⟩
theorem Inv.unwish (I:Inv (X.wish E) oq σ H s):Inv X oq σ H s:=⟨I.ok.unwish,I.os,I.bare,I.base,I.loc,I.cell,I.free,I.freeC,I.pin,I.hok,I.len,I.tk⟩
theorem SP.unwish {D:Ends}{f:Flow}{s':o7}(h:SP (X.wish E) oq D f s'):SP X oq D f s':=by
 cases f with
 |next=>obtain⟨O,H',I,q⟩:=h;exact⟨O,H',I.unwish,q⟩
 |brk=>obtain⟨O,H',I,q⟩:=h;exact⟨O,H',I.unwish,q⟩
 |cont=>obtain⟨O,H',I,q⟩:=h;exact⟨O,H',I.unwish,q⟩
 |ret u=>obtain⟨v,O,H',I,r,q⟩:=h;exact⟨v,O,H',I.unwish,r,q⟩
theorem PSs.nox {st:oj Stmt}{t:TS}(h:PSs X.nox st t):PSs X st t:=λoq s σ H D I hw=>
 vM (h oq s σ H D (I.wish _) hw) (λ_ _ q=>q.unwish) λ_ _ z=>False.elim z
end
section
variable {X:Cx}{st:Stmt}{rest:oj Stmt}{t u:TS}{e:Expr}{te:TE}{pos:Pos}
noncomputable def tNext:TS:=λD σ H=>D.nx σ H
noncomputable def tSeq (t u:TS):TS:=λD σ H=>t {D with nx:=u D} σ H
theorem qw:PSs X [] tNext:=λ_ _ σ H _ I h=>wpAny_execs_nil ⟨σ,H,I,h⟩
theorem qc (h1:PS X st t)(h2:PSs X rest u):PSs X (st::rest) (tSeq t u):=by
 intro oq s σ H D I h;refine wpAny_execs_cons (thn (h1 oq s σ H {D with nx:=u D} I h) λf s1 q=> ?_)
 cases f with
 |next=>
  obtain⟨O,H',U,q⟩:=q;exact h2 oq s1 O H' D U q
 |ret v=>exact q
 |brk=>exact q
 |cont=>exact q
theorem qe (h1:PS X st t):PSs X [st] t:=by
 intro oq s σ H D I h;refine wpAny_execs_cons (thn (h1 oq s σ H D I h) λf s1 q=> ?_);cases f with
 |next=>exact wpAny_execs_nil q
 |ret v=>exact q
 |brk=>exact q
 |cont=>exact q
noncomputable def tBreak:TS:=λD σ H=>D.bk σ H
noncomputable def tCont:TS:=λD σ H=>D.ct σ H
theorem ps_pass:PS X (.Pass pos) tNext:=λ_ _ σ H _ I h=>wpAny_Pass ⟨σ,H,I,h⟩
theorem ps_break:PS X (.Break pos) tBreak:=λ_ _ σ H _ I h=>wpAny_Break ⟨σ,H,I,h⟩
theorem ps_continue:PS X (.Continue pos) tCont:=λ_ _ σ H _ I h=>wpAny_Continue ⟨σ,H,I,h⟩
variable {oq:oj (o3×Obj)}{σ:St}
theorem Inv.quiet (I:Inv X oq σ H s):interactive X.env=false:=by simp [interactive,I.ok.kind]
noncomputable def tDrop (te:TE):TS:=λD σ H=>te σ H λ_ H1=>D.nx σ H1
theorem qY (O:PE X e te)(U:swapsWith e none pos.line X.env=pure false):PS X (.Expr e pos) (tDrop te):=by
 intro oq s σ H D I h;exact wpAny_Expr_any (thn (O oq s σ H _ I h) λv s1 ⟨x,H1,Z,r1,q1⟩=>⟨σ,H1,Z,q1⟩) I.quiet U
noncomputable def tRet (te:TE):TS:=λD σ H=>te σ H D.rt
theorem qp (O:PE X e te):PS X (.Return (some e) pos) (tRet te):=by
 intro oq s σ H D I h;exact wpAny_Return_some (thn (O oq s σ H _ I h) λv s1 ⟨x,H1,U,Z,q1⟩=>⟨x,σ,H1,U,Z,q1⟩)
noncomputable def tRetN:TS:=λD _ H=>D.rt .non H
theorem ps_retN:PS X (.Return none pos) tRetN:=λ_ _ σ H _ I h=>wpAny_Return_none ⟨.non,σ,H,I,1,h⟩
noncomputable def tIfS (c:TT)(t u:TS):TS:=λD σ H=>c σ H λb H1=>if b=true then t D σ H1 else u D σ H1
theorem qI {c:Expr}{a b:oj Stmt}{tc:TT}(U:PT X c tc)(ha:PSs X a t)(Z:PSs X b u):PS X (.If c a b pos) (tIfS tc t u):=by
 intro oq s σ H D I h;refine wpAny_If (thn (U oq s σ H _ I h) λd s1 ⟨H1,O,q1⟩=> ?_);cases d with
 |true=>exact ha oq s1 σ H1 D O q1
 |false=>exact Z oq s1 σ H1 D O q1
noncomputable def tNever:TS:=λ_ _ _=>False
theorem jw:PS X st tNever:=λ_ _ _ _ _ _ h=>h.elim
end
noncomputable abbrev TG:=V->St->Hp->(St->Hp->Prop)->Prop
noncomputable abbrev TGs:=oj V->St->Hp->(St->Hp->Prop)->Prop
noncomputable def PG (X:Cx)(target:Expr)(t:TG):Prop:=
 ∀(oq:oj (o3×Obj)) (s:o7) (σ:St) (H:Hp) (v:V) (u:o6) (Q:St->Hp->Prop),Inv X oq σ H s->RelV v u->t v σ H Q->
  wpAny #[X,X] X.A (assign target X.env u) (λ_ s'=>∃σ' H',Inv X oq σ' H' s'/\Q σ' H') X.xe s
noncomputable def PGs (X:Cx)(ts:oj Expr)(t:TGs):Prop:=
 ∀(oq:oj (o3×Obj)) (s:o7) (σ:St) (H:Hp) (vs:oj V) (us:oj o6) (Q:St->Hp->Prop),Inv X oq σ H s->Vals vs us->t vs σ H Q->
  wpAny #[X,X] X.A (assignInOrder ((assignEach ts X.env).map (·.2)) us) (λ_ s'=>∃σ' H',Inv X oq σ' H' s'/\Q σ' H') X.xe s
noncomputable abbrev TSet:=V->V->V->Hp->(Hp->Prop)->Prop
noncomputable def PSet (X:Cx)(t:TSet):Prop:=
 ∀(oq:oj (o3×Obj)) (s:o7) (σ:St) (H:Hp) (o i v:V) (ov iv u:o6) (Q:Hp->Prop),Inv X oq σ H s->RelV o ov->RelV i iv->RelV v u->t o i v H Q->
  wpAny #[X,X] X.A (setItem ov iv u) (λ_ s'=>∃H',Inv X oq σ H' s'/\Q H') X.xe s
noncomputable abbrev TIp:=V->V->Hp->VK->Prop
noncomputable def PIp (X:Cx)(op:Operator)(t:TIp):Prop:=
 ∀(oq:oj (o3×Obj)) (s:o7) (σ:St) (H:Hp) (x y:V) (v u:o6) (Q:VK),Inv X oq σ H s->RelV x v->RelV y u->t x y H Q->
  wpAny #[X,X] X.A (inplaceOp op v u) (EP X oq σ Q) X.xe s
section
variable {X:Cx}{pos:Pos}
noncomputable def Jn (i:Nat):TG:=λv σ H Q=>Q (σ.set i (some v)) H
theorem qX {i:Nat}{x:Str}(O:X.N.Nodup)(hi:X.N[i]? =some x)(U:Loc X.env.scope x)(Z:X.fn x=true∨X.env.scope.names.lookup x=some .local):PG X (.Name x pos) (Jn i):=by
 intro oq s σ H v u Q I r h;exact wpAny_assign_Name (k9 I O hi U r (λs' I'=>⟨_,H,I',h⟩) Z)
noncomputable def gNil:TGs:=λvs σ H Q=>vs= []/\Q σ H
noncomputable def gCons (t:TG)(u:TGs):TGs:=λvs σ H Q=>∃v r,vs=v::r/\t v σ H λσ' H'=>u r σ' H' Q
theorem W8:PGs X [] gNil:=by
 intro oq s σ H vs us Q I r h;obtain⟨e,h⟩:=h;subst e;cases r;exact assignInOrder_nil ⟨σ,H,I,h⟩
theorem yU {e:Expr}{es:oj Expr}{t:TG}{u:TGs}(h1:PG X e t)(h2:PGs X es u)
  (O:(assignEach (e::es) X.env).map (·.2)=assign e X.env::(assignEach es X.env).map (·.2):=by rfl):PGs X (e::es) (gCons t u):=by
 intro oq s σ H vs us Q I r h;obtain⟨v,vr,U,h⟩:=h;subst U;cases r with
 |cons r Z=>
  rw [O];refine assignInOrder_cons (thn (h1 oq s σ H _ _ _ I r h) λ_ s1 ⟨σ1,H1,I1,q1⟩=> ?_);exact h2 oq s1 σ1 H1 _ _ Q I1 Z q1
noncomputable def gTup (K:o0)(n:Nat)(t:TGs):TG:=λv σ H Q=>∃a xs,v= .ref a/\SqT K H a xs/\xs.length=n/\t xs σ H Q
theorem pg_tup {es:oj Expr}{k:Nat}{t:TGs}{n:Nat}(Z:X.calm=true)(h:PGs X es t)
  (hn:(assignEach es X.env).length=n:=by rfl) (O:(assignEach es X.env).findIdx? (·.1)=none:=by rfl):PG X (.Tuple es k pos) (gTup X.K n t):=by
 intro oq s σ H v u Q I r U;obtain⟨a,xs,e1,hq,hl,U⟩:=U;subst e1;cases r;obtain⟨its,rv,ht,hz⟩:=I.tuple hq;refine assign_Tuple_tuple (I.ok.hd Z) ht (by simp [hn,<-hl,rv.length]) O λh' hx=> ?_
 have I1:Inv X oq σ H {s with heap:=h'}:=I.kept (t':=s.toks) λb o e=>hx b o (uP (uF e)) e
 exact h oq _ σ H xs _ Q I1 (by simpa using rv) U
noncomputable def gSub (to ti:TE)(t:TSet):TG:=λv σ H Q=>to σ H λo H1=>ti σ H1 λi H2=>t o i v H2 λH3=>Q σ H3
theorem pg_sub {o i:Expr}{to ti:TE}{t:TSet}(U:PE X o to)(hi:PE X i ti)(Z:PSet X t)
  (ha:∀v,assign (.Subscript o i pos) X.env v=(do
   let ov<-holding [v] (eval o X.env)
   let O<-holding [v,ov] (eval i X.env)
   standAt pos
   holding [v,ov,O] (setItem ov O v)
   release [v,ov,O] [])):PG X (.Subscript o i pos) (gSub to ti t):=by
 intro oq s σ H v u Q I r h;rw [ha];refine A4 (wpAny_holding (thn (U oq s σ H _ I h) λov s1 ⟨x,H1,I1,r1,q1⟩=> ?_));refine A4 (wpAny_holding (thn (hi oq s1 σ H1 _ I1 q1) λO s2 ⟨y,H2,I2,r2,q2⟩=> ?_));refine A4 (wpAny_standAt (A4 (wpAny_holding (thn (Z oq s2 σ H2 x y v ov O u _ I2 r1 r2 r q2) λ_ s3 ⟨H3,I3,q3⟩=> ?_))));exact wpAny_release ⟨σ,H3,I3,q3⟩
noncomputable def tAsg (te:TE)(g:TG):TS:=λD σ H=>te σ H λx H1=>g x σ H1 D.nx
theorem ps_asg {tg e:Expr}{te:TE}{g:TG}(O:PE X e te)(U:PG X tg g)(Z:swapsWithSole [tg] e pos.line X.env=pure false)(hw:swappedStores [tg] e X.env=pure none)
  (h1:(assignEach [tg] X.env).map (·.2)= [assign tg X.env]):PS X (.Assign [tg] e pos) (tAsg te g):=by
 intro oq s σ H D I h;refine wpAny_Assign_stores (thn (O oq s σ H _ I h) λv s1 ⟨x,H1,I1,r1,q1⟩=> ?_) Z hw;rw [h1];exact thn (U oq s1 σ H1 x v _ I1 r1 q1) λ_ s2 q=>q
theorem qC {i:Nat}{x:Str}{e:Expr}{te:TE}{pos':Pos}(O:X.N.Nodup)(hi:X.N[i]? =some x)(U:Loc X.env.scope x)(Z:PE X e te)(hs:swapsWith e (some (.Name x pos')) pos.line X.env=pure false)(hf:X.fn x=true∨X.env.scope.names.lookup x=some .local):
  PS X (.Assign [.Name x pos'] e pos) (tAsg te (Jn i)):=by
 intro oq s σ H D I h;refine wpAny_Assign_Name (thn (Z oq s σ H _ I h) λv s1 ⟨y,H1,I1,r1,q1⟩=> ?_) hs;exact k9 I1 O hi U r1 (λs2 I2=>⟨_,H1,I2,q1⟩) hf
inductive tAug (i:Nat) (te:TE) (ti:TIp) (D:Ends) (σ:St) (H:Hp):Prop
 |mk (x:_) (_:σ[i]? =some (some x)) (_:te σ H λy H1=>ti x y H1 λz H2=>D.nx (σ.set i (some z)) H2)
theorem ps_aug {i:Nat}{x:Str}{e:Expr}{te:TE}{Z:Operator}{ti:TIp}{pos':Pos}(hN:X.N.Nodup)(hi:X.N[i]? =some x)(hx:Loc X.env.scope x)(he:PE X e te)(ho:PIp X Z ti)(hf:X.fn x=true∨X.env.scope.names.lookup x=some .local):
  PS X (.AugAssign (.Name x pos') Z e pos) (tAug i te ti):=by
 intro oq s σ H D I h;obtain⟨v,e1,h⟩:=h;obtain⟨m,hn,hl⟩:=I.loc;have aa:Vis X.env.scope x:=by rcases hx with k|k;exact .inl k;exact .inr (.inl k)
 obtain⟨u,r,l⟩:=hl i x v hi e1 aa;refine wpAny_AugAssign_Name ?_;have go:wpAny #[X,X] X.A (eval e X.env) (λw s₂=>wpAny #[X,X] X.A (inplaceOp Z u w) (λr s₃=>wpAny #[X,X] X.A (storeName X.env x r) (λ_=>SP X oq D .next) X.xe s₃) X.xe s₂) X.xe s:=by
  refine thn (he oq s σ H _ I h) λw s1 ⟨y,H1,I1,r1,q1⟩=> ?_;refine thn (ho oq s1 σ H1 v y u w _ I1 r r1 q1) λz s2 ⟨zv,H2,I2,r2,q2⟩=> ?_;exact k9 I2 hN hi hx r2 (λs3 I3=>⟨_,H2,I3,q2⟩) hf
 rcases l with⟨O,hm⟩|⟨O,c,hc,U⟩
 ·exact wpAny_loadName_local I.ok.kind O hn hm go
 ·rcases O with O|O
  ·exact wpAny_loadName_cell I.ok.kind O hc U go
  ·rcases hx with k|k
   ·have:X.env.scope.names.lookup x=some .free:=O;rw [k] at this;cases this
   ·have:X.env.scope.names.lookup x=some .free:=O;rw [k] at this;cases this
noncomputable def ipI (f:Int->Int->Int):TIp:=λx y H Q=>∃i j,x= .int i/\y= .int j/\Q (.int (f i j)) H
theorem ip_add:PIp X .Add (ipI λi j=>i+j):=by
 intro oq s σ H x y v u Q I O U h;obtain⟨i,j,Z,e2,q⟩:=h;subst Z;subst e2;obtain⟨t,rfl⟩:=O;obtain⟨t',rfl⟩:=U;exact iadd_int ⟨.int _,H,I.tok _,⟨0⟩,q⟩
noncomputable def tWhile (c:TT)(tb:TS):TS:=λD σ H=>∃W:Nat->St->Hp->Prop,(∃m,W m σ H)/\∀m σ H,W m σ H->
 c σ H λb H1=>if b=true then∃N:St->Hp->Prop,(∀σ' H',N σ' H'->∃m',m'<m/\W m' σ' H')/\tb {D with nx:=N,ct:=N,bk:=D.nx} σ H1 else D.nx σ H1
theorem JE {c:Expr}{O:oj Stmt}{tc:TT}{tb:TS}(hp:PassesOwn #[X,X] X.A X.env X.xe)(hc:PT X c tc)(hb:PSs X O tb):PS X (.While c O [] pos) (tWhile tc tb):=by
 intro oq s σ H D I h;obtain⟨W,⟨m0,w0⟩,turn⟩:=h;refine wpAny_While (codeAny_whileLoop (λn s'=>∃σ' H',Inv X oq σ' H' s'/\W n σ' H') ?_ m0 ⟨σ,H,I,w0⟩);rintro n s1 ⟨Z,H1,I1,w1⟩;refine U2 hp (thn (hc oq s1 Z H1 _ I1 (turn n Z H1 w1)) λb s2 ⟨H2,I2,q2⟩=> ?_);cases b with
 |true=>
  obtain⟨N,hN,q2⟩:=q2;rw [A3 rfl];refine U2 hp (thn (hb oq s2 Z H2 _ I2 q2) λf s3 q3=> ?_);cases f with
  |next=>
   obtain⟨U,H3,I3,n3⟩:=q3;obtain⟨m',hm,w3⟩:=hN U H3 n3;exact⟨m',hm,U,H3,I3,w3⟩
  |cont=>
   obtain⟨U,H3,I3,n3⟩:=q3;obtain⟨m',hm,w3⟩:=hN U H3 n3;exact⟨m',hm,U,H3,I3,w3⟩
  |brk=>exact q3
  |ret v=>exact q3
 |false=>
  rw [A2 ub];exact wpAny_execs_nil ⟨Z,H2,I2,q2⟩
end
structure It where
 go:Nat->Hp->Prop
 yld:Nat->Hp->V->Hp->Prop
 stop:Nat->Hp->Prop
noncomputable def FpOk (X:Cx)(oq:oj (o3×Obj))(H:Hp)(b:o3):Prop:=
 H b=none/\b≠X.env.locals/\b∉X.fs/\(b∈X.ex∨X.s₀.heap.objs.size<=b)/\(∀x c,X.env.cells.lookup x=some c->c≠b)/\∀p∈X.pn++oq,p.1≠b
variable {oq:oj (o3×Obj)}{σ:St}{H':Hp}
theorem Inv.fpOk (I:Inv X oq σ H s)(O:s.heap.objs.size<=b)(hn:H' b=none):FpOk X oq H' b:=by
 refine⟨hn,Uk (Nat.lt_of_lt_of_le I.lt O),I.nofs O,.inr (uL I.sz O),λx c e z=> ?_,λp U z=> ?_⟩
 ·obtain⟨v,q⟩:=I.cell x c e;exact absurd (Nat.lt_of_lt_of_le q.lt (by rwa [z])) (vA _)
 ·exact absurd (Nat.lt_of_lt_of_le (uF (I.pin p U).1) (by rwa [z])) (vA _)
structure Turn (P:o9)(w:og)(K:o0)(tg:Expr)(J:It)(fp:oj o3)(it:o3)(tn:Nat->o8->Prop):Prop where
 mem:it∈fp
 obj:∀i h,tn i h->∀b∈fp,∃o,h.get? b=some o/\∀v,o.data≠ .cell v
 keep:∀i h h',tn i h->(∀b∈fp,∀o,h.get? b=some o->h'.get? b=some o)->tn i h'
 item:∀(X:Cx),X.prog=P->X.w=w->X.K=K->X.calm=true->∀(i:Nat) (oq:oj (o3×Obj)) (s:o7) (σ:St) (H:Hp) (E:o6->o7->Prop),Inv X oq σ H s->(∀b∈fp,FpOk X oq H b)->tn i s.heap->J.go i H->
  wpAny (model P w) X.A (pyNext (.ref it)) (λr s1=>∃u,r=some u/\
   wpAny (model P w) X.A (letOwnedTupleGo tg (.ref it) u) (λ_ s2=>∃x H',Inv X oq σ H' s2/\RelV x u/\J.yld i H x H'/\tn (i+1) s2.heap/\∀b∈fp,H' b=none) E s1) E s
 done:∀(X:Cx),X.prog=P->X.w=w->X.K=K->X.calm=true->∀(i:Nat) (oq:oj (o3×Obj)) (s:o7) (σ:St) (H:Hp) (E:o6->o7->Prop),Inv X oq σ H s->(∀b∈fp,FpOk X oq H b)->tn i s.heap->J.stop i H->
  wpAny (model P w) X.A (pyNext (.ref it)) (λr s1=>r=none/\Inv X oq σ H s1) E s
 self:∀(A:oh) (i:Nat) (s:o7) (Q:o6->o7->Prop) (E:o6->o7->Prop),tn i s.heap->Q (.ref it) s->wpAny (model P w) A (pyIter (.ref it)) Q E s
noncomputable abbrev TI:=St->Hp->(It->Hp->Prop)->Prop
noncomputable def PIE (X:Cx)(oq:oj (o3×Obj))(σ:St)(tg:Expr)(R:It->Hp->Prop)(itv:o6)(s2:o7):Prop:=
 ∃(it:o3) (fp:oj o3) (tn:Nat->o8->Prop) (J:It) (H':Hp),itv= .ref it/\Inv X oq σ H' s2/\Turn X.prog X.w X.K tg J fp it tn/\tn 0 s2.heap/\(∀b∈fp,FpOk X oq H' b)/\R J H'
noncomputable def PI (X:Cx)(tg iter:Expr)(wi:TI):Prop:=
 ∀(oq:oj (o3×Obj)) (s:o7) (σ:St) (H:Hp) (R:It->Hp->Prop),Inv X oq σ H s->wi σ H R->
  wpAny #[X,X] X.A (eval iter X.env) (λv s1=>wpAny #[X,X] X.A (pyIter v) (PIE X oq σ tg R) X.xe s1) X.xe s
theorem go_of {M:Model}{A:oh}{E:o6->o7->Prop}{s:o7}{tg:Expr}{it:o3}{u:o6}{o:Obj}{n:String}{vs:Array o6}{Q:Unit->o7->Prop}(U:s.heap.get? it=some o)(Z:o.cls= .type n)(hd:o.data= .fields vs)
  (hn: ["enumerate","zip","dict_itemiterator","dict_reverseitemiterator","odict_iterator","itertools.zip_longest","itertools.pairwise"].contains n=false) (O:Q Unit.unit s):wpAny M A (letOwnedTupleGo tg (.ref it) u) Q E s:=by
 unfold letOwnedTupleGo;cases tg<;>first
  |exact uB O
  |(cases u<;>first
    |exact uB O
    |(refine A4 (wpAny_load U ?_)
      rw [Z,hd];show wpAny M A (if(["enumerate","zip","dict_itemiterator","dict_reverseitemiterator","odict_iterator","itertools.zip_longest","itertools.pairwise"].contains n&&vs[0]? ==some (rawInt _))=true then _ else _) Q E s
      rw [A2 (by intro h;rw [hn,Bool.false_and] at h;cases h)]
      exact uB O))
noncomputable def Itl (K:o0)(a:o3):It:=
 ⟨λi H=>∃xs x,SqL K H a xs/\xs[i]? =some x,λi H x H'=>H'=H/\∀xs,SqL K H a xs->xs[i]? =some x,λi H=>∃xs,SqL K H a xs/\xs.length<=i⟩
noncomputable def Itt (K:o0)(a:o3):It:=
 ⟨λi H=>∃xs x,SqT K H a xs/\xs[i]? =some x,λi H x H'=>H'=H/\∀xs,SqT K H a xs->xs[i]? =some x,λi H=>∃xs,SqT K H a xs/\xs.length<=i⟩
noncomputable def Itr (lo:Int)(n:Nat):It:=⟨λi _=>i<n,λi H x H'=>H'=H/\x= .int (lo+i),λi _=>n<=i⟩
variable {K:o0}{tg:Expr}
theorem turn_list {P:o9}(a it:o3):Turn P w K tg (Itl K a) [it] it (λi h=>h.IsListIter it a i) where
 mem:=by simp
 obj:=λi h st b O=>by
  have e:b=it:=by simpa using O
  subst e;obtain⟨o,e,c,d⟩:=st;exact⟨o,e,λv z=>by rw [d] at z;cases z⟩
 keep:=λi h h' st k=>st.at λo e=>k it (by simp) o e
 item:=by
  intro X hP hw hK hc i oq s σ H E I Z st hg;subst hP hw hK;obtain⟨xs,x,hq,hx⟩:=hg;obtain⟨its,rv,p,hz⟩:=I.list hq;obtain⟨u,hu,ru⟩:=rv.get hx;obtain⟨f0,f1,f2,f3,f4,f5⟩:=Z it (by simp)
  refine wpAny_pyNext_list_item st p.isList (x:=u) (by simpa using hu) λh' U sb=> ?_
  have I1:Inv X oq σ H {s with heap:=h'}:=I.turned (t':=s.toks) (λb o O e=>(sb.2 b O).trans e) f0 f1 f3 f4 f5
  obtain⟨o,e,c,d⟩:=id U;exact⟨u,1,go_of (s:={s with heap:=h'}) e c d () ⟨x,H,I1,ru,⟨1,λys hy=>by rwa [I.list_inj hy hq]⟩,U,λb O=>(Z b O).1⟩⟩
 done:=by
  intro X hP hw hK hc i oq s σ H E I Z st hg;subst hP hw hK;obtain⟨xs,hq,hx⟩:=hg;obtain⟨its,rv,p,hz⟩:=I.list hq;obtain⟨f0,f1,f2,f3,f4,f5⟩:=Z it (by simp)
  have hl:=rv.length;exact wpAny_pyNext_list_end (I.ok.hd hc) st p.isList (by simp;omega) λh' eb=>⟨1,I.turned (t':=s.toks) (λb o O e=>eb b o O e) f0 f1 f3 f4 f5⟩
 self:=λ_ _ _ _ _ st h=>wpAny_pyIter_listiter st h
theorem Wz {P:o9}(a it:o3):Turn P w K tg (Itt K a) [it] it (λi h=>h.IsTupleIter it a i) where
 mem:=by simp
 obj:=λi h st b O=>by
  have e:b=it:=by simpa using O
  subst e;obtain⟨o,e,c,d⟩:=st;exact⟨o,e,λv z=>by rw [d] at z;cases z⟩
 keep:=λi h h' st k=>st.at λo e=>k it (by simp) o e
 item:=by
  intro X hP hw hK hc i oq s σ H E I Z st hg;subst hP hw hK;obtain⟨xs,x,hq,hx⟩:=hg;obtain⟨its,rv,p,hz⟩:=I.tuple hq;obtain⟨u,hu,ru⟩:=rv.get hx;obtain⟨f0,f1,f2,f3,f4,f5⟩:=Z it (by simp)
  refine wpAny_pyNext_tuple_item st (show s.heap.IsTuple a its.toArray from p) (x:=u) (by simpa using hu) λh' U sb=> ?_
  have I1:Inv X oq σ H {s with heap:=h'}:=I.turned (t':=s.toks) (λb o O e=>(sb.2 b O).trans e) f0 f1 f3 f4 f5
  obtain⟨o,e,c,d⟩:=id U;exact⟨u,1,go_of (s:={s with heap:=h'}) e c d () ⟨x,H,I1,ru,⟨1,λys hy=>by rwa [I.tuple_inj hy hq]⟩,U,λb O=>(Z b O).1⟩⟩
 done:=by
  intro X hP hw hK hc i oq s σ H E I Z st hg;subst hP hw hK;obtain⟨xs,hq,hx⟩:=hg;obtain⟨its,rv,p,hz⟩:=I.tuple hq;obtain⟨f0,f1,f2,f3,f4,f5⟩:=Z it (by simp)
  have hl:=rv.length;exact wpAny_pyNext_tuple_end (I.ok.hd hc) st (show s.heap.IsTuple a its.toArray from p) (by simp;omega) λh' eb=>⟨1,I.turned (t':=s.toks) (λb o O e=>eb b o O e) f0 f1 f3 f4 f5⟩
 self:=λ_ _ _ _ _ st h=>wpAny_pyIter_tupleiter st h
theorem turn_range {P:o9}(it:o3)(lo:Int)(n:Nat):Turn P w K tg (Itr lo n) [it] it (λi h=>IsRangeIter h it (lo+(i:Nat)*1) ((n:Int)-(i:Nat)) 1) where
 mem:=by simp
 obj:=λi h st b O=>by
  have e:b=it:=by simpa using O
  subst e;exact⟨_,st,λv z=>by
   have z':Data.fields _=Data.cell v:=z;cases z'⟩
 keep:=λi h h' st k=>k it (by simp) _ st
 item:=by
  intro X hP hw hK hc i oq s σ H E I Z st hg;subst hP hw hK;obtain⟨f0,f1,f2,f3,f4,f5⟩:=Z it (by simp)
  have W:=Walks.range (prog:=X.prog) (w:=X.w) (I.ok.hd hc) it lo 1 n;refine vb (n:=1) I.tk (W.item i s _ _ hg st λv h' tk hv U kk=> ?_);intro htk;obtain⟨t,rfl⟩:=hv;have I1:Inv X oq σ H {s with heap:=h',toks:=tk}:=I.turned (λb o O e=>kk b o (by simpa using O) e) f0 f1 f3 f4 f5
  refine⟨0,go_of (s:={s with heap:=h',toks:=tk}) (n:="range_iterator") U rfl rfl () ⟨.int (lo+i),H,I1,⟨t,?_⟩,⟨1,1⟩,U,λb O=>(Z b O).1⟩⟩
  rw [Int.mul_one]
 done:=by
  intro X hP hw hK hc i oq s σ H E I Z st hg;subst hP hw hK;obtain⟨f0,f1,f2,f3,f4,f5⟩:=Z it (by simp)
  exact wpAny_pyNext_range_end (I.ok.hd hc) st (by have:n<=i:=hg;omega) λh' eb=>⟨1,I.turned (t':=s.toks) (λb o O e=>eb b o O e) f0 f1 f3 f4 f5⟩
 self:=λ_ _ _ _ _ st h=>wpAny_pyIter_rangeiter st h
section
variable {X:Cx}{tg:Expr}
inductive IiList (K:PySem.W.Frag) (R:(It->Hp->Prop)) (x:V) (H1:Hp):Prop
 |mk (a:_) (_:x= .ref a) (_:(∃xs,SqL K H1 a xs)) (_:R (Itl K a) H1)
noncomputable def iList (K:o0)(tl:TE):TI:=λσ H R=>tl σ H λx H1=>IiList K R x H1
inductive IiTup (K:PySem.W.Frag) (R:(It->Hp->Prop)) (x:V) (H1:Hp):Prop
 |mk (a:_) (_:x= .ref a) (_:(∃xs,SqT K H1 a xs)) (_:R (Itt K a) H1)
noncomputable def iTup (K:o0)(tl:TE):TI:=λσ H R=>tl σ H λx H1=>IiTup K R x H1
theorem pi_list {l:Expr}{tl:TE}(U:PE X l tl):PI X tg l (iList X.K tl):=by
 intro oq s σ H R I h;refine thn (U oq s σ H _ I h) λv s1 ⟨x,H1,O,Z,q1⟩=> ?_;obtain⟨a,e,⟨xs,hq⟩,q⟩:=q1;subst e;cases Z;obtain⟨its,rv,p,hz⟩:=O.list hq;refine UL p.isList ?_;refine⟨s1.heap.objs.size,[s1.heap.objs.size],_,_,H1,1,O.kept (t':=s1.toks) λb o e=>ud _ e,turn_list a _,⟨_,uG _ rfl,1,1⟩,λb hb=> ?_,q⟩;have e:b=s1.heap.objs.size:=by simpa using hb
 subst e;exact O.fpOk (ui _) (O.hok.fresh (ui _))
theorem pi_tup {l:Expr}{tl:TE}(U:PE X l tl):PI X tg l (iTup X.K tl):=by
 intro oq s σ H R I h;refine thn (U oq s σ H _ I h) λv s1 ⟨x,H1,O,Z,q1⟩=> ?_;obtain⟨a,e,⟨xs,hq⟩,q⟩:=q1;subst e;cases Z;obtain⟨its,rv,p,hz⟩:=O.tuple hq;refine wpAny_pyIter_tuple (show s1.heap.IsTuple a its.toArray from p) ?_
 refine⟨s1.heap.objs.size,[s1.heap.objs.size],_,_,H1,1,O.kept (t':=s1.toks) λb o e=>ud _ e,Wz a _,⟨_,uG _ rfl,1,1⟩,λb hb=> ?_,q⟩;have e:b=s1.heap.objs.size:=by simpa using hb
 subst e;exact O.fpOk (ui _) (O.hok.fresh (ui _))
theorem range_it {oq:oj (o3×Obj)}{σ:St}{H:Hp}{s:o7}{R:It->Hp->Prop}{E:o6->o7->Prop}{lo hi:Int}{t u v:Tok}{tk:Nat}(I:Inv X oq σ H s)(h1: -(2^62)<=lo)(h2:lo<2^62)(h3: -(2^62)<=hi)(h4:hi<2^62)
  (q:R (Itr lo (hi-lo).toNat) H) (htk:0<tk:=by ac_rfl):wpAny #[X,X] X.A (pyIter (.ref s.heap.objs.size)) (PIE X oq σ tg R) E {s with heap:=s.heap.push {cls:= .type "range",data:= .fields #[.int lo t,.int hi u,.int 1 v]},toks:=tk}:=by
 refine wpAny_pyIter_range (IsRange.new ..) (small_one h1 h2 h3 h4) ?_;have O:Inv X oq σ H {s with heap:=s.heap.push {cls:= .type "range",data:= .fields #[.int lo t,.int hi u,.int 1 v]},toks:=tk}:=I.kept λb o e=>ud _ e
 refine⟨(s.heap.push {cls:= .type "range",data:= .fields #[.int lo t,.int hi u,.int 1 v]}).objs.size,[(s.heap.push {cls:= .type "range",data:= .fields #[.int lo t,.int hi u,.int 1 v]}).objs.size],_,_,H,1,
  O.kept (t':=tk) λb o e=>ud _ e,turn_range _ lo (hi-lo).toNat,?_,λb U=> ?_,q⟩
 ·have Z:lo+((0:Nat):Int)*1=lo:=by simp
  have e2:(((hi-lo).toNat:Nat):Int)-((0:Nat):Int)=Builtin.Range.rangeSize lo hi 1:=by rw [rangeSize_one];split<;>omega
  show IsRangeIter _ _ (lo+((0:Nat):Int)*1) ((((hi-lo).toNat:Nat):Int)-((0:Nat):Int)) 1;rw [Z,e2];exact uG _ rfl
 ·have e:b=(s.heap.push {cls:= .type "range",data:= .fields #[.int lo t,.int hi u,.int 1 v]}).objs.size:=by simpa using U
  subst e;exact O.fpOk (ui _) (O.hok.fresh (ui _))
inductive IiRng1 (R:(It->Hp->Prop)) (vs:List V) (H1:Hp):Prop
 |mk (j:Int) (_:vs= [.int j]) (_: -(2^62)<=j) (_:j<2^62) (_:R (Itr 0 j.toNat) H1)
noncomputable def iRng1 (ta:TA):TI:=λσ H R=>ta σ H λvs H1=>IiRng1 R vs H1
inductive IiRng2 (R:(It->Hp->Prop)) (vs:List V) (H1:Hp):Prop
 |mk (i j:Int) (_:vs= [.int i,.int j]) (_:(-(2^62)<=i/\i<2^62/\ -(2^62)<=j/\j<2^62)) (_:R (Itr i (j-i).toNat) H1)
noncomputable def iRng2 (ta:TA):TI:=λσ H R=>ta σ H λvs H1=>IiRng2 R vs H1
theorem y7 {a:Expr}{ta:TA}{p pos:Pos}(O:Gl X "range")(hm:X.mg "range"=none)(ha:PA X [a] ta)(U:starEach [a] X.env= [(false,eval a X.env)]):PI X tg (.Call (.Name "range" p) [a] [] pos) (iRng1 ta):=by
 intro oq s σ H R I h;refine Call_ (Z8 I O hm boot_range (vB (thn (ha pos oq s σ H _ I h) λus s1 ⟨vs,H1,Z,r1,q1⟩=> ?_) U rfl));obtain⟨j,e,q1,q2,q⟩:=q1;subst e;cases r1 with
 |cons r rr=>
  cases rr;obtain⟨t,rfl⟩:=r;exact call_range_1 (range_it Z () () q1 q2 (by simpa using q))
theorem pi_range2 {a b:Expr}{ta:TA}{p pos:Pos}(Z:Gl X "range")(hm:X.mg "range"=none)(ha:PA X [a,b] ta)(hs:starEach [a,b] X.env= [(false,eval a X.env),(false,eval b X.env)])(O:starEach [b] X.env= [(false,eval b X.env)]):
  PI X tg (.Call (.Name "range" p) [a,b] [] pos) (iRng2 ta):=by
 intro oq s σ H R I h;refine Call_ (Z8 I Z hm boot_range (vB (thn (ha pos oq s σ H _ I h) λus s1 ⟨vs,H1,I1,r1,q1⟩=> ?_) (by rw [hs,O]) (by rw [O];rfl)))
 obtain⟨i,j,e,⟨q1,q2,q3,q4⟩,q⟩:=q1;subst e;cases r1 with
 |cons r U=>
  cases U with
  |cons r' U=>
   cases U;obtain⟨t,rfl⟩:=r;obtain⟨t',rfl⟩:=r';exact call_range_2 (range_it I1 q1 q2 q3 q4 q)
noncomputable def tFor (wi:TI)(g:TG)(tb:TS):TS:=λD σ H=>wi σ H λJ H1=>∃W:Nat->Nat->St->Hp->Prop,(∃m,W 0 m σ H1)/\∀i m σ H,W i m σ H->
 (J.stop i H/\D.nx σ H)∨(J.go i H/\∃N:St->Hp->Prop,(∀σ' H',N σ' H'->∃m',m'<m/\W (i+1) m' σ' H')/\∀x H',J.yld i H x H'->g x σ H' λσ2 H2=>tb {D with nx:=N,ct:=N,bk:=D.nx} σ2 H2)
noncomputable def pinsAt (fp:oj o3)(h:o8):oj (o3×Obj):=fp.filterMap λb=>(h.get? b).map λo=>(b,o)
variable {fp:oj o3}
theorem JH (O:b∈fp)(e:h.get? b=some o):(b,o)∈pinsAt fp h:=List.mem_filterMap.mpr ⟨b,O,by rw [e];rfl⟩
theorem of_pinsAt {p:o3×Obj}(O:p∈pinsAt fp h):p.1∈fp/\h.get? p.1=some p.2:=by
 obtain⟨b,U,e⟩:=List.mem_filterMap.mp O;cases q:h.get? b with
 |none=>rw [q] at e;cases e
 |some o=>
  rw [q] at e;have e':(b,o)=p:=uI e;subst e';exact⟨U,q⟩
theorem Inv.pinned (I:Inv X oq σ H s)(U:∀b∈fp,FpOk X oq H b)(Z:∀b∈fp,∃o,s.heap.get? b=some o/\∀v,o.data≠ .cell v):Inv X (oq++pinsAt fp s.heap) σ H s:=
 I.pins_of λp hp=>(A7.mp hp).elim (λz=>I.pin p (uK _ z)) λz=>by
  obtain⟨O,e⟩:=of_pinsAt z;obtain⟨f0,f1,f2,_⟩:=U p.1 O;obtain⟨o,e',d⟩:=Z p.1 O;rw [e] at e';cases e';exact⟨e,f0,f1,f2,d⟩
theorem Inv.unpinned {pl:oj (o3×Obj)}(I:Inv X (oq++pl) σ H s):Inv X oq σ H s:=I.pins_of λp O=>I.pin p (uK _ (vE _ O))
theorem jL {O:Expr}{ac:oj Stmt}{wi:TI}{g:TG}{tb:TS}{pos:Pos}(hp:PassesOwn #[X,X] X.A X.env X.xe)(hc:X.calm=true)(hi:PI X tg O wi)(hg:PG X tg g)(U:PSs X ac tb)
  (hs:∀x,foldedSetIterable O X.env x=pure x):PS X (.For tg O ac [] pos) (tFor wi g tb):=by
 intro oq s σ H D I h;refine wpAny_For (thn (hi oq s σ H _ I h) λv s1 h1=>thn h1 λal s2 h2=> ?_) hs;obtain⟨it,fp,tn,J,H2,e,I2,T,ag,f2,W,⟨m0,w0⟩,turn⟩:=h2;subst e;have Z:∀{H':Hp},(∀b∈fp,H' b=none)->∀b∈fp,FpOk X oq H' b:=λhn b U=>⟨hn b U,(f2 b U).2⟩;refine codeAny_forLoop_any (λn s'=>∃i σ' H',Inv X oq σ' H' s'/\tn i s'.heap/\(∀b∈fp,H' b=none)/\W i n σ' H') ?_ m0 ⟨(0),σ,H2,I2,ag,λb U=>(f2 b U).1,w0⟩;rintro n s3 ⟨i,σ3,H3,I3,ae,af,w3⟩;rcases turn i n σ3 H3 w3 with⟨stop,qn⟩|⟨go,N,hN,step⟩
 ·refine U2 hp (thn (T.done X rfl rfl rfl hc i oq s3 σ3 H3 X.xe I3 (Z af) ae stop) λr s4 ⟨hr,I4⟩=> ?_);subst hr;exact wpAny_execs_nil ⟨σ3,H3,I4,qn⟩
 ·refine U2 hp (thn (T.item X rfl rfl rfl hc i oq s3 σ3 H3 X.xe I3 (Z af) ae go) λr s4 ⟨u,hr,h4⟩=> ?_);subst hr;refine U2 hp (thn h4 λ_ s5 ⟨x,H5,I5,r5,y5,ad,ah⟩=> ?_);have ak:=I5.pinned (Z ah) (T.obj _ _ ad);refine U2 hp (thn (hg _ s5 σ3 H5 x u _ ak r5 (step x H5 y5)) λ_ s6 ⟨σ6,H6,I6,q6⟩=> ?_);refine U2 hp (thn (U _ s6 σ6 H6 _ I6 q6) λf s7 q7=> ?_);have aa:∀{σ7:St}{H7:Hp},Inv X (oq++pinsAt fp s5.heap) σ7 H7 s7->N σ7 H7->∃m,m<n/\∃i σ' H',Inv X oq σ' H' s7/\tn i s7.heap/\(∀b∈fp,H' b=none)/\W i m σ' H':=λ{σ7 H7} I7 n7=>by
   obtain⟨m',hm,w7⟩:=hN σ7 H7 n7;refine⟨m',hm,i+1,σ7,H7,I7.unpinned,T.keep _ _ _ ad λb U o e=>(I7.pin (b,o) (uK _ (uK _ (JH U e)))).1,λb U=> ?_,w7⟩;obtain⟨o,e,d⟩:=T.obj _ _ ad b U;exact(I7.pin (b,o) (uK _ (uK _ (JH U e)))).2.1
  cases f with
  |next=>obtain⟨σ7,H7,I7,n7⟩:=q7;exact aa I7 n7
  |cont=>obtain⟨σ7,H7,I7,n7⟩:=q7;exact aa I7 n7
  |brk=>obtain⟨σ7,H7,I7,q7⟩:=q7;exact⟨σ7,H7,I7.unpinned,q7⟩
  |ret v=>obtain⟨x7,σ7,H7,I7,r7,q7⟩:=q7;exact⟨x7,σ7,H7,I7.unpinned,r7,q7⟩
end
theorem for_list {K:o0}{a:o3}{xs:oj V}{g:TG}{tb:TS}{D:Ends}{σ:St}{H:Hp}(O:Nat->St->Hp->Prop)(h0:O 0 σ H)(hl:∀i σ H,i<=xs.length->O i σ H->SqL K H a xs)
  (hs:∀i x σ H,xs[i]? =some x->O i σ H->g x σ H λZ H2=>tb {D with nx:=O (i+1),ct:=O (i+1),bk:=D.nx} Z H2) (hd:∀σ H,O xs.length σ H->D.nx σ H):
  ∃W:Nat->Nat->St->Hp->Prop,(∃m,W 0 m σ H)/\∀i m σ H,W i m σ H->
   ((Itl K a).stop i H/\D.nx σ H)∨((Itl K a).go i H/\∃N:St->Hp->Prop,(∀σ' H',N σ' H'->∃m',m'<m/\W (i+1) m' σ' H')/\∀x H',(Itl K a).yld i H x H'->g x σ H' λZ H2=>tb {D with nx:=N,ct:=N,bk:=D.nx} Z H2):=by
 exists λi m σ H=>m=xs.length-i/\i<=xs.length/\O i σ H,⟨xs.length,by simp,v7 _,h0⟩
 rintro i m σ H ⟨rfl,hi,p⟩;have q:=hl i σ H hi p;by_cases U:i<xs.length
 ·refine .inr ⟨⟨xs,xs[i],q,by simp [U]⟩,O (i+1),λσ' H' p'=>⟨xs.length-(i+1),(),1,U,p'⟩,λx H' y=> ?_⟩
  obtain⟨e,y⟩:=y;subst e;exact hs i x σ _ (y xs q) p
 ·have e:i=xs.length:=by omega
  subst e;exact .inl ⟨⟨xs,q,ui _⟩,hd σ H p⟩
theorem kP {K:o0}{a:o3}{xs:oj V}{g:TG}{tb:TS}{D:Ends}{σ:St}{H:Hp}(O:Nat->St->Hp->Prop)(h0:O 0 σ H)(hl:∀i σ H,i<=xs.length->O i σ H->SqT K H a xs)
  (hs:∀i x σ H,xs[i]? =some x->O i σ H->g x σ H λZ H2=>tb {D with nx:=O (i+1),ct:=O (i+1),bk:=D.nx} Z H2) (hd:∀σ H,O xs.length σ H->D.nx σ H):
  ∃W:Nat->Nat->St->Hp->Prop,(∃m,W 0 m σ H)/\∀i m σ H,W i m σ H->
   ((Itt K a).stop i H/\D.nx σ H)∨((Itt K a).go i H/\∃N:St->Hp->Prop,(∀σ' H',N σ' H'->∃m',m'<m/\W (i+1) m' σ' H')/\∀x H',(Itt K a).yld i H x H'->g x σ H' λZ H2=>tb {D with nx:=N,ct:=N,bk:=D.nx} Z H2):=by
 exists λi m σ H=>m=xs.length-i/\i<=xs.length/\O i σ H,⟨xs.length,by simp,v7 _,h0⟩
 rintro i m σ H ⟨rfl,hi,p⟩;have q:=hl i σ H hi p;by_cases U:i<xs.length
 ·refine .inr ⟨⟨xs,xs[i],q,by simp [U]⟩,O (i+1),λσ' H' p'=>⟨xs.length-(i+1),(),1,U,p'⟩,λx H' y=> ?_⟩
  obtain⟨e,y⟩:=y;subst e;exact hs i x σ _ (y xs q) p
 ·have e:i=xs.length:=by omega
  subst e;exact .inl ⟨⟨xs,q,ui _⟩,hd σ H p⟩
theorem jV {lo:Int}{n:Nat}{g:TG}{tb:TS}{D:Ends}{σ:St}{H:Hp}(O:Nat->St->Hp->Prop)(h0:O 0 σ H)
  (hs:∀i σ H,i<n->O i σ H->g (.int (lo+i)) σ H λZ H2=>tb {D with nx:=O (i+1),ct:=O (i+1),bk:=D.nx} Z H2) (hd:∀σ H,O n σ H->D.nx σ H):
  ∃W:Nat->Nat->St->Hp->Prop,(∃m,W 0 m σ H)/\∀i m σ H,W i m σ H->
   ((Itr lo n).stop i H/\D.nx σ H)∨((Itr lo n).go i H/\∃N:St->Hp->Prop,(∀σ' H',N σ' H'->∃m',m'<m/\W (i+1) m' σ' H')/\∀x H',(Itr lo n).yld i H x H'->g x σ H' λZ H2=>tb {D with nx:=N,ct:=N,bk:=D.nx} Z H2):=by
 exists λi m σ H=>m=n-i/\i<=n/\O i σ H,⟨n,by simp,v7 _,h0⟩
 rintro i m σ H ⟨rfl,hi,p⟩;by_cases U:i<n
 ·refine .inr ⟨U,O (i+1),λσ' H' p'=>⟨n-(i+1),(),1,U,p'⟩,λx H' y=> ?_⟩
  obtain⟨e,y⟩:=y;subst e y;exact hs i σ _ U p
 ·have e:i=n:=by omega
  subst e;exact .inl ⟨ui _,hd σ H p⟩
noncomputable abbrev R2:=V->V->Hp->VK->Prop
noncomputable def OpR (X:Cx)(f:o6->o6->Sem o6)(r:R2):Prop:=
 ∀(oq:oj (o3×Obj)) (s:o7) (σ:St) (H:Hp) (x y:V) (v u:o6) (Q:VK),Inv X oq σ H s->RelV x v->RelV y u->r x y H Q->
  wpAny #[X,X] X.A (f v u) (EP X oq σ Q) X.xe s
noncomputable def UnR (X:Cx)(f:o6->Sem o6)(r:V->Hp->VK->Prop):Prop:=
 ∀(oq:oj (o3×Obj)) (s:o7) (σ:St) (H:Hp) (x:V) (v:o6) (Q:VK),Inv X oq σ H s->RelV x v->r x H Q->
  wpAny #[X,X] X.A (f v) (EP X oq σ Q) X.xe s
noncomputable def Y6 (X:Cx)(f:o6)(r:oj V->Hp->VK->Prop):Prop:=
 ∀(oq:oj (o3×Obj)) (s:o7) (σ:St) (H:Hp) (xs:oj V) (us:oj o6) (Q:VK),Inv X oq σ H s->Vals xs us->r xs H Q->
  wpAny #[X,X] X.A (call f us) (EP X oq σ Q) X.xe s
noncomputable def TruR (X:Cx)(r:V->Hp->(Bool->Hp->Prop)->Prop):Prop:=
 ∀(oq:oj (o3×Obj)) (s:o7) (σ:St) (H:Hp) (x:V) (v:o6) (Q:Bool->Hp->Prop),Inv X oq σ H s->RelV x v->r x H Q->
  wpAny #[X,X] X.A (truthy v) (TP X oq σ Q) X.xe s
noncomputable def tOp (r:R2)(ta tb:TE):TE:=λσ H Q=>ta σ H λx H1=>tb σ H1 λy H2=>r x y H2 Q
noncomputable def tUn (r:V->Hp->VK->Prop)(ta:TE):TE:=λσ H Q=>ta σ H λx H1=>r x H1 Q
inductive rI (C:Int->Int->Prop) (g:Int->Int->V) (x:V) (y:V) (H:Hp) (Q:VK):Prop
 |mk (i:_) (j:_) (_:x= .int i) (_:y= .int j) (_:C i j) (_:Q (g i j) H)
inductive rI0 (g:Int->Int->V) (x:V) (y:V) (H:Hp) (Q:VK):Prop
 |mk (i:_) (j:_) (_:x= .int i) (_:y= .int j) (_:Q (g i j) H)
inductive rU (g:Int->V) (x:V) (H:Hp) (Q:VK):Prop
 |mk (i:_) (_:x= .int i) (_:Q (g i) H)
section
variable {X:Cx}{a b c:Expr}{ta tb tc:TE}{pos:Pos}
theorem binT (ha:PE X a ta)(O:PE X b tb){oq:oj (o3×Obj)}{s:o7}{σ:St}{H:Hp}{R:V->V->Hp->Prop}(I:Inv X oq σ H s)
  (h:ta σ H λx H1=>tb σ H1 λy H2=>R x y H2) {Q:o6->o7->Prop}{f:o6->o6->Sem o6}
  (U:∀v u s2 x y H2,Inv X oq σ H2 s2->RelV x v->RelV y u->R x y H2->wpAny #[X,X] X.A (f v u) Q X.xe s2):
  wpAny #[X,X] X.A (eval a X.env) (λv Z=>wpAny #[X,X] X.A (eval b X.env) (λu s₂=>wpAny #[X,X] X.A (f v u) Q X.xe s₂) X.xe Z) X.xe s:=by
 refine thn (ha oq s σ H _ I h) λv s1 ⟨x,H1,I1,r1,q1⟩=> ?_;refine thn (O oq s1 σ H1 _ I1 q1) λu s2 ⟨y,H2,I2,r2,q2⟩=> ?_;exact U v u s2 x y H2 I2 r1 r2 q2
theorem qS {O:Operator}{r:R2}(U:OpR X (binaryOp O) r)(ha:PE X a ta)(Z:PE X b tb):PE X (.BinOp a O b pos) (tOp r ta tb):=by
 intro oq s σ H Q I h;exact wpAny_BinOp (binT ha Z I h λv u s2 x y H2 I2 rx ry q=>U oq s2 σ H2 x y v u Q I2 rx ry q)
theorem pe_un {O:UnaryOp}{r:V->Hp->VK->Prop}(U:UnR X (unaryOp O) r)(ha:PE X a ta):PE X (.UnaryOp O a pos) (tUn r ta):=by
 intro oq s σ H Q I h;exact UnaryOp_ (thn (ha oq s σ H _ I h) λv s1 ⟨x,H1,Z,r1,q1⟩=>U oq s1 σ H1 x v Q Z r1 q1)
theorem opI {f:o6->o6->Sem o6}{C:Int->Int->Prop}{g:Int->Int->Int}
  (rule:∀(i j:Int) (t u:Tok) (s:o7) (Q:o6->o7->Prop) (E:o6->o7->Prop),C i j->Q (.int (g i j) s.toks) {s with toks:=s.toks+1}->wpAny #[X,X] X.A (f (.int i t) (.int j u)) Q E s):
  OpR X f (rI C λi j=> .int (g i j)):=by
 intro oq s σ H x y v u Q I O U h;obtain⟨i,j,rfl,rfl,Z,q⟩:=h;obtain⟨t,rfl⟩:=O;obtain⟨t',rfl⟩:=U;exact rule i j t t' s _ _ Z ⟨.int (g i j),H,I.tok _,⟨0⟩,q⟩
theorem opI0 {f:o6->o6->Sem o6}{g:Int->Int->Int}
  (rule:∀(i j:Int) (t u:Tok) (s:o7) (Q:o6->o7->Prop) (E:o6->o7->Prop),Q (.int (g i j) s.toks) {s with toks:=s.toks+1}->wpAny #[X,X] X.A (f (.int i t) (.int j u)) Q E s):
  OpR X f (rI0 λi j=> .int (g i j)):=by
 intro oq s σ H x y v u Q I O U h;obtain⟨i,j,rfl,rfl,q⟩:=h;obtain⟨t,rfl⟩:=O;obtain⟨t',rfl⟩:=U;exact rule i j t t' s _ _ ⟨.int (g i j),H,I.tok _,⟨0⟩,q⟩
theorem opB0 {f:o6->o6->Sem o6}{g:Int->Int->Bool}
  (rule:∀(i j:Int) (t u:Tok) (s:o7) (Q:o6->o7->Prop) (E:o6->o7->Prop),Q (.bool (g i j)) s->wpAny #[X,X] X.A (f (.int i t) (.int j u)) Q E s):
  OpR X f (rI0 λi j=> .bl (g i j)):=by
 intro oq s σ H x y v u Q I O U h;obtain⟨i,j,rfl,rfl,q⟩:=h;obtain⟨t,rfl⟩:=O;obtain⟨t',rfl⟩:=U;exact rule i j t t' s _ _ ⟨.bl (g i j),H,I,1,q⟩
noncomputable def CDiv (i j:Int):Prop:=0<j/\j<1073741824
noncomputable def CPow (i j:Int):Prop:=0<=j/\j<=1000000/\i.natAbs<2^64
noncomputable def CMul (i j:Int):Prop:=(-(2^64)<i/\i<2^64)∨(-(2^64)<j/\j<2^64)
variable {i:Int}
theorem CMul.ok {j:Int}(h:CMul i j):IntMulOk i j:=by
 rcases h with⟨h1,h2⟩|⟨h1,h2⟩
 ·exact .of_left (intBits_le_64 h1 h2)
 ·exact .of_right (intBits_le_64 h1 h2)
theorem QL:OpR X (binaryOp .Add) (rI0 λi j=> .int (i+j)):=opI0 λ_ _ _ _ _ _ _ q=>add_int q
theorem op_sub:OpR X (binaryOp .Sub) (rI0 λi j=> .int (i-j)):=opI0 λ_ _ _ _ _ _ _ q=>sub_int q
theorem op_mul:OpR X (binaryOp .Mult) (rI CMul λi j=> .int (i*j)):=opI λ_ _ _ _ _ _ _ O q=>mul_int q O.ok
theorem op_fdiv:OpR X (binaryOp .FloorDiv) (rI CDiv λi j=> .int (i/j)):=opI λi j _ _ _ _ _ O q=>by
 have h1:(0:Int)<j:=O.1;have h2:j<1073741824:=O.2;exact floordiv_int () (by rwa [Int.fdiv_eq_ediv_of_nonneg i ()]) (.inl (PyProof.noPylong_small ()))
theorem Zb:OpR X (binaryOp .Mod) (rI (λ_ j=>0<j) λi j=> .int (i%j)):=opI λi j _ _ _ _ _ O q=>by
 have h1:(0:Int)<j:=O;exact mod_int' () (by rwa [Int.fmod_eq_emod_of_nonneg i ()])
theorem op_pow:OpR X (binaryOp .Pow) (rI CPow λi j=> .int (i^j.toNat)):=opI λ_ _ _ _ _ _ _ O q=>pow_int_small O.1 O.2.1 O.2.2 q
theorem unI {f:o6->Sem o6}{g:Int->Int}
  (rule:∀(i:Int) (t:Tok) (s:o7) (Q:o6->o7->Prop) (E:o6->o7->Prop),Q (.int (g i) s.toks) {s with toks:=s.toks+1}->wpAny #[X,X] X.A (f (.int i t)) Q E s):
  UnR X f (rU λi=> .int (g i)):=by
 intro oq s σ H x v Q I O h;obtain⟨i,rfl,q⟩:=h;obtain⟨t,rfl⟩:=O;exact rule i t s _ _ ⟨.int (g i),H,I.tok _,⟨0⟩,q⟩
theorem zO:UnR X (unaryOp .USub) (rU λi=> .int (-i)):=unI λ_ _ _ _ _ q=>neg_int q
noncomputable def scal:V->V->Bool
 | .non,.non=>true| .non,.int _=>true| .int _,.non=>true| .non,.bl _=>true| .bl _,.non=>true| .non,.str _=>true| .str _,.non=>true
 | .int _,.int _=>true| .bl _,.bl _=>true| .str _,.str _=>true| .byt _,.byt _=>true
 | .int _,.str _=>true| .str _,.int _=>true| .bl _,.str _=>true| .str _,.bl _=>true
 |_,_=>false
noncomputable def rEq:R2:=λx y H Q=>scal x y=true/\Q (.bl (decide (x=y))) H
noncomputable def rNe:R2:=λx y H Q=>scal x y=true/\Q (.bl (!decide (x=y))) H
theorem dec_int {j:Int}:decide (V.int i=V.int j)=(i==j):=by
 rw [vj];simp
theorem dec_bl {i j:Bool}:decide (V.bl i=V.bl j)=(i==j):=by
 rw [vj];simp
theorem dec_str {i j:Str}:decide (V.str i=V.str j)=(i==j):=by
 rw [vj];simp
theorem dec_byt {i j:Array UInt8}:decide (V.byt i=V.byt j)=(i.toList==j.toList):=by
 rw [vj];cases i;cases j;simp
variable {Q:VK}
theorem Qg {k O:Bool}(I:Inv X oq σ H s)(q:Q (.bl k) H)(e:k=O):EP X oq σ Q (.bool O) s:=by
 subst e;exact⟨.bl k,H,I,1,q⟩
theorem Qn:OpR X (compareOp .Eq) rEq:=by
 intro oq s σ H x y v u Q I Z O h;obtain⟨U,q⟩:=h;cases x with
 |non=>
  cases Z;cases y with
  |non=>cases O;exact PySem.EqNone.eq_none_none (Qg I q (by simp))
  |bl j=>cases O;exact PySem.EqNone.eq_none_bool (Qg I q (by simp))
  |int j=>obtain⟨t',rfl⟩:=O;exact PySem.EqNone.eq_none_int (Qg I q (by simp))
  |str j=>obtain⟨t',rfl⟩:=O;exact PySem.EqNone.eq_none_str (Qg I q (by simp))
  |_=>exact absurd (show false=true from U) ub
 |bl i=>
  cases Z;cases y with
  |non=>cases O;exact PySem.EqNone.eq_bool_none (Qg I q (by simp))
  |bl j=>cases O;exact eq_bool (Qg I q dec_bl)
  |str j=>obtain⟨t',rfl⟩:=O;exact PySem.EqMixed.eq_bool_str (Qg I q (by simp))
  |_=>exact absurd (show false=true from U) ub
 |int i=>
  obtain⟨t,rfl⟩:=Z;cases y with
  |non=>cases O;exact PySem.EqNone.eq_int_none (Qg I q (by simp))
  |int j=>obtain⟨t',rfl⟩:=O;exact eq_int (Qg I q dec_int)
  |str j=>obtain⟨t',rfl⟩:=O;exact PySem.EqMixed.eq_int_str (Qg I q (by simp))
  |_=>exact absurd (show false=true from U) ub
 |str i=>
  obtain⟨t,rfl⟩:=Z;cases y with
  |non=>cases O;exact PySem.EqNone.eq_str_none (Qg I q (by simp))
  |bl j=>cases O;exact PySem.EqMixed.eq_str_bool (Qg I q (by simp))
  |int j=>obtain⟨t',rfl⟩:=O;exact PySem.EqMixed.eq_str_int (Qg I q (by simp))
  |str j=>obtain⟨t',rfl⟩:=O;exact eq_str (Qg I q dec_str)
  |_=>exact absurd (show false=true from U) ub
 |byt i=>
  obtain⟨t,rfl⟩:=Z;cases y with
  |byt j=>obtain⟨t',rfl⟩:=O;exact PySem.W.eq_bytes (Qg I q dec_byt)
  |_=>exact absurd (show false=true from U) ub
 |_=>cases y<;>exact absurd (show false=true from U) ub
theorem op_ne:OpR X (compareOp .NotEq) rNe:=by
 intro oq s σ H x y v u Q I Z O h;obtain⟨U,q⟩:=h;cases x with
 |non=>
  cases Z;cases y with
  |non=>cases O;exact PySem.EqNone.ne_none_none (Qg I q (by simp))
  |bl j=>cases O;exact PySem.EqNone.ne_none_bool (Qg I q (by simp))
  |int j=>obtain⟨t',rfl⟩:=O;exact PySem.EqNone.ne_none_int (Qg I q (by simp))
  |str j=>obtain⟨t',rfl⟩:=O;exact PySem.EqNone.ne_none_str (Qg I q (by simp))
  |_=>exact absurd (show false=true from U) ub
 |bl i=>
  cases Z;cases y with
  |non=>cases O;exact PySem.EqNone.ne_bool_none (Qg I q (by simp))
  |bl j=>cases O;exact ne_bool (Qg I q (congrArg not dec_bl))
  |str j=>obtain⟨t',rfl⟩:=O;exact PySem.EqMixed.ne_bool_str (Qg I q (by simp))
  |_=>exact absurd (show false=true from U) ub
 |int i=>
  obtain⟨t,rfl⟩:=Z;cases y with
  |non=>cases O;exact PySem.EqNone.ne_int_none (Qg I q (by simp))
  |int j=>obtain⟨t',rfl⟩:=O;exact ne_int (Qg I q (congrArg not dec_int))
  |str j=>obtain⟨t',rfl⟩:=O;exact PySem.EqMixed.ne_int_str (Qg I q (by simp))
  |_=>exact absurd (show false=true from U) ub
 |str i=>
  obtain⟨t,rfl⟩:=Z;cases y with
  |non=>cases O;exact PySem.EqNone.ne_str_none (Qg I q (by simp))
  |bl j=>cases O;exact PySem.EqMixed.ne_str_bool (Qg I q (by simp))
  |int j=>obtain⟨t',rfl⟩:=O;exact PySem.EqMixed.ne_str_int (Qg I q (by simp))
  |str j=>obtain⟨t',rfl⟩:=O;exact ne_str (Qg I q (congrArg not dec_str))
  |_=>exact absurd (show false=true from U) ub
 |byt i=>
  obtain⟨t,rfl⟩:=Z;cases y with
  |byt j=>obtain⟨t',rfl⟩:=O;exact PySem.W.ne_bytes (Qg I q (congrArg not dec_byt))
  |_=>exact absurd (show false=true from U) ub
 |_=>cases y<;>exact absurd (show false=true from U) ub
theorem op_lt:OpR X (compareOp .Lt) (rI0 λi j=> .bl (decide (i<j))):=opB0 λ_ _ _ _ _ _ _ q=>lt_int q
theorem op_le:OpR X (compareOp .LtE) (rI0 λi j=> .bl (decide (i<=j))):=opB0 λ_ _ _ _ _ _ _ q=>le_int q
theorem op_gt:OpR X (compareOp .Gt) (rI0 λi j=> .bl (decide (j<i))):=opB0 λ_ _ _ _ _ _ _ q=>gt_int q
theorem op_ge:OpR X (compareOp .GtE) (rI0 λi j=> .bl (decide (j<=i))):=opB0 λ_ _ _ _ _ _ _ q=>ge_int q
theorem op_lt_str:OpR X (compareOp .Lt) (λx y H Q=>∃i j,x= .str i/\y= .str j/\Q (.bl (decide (i.cps.toList<j.cps.toList))) H):=by
 intro oq s σ H x y v u Q I O U h;obtain⟨i,j,rfl,rfl,q⟩:=h;obtain⟨t,rfl⟩:=O;obtain⟨t',rfl⟩:=U;exact lt_str (Qg I q rfl)
theorem op_in_str:OpR X (compareOp .In) (λx y H Q=>∃i j,x= .str i/\y= .str j/\Q (.bl (!(Builtin.Str.occurrences j i 0 j.length 1).isEmpty)) H):=by
 intro oq s σ H x y v u Q I O U h;obtain⟨i,j,rfl,rfl,q⟩:=h;obtain⟨t,rfl⟩:=O;obtain⟨t',rfl⟩:=U;exact in_str (Qg I q rfl)
theorem yX:OpR X (compareOp .Is) (λx y H Q=>y= .non/\Q (.bl (decide (x= .non))) H):=by
 intro oq s σ H x y v u Q I O U h;obtain⟨rfl,q⟩:=h;cases U;refine is_none_gen (Qg I q ?_);cases x<;>first
  |(cases O;rfl)
  |(obtain⟨t,rfl⟩:=O;rfl)
theorem ZP:OpR X (compareOp .IsNot) (λx y H Q=>y= .non/\Q (.bl (!decide (x= .non))) H):=by
 intro oq s σ H x y v u Q I O U h;obtain⟨rfl,q⟩:=h;cases U;refine isnot_none_gen (Qg I q ?_);cases x<;>first
  |(cases O;rfl)
  |(obtain⟨t,rfl⟩:=O;rfl)
theorem qy (b:Expr){O:CmpOp}(h:O≠ .In:=by decide)(h2:O≠ .NotIn:=by decide):behindInMarks O b=false:=by
 have U:(O==CmpOp.In)=false:=by cases O<;>first|rfl|exact absurd rfl h
 have Z:(O==CmpOp.NotIn)=false:=by cases O<;>first|rfl|exact absurd rfl h2
 cases b<;>simp [behindInMarks,U,Z]
theorem QZ {O:CmpOp}{r:R2}(U:OpR X (compareOp O) r)(ha:PE X a ta)(Z:PE X b tb)(hm:behindInMarks O b=false):PE X (.Compare a [O] [b] pos) (tOp r ta tb):=by
 intro oq s σ H Q I h;exact wpAny_Compare1 (binT ha Z I h λv u s2 x y H2 I2 rx ry q=>U oq s2 σ H2 x y v u Q I2 rx ry q) hm
inductive ItTest (Q:(Bool->Hp->Prop)) (x:V) (H':Hp):Prop
 |mk (k:_) (_:x= .bl k) (_:Q k H')
noncomputable def tTest (t:TE):TT:=λσ H Q=>t σ H λx H'=>ItTest Q x H'
theorem qr {O:CmpOp}{r:R2}(U:OpR X (compareOp O) r)(ha:PE X a ta)(Z:PE X b tb)(hm:behindInMarks O b=false):PT X (.Compare a [O] [b] pos) (tTest (tOp r ta tb)):=by
 intro oq s σ H Q I h;refine wpAny_isTrue_Compare1 (thn (ha oq s σ H _ I h) λv s1 ⟨x,H1,I1,r1,q1⟩=>thn (Z oq s1 σ H1 _ I1 q1) λu s2 ⟨y,H2,I2,r2,q2⟩=>
  thn (U oq s2 σ H2 x y v u _ I2 r1 r2 q2) λc s3 ⟨z,H3,I3,r3,k,e,q3⟩=> ?_) hm
 subst e;cases r3;exact vv ⟨H3,I3,q3⟩
noncomputable def tChain (r r':R2)(ta tb tc:TE):TE:=λσ H Q=>ta σ H λx H1=>tb σ H1 λy H2=>r x y H2 λz H3=>∃k,z= .bl k/\
 (if k=true then tc σ H3 λw' H4=>r' y w' H4 Q else Q (.bl false) H3)
theorem pt_chain {U O:CmpOp}{r r':R2}(ho:OpR X (compareOp U) r)(Z:OpR X (compareOp O) r')(ha:PE X a ta)(hb:PE X b tb)(hc:PE X c tc)
  (hm:lastMarks [U,O] [b,c]=false):PT X (.Compare a [U,O] [b,c] pos) (tTest (tChain r r' ta tb tc)):=by
 intro oq s σ H Q I h;refine isTrue_chain (thn (ha oq s σ H _ I h) λv s1 ⟨x,H1,I1,r1,q1⟩=>test_link (thn (hb oq s1 σ H1 _ I1 q1) λu s2 ⟨y,H2,I2,r2,q2⟩=>
  thn (ho oq s2 σ H2 x y v u _ I2 r1 r2 q2) λd s3 ⟨z,H3,I3,r3,k,e,q3⟩=> ?_)) hm
 subst e;cases r3;refine vv ?_;cases k with
 |false=>
  obtain⟨k',e',q'⟩:=q3;cases e';exact ite_ff ⟨H3,I3,q'⟩
 |true=>
  refine ite_tt (test_last (thn (hc oq s3 σ H3 _ I3 q3) λw' s4 ⟨z',H4,I4,r4,q4⟩=>thn (Z oq s4 σ H4 y z' u w' _ I4 r2 r4 q4) λd' s5 ⟨z2,H5,I5,r5,k2,e2,q5⟩=> ?_));subst e2;cases r5;exact vv ⟨H5,I5,q5⟩
noncomputable def TruV (K:o0)(x:V)(H:Hp)(k:Bool):Prop:=
 match x with
 | .non=>k=false
 | .bl b=>k=b
 | .int i=>k=(i !=0)
 | .str y=>y.length<=sizeLine/\k=((y.length:Int) !=0)
 | .byt y=>y.size<=sizeLine/\k=((y.size:Int) !=0)
 | .ref p=>(∃xs,SqL K H p xs/\k= !xs.isEmpty)∨(∃xs,SqT K H p xs/\k= !xs.isEmpty)∨∃kvs,H p=some (.dK kvs)/\k= !kvs.isEmpty
 |_=>False
theorem isEmpty_kv {κ:Type}{kvs:oj (κ×V)}{vs:oj (κ×o6)}(r:KV kvs vs):(!vs.isEmpty)= !kvs.isEmpty:=by
 cases r<;>rfl
variable {its:oj o6}
theorem Wh (r:Vals xs its):(!its.toArray.isEmpty)= !xs.isEmpty:=by
 cases r<;>simp
theorem zZ:(sizeLine:Nat)<2^63:=by rw [uE];decide
theorem tru_ok:TruR X (λx H Q=>∃k,TruV X.K x H k/\Q k H):=by
 intro oq s σ H x v Q I U h;obtain⟨k,e,q⟩:=h;have hl:=zZ;have hs:sizeLine=16777216:=uE;cases x with
 |non=>
  cases U;have e':k=false:=e;subst e';exact truthy_none ⟨H,I,q⟩
 |bl b=>
  cases U;have e':k=b:=e;subst e';exact vv ⟨H,I,q⟩
 |int i=>
  obtain⟨t,rfl⟩:=U;have e':k=(i !=0):=e;subst e';exact PySem.P.truthy_int ⟨H,I,q⟩
 |str y=>
  obtain⟨t,rfl⟩:=U;obtain⟨hy,e'⟩:y.length<=sizeLine/\k=((y.length:Int) !=0):=e;subst e';exact PySem.P.truthy_str () ⟨H,I.tok _,q⟩
 |byt y=>
  obtain⟨t,rfl⟩:=U;obtain⟨hy,e'⟩:y.size<=sizeLine/\k=((y.size:Int) !=0):=e;subst e';exact PySem.W.truthy_bytes () ⟨H,I.tok _,q⟩
 |ref p=>
  cases U;have e':(∃xs,SqL X.K H p xs/\k= !xs.isEmpty)∨(∃xs,SqT X.K H p xs/\k= !xs.isEmpty)∨∃kvs,H p=some (.dK kvs)/\k= !kvs.isEmpty:=e;rcases e' with⟨xs,Z,e'⟩|⟨xs,Z,e'⟩|⟨kvs,Z,e'⟩
  ·subst e';obtain⟨its,r,pl,hz⟩:=I.list Z;have O:=r.length;exact wpAny_truthy_list pl.isList (by simp only [uu];omega) ⟨H,I.tok _,by rwa [Wh r]⟩
  ·subst e';obtain⟨its,r,pl,hz⟩:=I.tuple Z;have O:=r.length;exact truthy_tuple pl (by simp only [uu];omega) ⟨H,I.tok _,by rwa [Wh r]⟩
  ·subst e';obtain⟨hz,hS,vs,r,m⟩:kvs.length<=sizeLine/\(p==sysModules)=false/\∃vs,KV kvs vs/\s.heap.DictOf (Qa X.prog X.w) p vs:=I.hok p _ Z;have O:kvs.length=vs.length:=Paired.length r;exact wpAny_truthy_dict hS m () ⟨H,I.tok _,by rwa [isEmpty_kv r]⟩
 |_=>exact(show False from e).elim
theorem pt_truth (ha:PE X a ta)(U:∀O,isTrue a X.env O=(do let v<-O;standAt a.pos;holding [v] (truthy v))):
  PT X a (λσ H Q=>ta σ H λx H'=>∃k,TruV X.K x H' k/\Q k H'):=by
 intro oq s σ H Q I h;exact isTrue_plain (thn (ha oq s σ H _ I h) λv s1 ⟨x,H1,Z,r1,q1⟩=>tru_ok oq s1 σ H1 x v Q Z r1 q1) (U _)
theorem Qr:OpR X (binaryOp .Add) (λx y H Q=>∃i j,x= .str i/\y= .str j/\i.length+j.length<=sizeLine/\Q (.str (i++j)) H):=by
 intro oq s σ H x y v u Q I O U h;obtain⟨i,j,rfl,rfl,Z,q⟩:=h;obtain⟨t,rfl⟩:=O;obtain⟨t',rfl⟩:=U;exact vb (n:=1) I.tk (add_str (λt' tk htk=>⟨.str (i++j),H,I.tok _,⟨0⟩,q⟩) Z)
theorem XA {x:V}(r:Vals [x] us):∃u,us= [u]/\RelV x u:=by
 cases r with
 |cons O U=>cases U;exact⟨0,O⟩
theorem vals2 {x:V}(r:Vals [x,y] us):∃u O,us= [u,O]/\RelV x u/\RelV y O:=by
 cases r with
 |cons U Z=>
  cases Z with
  |cons r3 r4=>cases r4;exact⟨_,0,U,r3⟩
theorem call_abs:Y6 X (.builtin "abs") (λxs H Q=>∃i,xs= [.int i]/\Q (.int (if i<0 then-i else i)) H):=by
 intro oq s σ H xs us Q I r h;obtain⟨i,rfl,q⟩:=h;obtain⟨u,rfl,t,rfl⟩:=XA r;exact vb (n:=1) I.tk (call_abs_int λu tk htk=>⟨.int (if i<0 then-i else i),H,I.tok _,⟨0⟩,q⟩)
theorem call_min2 (U:X.calm=true):Y6 X (.builtin "min") (λxs H Q=>∃i j,xs= [.int i,.int j]/\Q (.int (if j<i then j else i)) H):=by
 intro oq s σ H xs us Q I r h;obtain⟨i,j,rfl,q⟩:=h;obtain⟨u,Z,rfl,⟨t,rfl⟩,⟨t',rfl⟩⟩:=vals2 r;refine vb (n:=1) I.tk (min_two_ints (I.ok.hd U) λh' tk k htk=>⟨_,H,I.kept k,?_,q⟩);by_cases O:j<i
 ·rw [A3 O,A3 O];exact⟨0⟩
 ·rw [A2 O,A2 O];exact⟨0⟩
theorem Jg:Y6 X (.type "str") (λxs H Q=>∃i,xs= [.int i]/\i.natAbs.log2<1920/\Q (.str (toString i)) H):=by
 intro oq s σ H xs us Q I r h;obtain⟨i,rfl,O,q⟩:=h;obtain⟨u,rfl,t,rfl⟩:=XA r;exact PySem.P.str_of_int O ⟨.str _,H,I.tok _,⟨0⟩,q⟩
theorem call_ord:Y6 X (.builtin "ord") (λxs H Q=>∃x,xs= [.str x]/\x.length=1/\Q (.int (x.cps.getD 0 0:Nat)) H):=by
 intro oq s σ H xs us Q I r h;obtain⟨x,rfl,O,q⟩:=h;obtain⟨u,rfl,t,rfl⟩:=XA r;exact ord_of_one O ⟨.int _,H,I.tok _,⟨0⟩,q⟩
noncomputable def LenV (K:o0)(x:V)(H:Hp)(n:Nat):Prop:=
 match x with
 | .str y=>y.length<=sizeLine/\n=y.length
 | .byt y=>y.size<=sizeLine/\n=y.size
 | .ref p=>(∃xs,SqL K H p xs/\n=xs.length)∨∃xs,SqT K H p xs/\n=xs.length
 |_=>False
theorem kI:Y6 X (.builtin "len") (λxs H Q=>∃x n,xs= [x]/\LenV X.K x H n/\Q (.int n) H):=by
 intro oq s σ H xs us Q I r h;obtain⟨x,n,rfl,e,q⟩:=h;obtain⟨u,rfl,U⟩:=XA r;have hl:=zZ;have hs:sizeLine=16777216:=uE;cases x with
 |str y=>
  obtain⟨t,rfl⟩:=U;obtain⟨hy,e'⟩:y.length<=sizeLine/\n=y.length:=e;subst e';exact len_str () ⟨.int _,H,I.tok _,⟨0⟩,q⟩
 |byt y=>
  obtain⟨t,rfl⟩:=U;obtain⟨hy,e'⟩:y.size<=sizeLine/\n=y.size:=e;subst e';exact PySem.W.len_bytes () ⟨.int _,H,I.tok _,⟨0⟩,q⟩
 |ref p=>
  cases U;have e':(∃xs,SqL X.K H p xs/\n=xs.length)∨∃xs,SqT X.K H p xs/\n=xs.length:=e;rcases e' with⟨xs,Z,e'⟩|⟨xs,Z,e'⟩
  ·subst e';obtain⟨its,r',pl,hz⟩:=I.list Z;have O:=r'.length;exact Calls.call_len_list pl.isList (by simp only [uu];omega) ⟨.int xs.length,H,I.tok _,⟨_,by simp only [uu];rw [O]⟩,q⟩
  ·subst e';obtain⟨its,r',pl,hz⟩:=I.tuple Z;have O:=r'.length;exact len_tuple pl (by simp only [uu];omega) ⟨.int xs.length,H,I.tok _,⟨_,by simp only [uu];rw [O]⟩,q⟩
 |_=>exact(show False from e).elim
end
structure ObjM (h:o8)(x dx C:o3)(mA:Str->om o6):Prop where
 obj:h.get? x=some (PySem.W.instObj C dx)
 ns:h.Ns1 dx mA
 ne:dx≠x
variable {dx:o3}
theorem lookIn_ns {mA:Str->om o6}(n:h.Ns1 dx mA):∃od,h.get? dx=some od/\∀name,PySem.W.lookIn name od=some (mA name):=by
 obtain⟨o,es,ep,U,hd,Z,_,hm⟩:=n;refine⟨o,U,λname=> ?_⟩;have e:=hm name;unfold nsFind findBy at e;rw [<-Array.find?_toList] at e;unfold PySem.W.lookIn;rw [hd];dsimp only;split
 ·rename_i y q
  rw [q] at e;exact congrArg some e
 ·rename_i q
  rw [q] at e;have a:es.toList.any (·.refKey)=false:=by
   rw [List.any_eq_false];intro y hy;obtain⟨z,t,O⟩:=Z y (Array.mem_toList_iff.mp hy);simp [DictEntry.refKey,O]
  have a':¬es.toList.any (·.refKey)=true:=by rw [a];exact ub
  rw [A2 a'];exact congrArg some e
variable {C:o3}
theorem ObjM.look {x:o3}{mA:Str->om o6}(I:ObjM h x dx C mA):∃od,PySem.W.InstAt h x (PySem.W.instObj C dx) C (some od)/\∀name,PySem.W.lookIn name od=some (mA name):=
 let⟨od,ho,hl⟩:=lookIn_ns I.ns
 ⟨od,⟨I.obj,1,1,ho⟩,hl⟩
section
variable {prog:o9}{w:og}{A:oh}{E:o6->o7->Prop}{s:o7}{K:o0}{x dx C f:o3}{mA:Str->om o6}{name:Str}{v:o6}
theorem get_map {O:Bool}{Q:o6->o7->Prop}(X:K.In s.heap)(I:ObjM s.heap x dx C mA)(Z:PySem.W.plainGet K C name=true)(hh:PySem.W.hasDictIn K C=true)
  (ha:PySem.W.findIn K (.ref C) name=some none) (hv:mA name=some v) (U:PySem.W.handedIn v=true) (h:Q v {s with toks:=s.toks+1}):
  wpAny #[w,w] A (getAttr (.ref x) name O) Q E s:=by
 obtain⟨od,J,hl⟩:=I.look;exact PySem.W.get_value X J (PySem.W.plainGet_of Z).1 (PySem.W.findObj_own hh ha rfl (by rw [hl,hv])) U h
theorem get_meth {pl:Sem Bool}{Q:o6×oj o6->o7->Prop}(X:K.In s.heap)(I:ObjM s.heap x dx C mA)(O:PySem.W.plainGet K C name=true)
  (U:PySem.W.findIn K (.ref C) name=some (some (.ref f))) (Z:PySem.W.isFn K (.ref f)=true) (hv:mA name=none) (h:Q (.ref f,[.ref x]) s):
  wpAny #[w,w] A (getMethod (.ref x) name pl) Q E s:=by
 obtain⟨od,J,hl⟩:=I.look;exact PySem.W.method_fn X J (PySem.W.plainGet_of O).1 (PySem.W.plainGet_of O).2 U (beq_iff_eq.mp Z) (by show(PySem.W.lookIn name od).map (·.isSome)=some false;rw [hl,hv];rfl) h
theorem set_map {ns:oj Str}{Q:Unit->o7->Prop}(X:K.In s.heap)(I:ObjM s.heap x dx C mA)
  (hs:PySem.W.findIn K (.ref C) "__setattr__"=some (some (.builtin "object.__setattr__"))) (hp:PySem.W.plainOver K C=true) (ht:PySem.W.takerIn K C name=some none) (hh:PySem.W.hasDictIn K C=true)
  (hw:PySem.Within mA ns) (hsz:ns.length<=sizeLine)
  (h:∀h',ObjM h' x dx C (λy=>if y=name then some v else mA y)->Heap.SameBut dx s.heap h'->Q Unit.unit {s with heap:=h',toks:=s.toks+2}):
  wpAny #[w,w] A (setAttr (.ref x) name v) Q E s:=by
 obtain⟨od,J,hl⟩:=I.look;refine PySem.W.set_plain X J hs (PySem.W.osa_open (s:={s with toks:=s.toks+1}) (r:=none) X J hp ht λb=> ?_)
 obtain⟨cd,hc,Z⟩:=PySem.W.any_some hh;have hx:s.heap.get? x=some ⟨.ref C,some dx,.plain,#[]⟩:=I.obj;refine A4 (uB (A4 (A4 (wpAny_loadPart hx (A4 (PySem.W.Looks.here (s:={s with toks:=s.toks+1}) (PySem.W.looks_clsIn X hc) ?_))))))
 rw [Z];refine uB (a:=some dx) (A4 (uB (A4 ?_)));refine wpAny_nsSet1 (s:={s with toks:=s.toks+1}) I.ns λh' O U=> ?_
 obtain⟨oD,ae,af,aa,ac,ad⟩:=O.count (PySem.Within.cons name v hw);refine A4 (wpAny_lookBehind aa (by rw [ac];exact pastItsLine_dict (uL ad (by rw [um];omega))) ?_)
 exact uB (h _ ⟨(U.2 _ (Uu I.ne)).trans I.obj,O,I.ne⟩ U)
theorem make_map {R:Result->o7->Prop}{vs:oj o6}{O:oj (Str×o6)}(X:K.In s.heap)(hm:PySem.W.makesIn K C=true)
  (hi:PySem.W.findIn K (.ref C) "__init__"=some (some (.ref f))) (U:PySem.W.typeIn K (.ref f)=some (.type "function"))
  (h:codeAny #[w,w] (A.under (.builtin "type.__call__" ⟨.ref C::vs,O⟩)) (.call (.ref f) ⟨.ref (s.heap.objs.size+1)::vs,O⟩) (PySem.W.InitBack (s.heap.objs.size+1) R)
   {s with heap:=(s.heap.push PySem.W.emptyDict).push (PySem.W.instObj C s.heap.objs.size)}):
  codeAny #[w,w] A (.call (.ref C) ⟨vs,O⟩) R s:=by
 obtain⟨Z,g,d,t,os⟩:=s;exact PySem.W.make_core (PySem.W.makes_of X hm) (PySem.W.looks_findIn X hi) (λself=>PySem.W.bind_fn X self U) (.inl rfl) h
end
noncomputable def putF (f:Str)(v:V):oj (Str×V)->oj (Str×V)
 | []=> [(f,v)]
 |(g,x)::r=>if g=f then(g,v)::r else(g,x)::putF f v r
theorem qF (f g:Str)(v:V):∀fs:oj (Str×V),(putF f v fs).lookup g=if g=f then some v else fs.lookup g
 | []=>by
  show List.lookup g [(f,v)]=_;by_cases h:g=f
  ·have O:(g==f)=true:=beq_iff_eq.mpr h;simp only [List.lookup,O,A3 h]
  ·have O:(g==f)=false:=beq_eq_false_iff_ne.mpr h;simp only [List.lookup,O,A2 h]
 |(k,x)::r=>by
  have Z:=qF f g v r;rw [show putF f v ((k,x)::r)=(if k=f then(k,v)::r else(k,x)::putF f v r) from rfl]
  by_cases U:k=f
  ·rw [A3 U];by_cases h:g=k
   ·have O:(g==k)=true:=beq_iff_eq.mpr h;simp only [List.lookup,O,A3 (h.trans U)]
   ·have O:(g==k)=false:=beq_eq_false_iff_ne.mpr h;simp only [List.lookup,O,A2 (λe:g=f=>h (e.trans U.symm))]
  ·rw [A2 U];by_cases h:g=k
   ·have O:(g==k)=true:=beq_iff_eq.mpr h;simp only [List.lookup,O,A2 (λe:g=f=>U (h.symm.trans e))]
   ·have O:(g==k)=false:=beq_eq_false_iff_ne.mpr h;simp only [List.lookup,O];exact Z
theorem Z1 (f:Str)(v:V):∀fs:oj (Str×V),f∈(putF f v fs).map (·.1)/\∀g,g∈fs.map (·.1)->g∈(putF f v fs).map (·.1)
 | []=>⟨by simp [putF],λg h=>by simp at h⟩
 |(k,x)::r=>by
  obtain⟨U,Z⟩:=Z1 f v r;rw [show putF f v ((k,x)::r)=(if k=f then(k,v)::r else(k,x)::putF f v r) from rfl]
  by_cases O:k=f
  ·rw [A3 O];subst O;exact⟨by simp,λg h=>by simpa using h⟩
  ·rw [A2 O];refine⟨?_,λg h=> ?_⟩
   ·rw [uh];exact uc _ U
   ·rw [uh] at h⊢;rcases A5.mp h with e|e
    ·exact A5.mpr (.inl e)
    ·exact uc _ (Z g e)
theorem wD (f:Str)(v:V):∀fs:oj (Str×V),(putF f v fs).length<=fs.length+1
 | []=>by simp [putF]
 |(k,x)::r=>by
  have U:=wD f v r;rw [show putF f v ((k,x)::r)=(if k=f then(k,v)::r else(k,x)::putF f v r) from rfl]
  by_cases O:k=f
  ·rw [A3 O,um,um];omega
  ·rw [A2 O,um,um];omega
variable {v:V}
theorem RelO.some_of {o:om o6}(r:RelO (some v) o):∃u,o=some u/\RelV v u:=by
 cases o with
 |none=>exact(show False from r).elim
 |some u=>exact⟨u,1,r⟩
theorem RelO.kf {o:om o6}(r:RelO none o):o=none:=by
 cases o with
 |none=>rfl
 |some u=>exact(show False from r).elim
theorem handed_of {u:o6}(r:RelV v u):PySem.W.handedIn u=true:=by
 cases v with
 |non=>cases(show u=Value.none from r);rfl
 |bl b=>cases(show u=Value.bool b from r);rfl
 |int i=>obtain⟨t,e⟩:=(show∃t,u=Value.int i t from r);cases e;rfl
 |str x=>obtain⟨t,e⟩:=(show∃t,u=Value.str x t from r);cases e;rfl
 |byt b=>obtain⟨t,e⟩:=(show∃t,u=Value.bytes b t from r);cases e;rfl
 |flt b=>obtain⟨t,e⟩:=(show∃t,u=Value.float b t from r);cases e;rfl
 |ref a=>cases(show u=Value.ref a from r);rfl
 |ty n=>cases(show u=Value.type n from r);rfl
section
variable {P:o9}{w:og}{H H':Hp}{h h':o8}{a C dx:o3}{fs fs':oj (Str×V)}
theorem kU (hok:HOk P w H h)(e:H a=some (.ins C dx fs)):∃mA,ObjM h a dx C mA/\(∀f,RelO (fs.lookup f) (mA f))/\PySem.Within mA (fs.map (·.1))/\fs.length<=1000/\H dx=some (.own a):=by
 obtain⟨d,z,ne,ob,mA,n,r,q⟩:=(show yg P w H h a (.ins C dx fs) from hok a _ e)
 exact⟨mA,⟨ob,n,ne⟩,r,q,z,d⟩
end
structure Cls (K:o0)(C:o3):Prop where
 pg:PySem.W.plainGet K C Str.empty=true
 hd:PySem.W.hasDictIn K C=true
 po:PySem.W.plainOver K C=true
 sa:PySem.W.findIn K (.ref C) "__setattr__"=some (some (.builtin "object.__setattr__"))
theorem Cls.get (c:Cls K C)(f:Str):PySem.W.plainGet K C f=true:=c.pg
noncomputable def QH (K:o0)(C:o3)(f:Str):Prop:=PySem.W.findIn K (.ref C) f=some none
theorem QH.taker {f:Str}(n:QH K C f):PySem.W.takerIn K C f=some none:=by
 unfold PySem.W.takerIn;rw [show PySem.W.findIn K (.ref C) f=some none from n]
 rfl
structure Meth (K:o0)(C:o3)(m:Str)(f:o3):Prop where
 at_:PySem.W.findIn K (.ref C) m=some (some (.ref f))
 fn:PySem.W.isFn K (.ref f)=true
 kp:PySem.W.keepIn K (.ref f)=true
section
variable {X:Cx}{oq:oj (o3×Obj)}{σ:St}{H:Hp}{s:o7}{a C dx:o3}{fs:oj (Str×V)}{f:Str}{v:V}{A:oh}{E:o6->o7->Prop}
theorem Wf {b:Bool}{Q:o6->o7->Prop}(I:Inv X oq σ H s)(e:H a=some (.ins C dx fs))(c:Cls X.K C)(n:QH X.K C f)(l:fs.lookup f=some v)
  (h:∀u s',Inv X oq σ H s'->RelV v u->Q u s'):wpAny #[X,X] A (getAttr (.ref a) f b) Q E s:=by
 obtain⟨mA,O,r,_,_,_⟩:=kU I.hok e;obtain⟨u,U,ru⟩:=RelO.some_of (v:=v) (o:=mA f) (by rw [<-l];exact r f)
 exact get_map I.kIn O (c.get f) c.hd n U (handed_of ru) (h u _ (I.tok _) ru)
theorem Wi {m:Str}{g:o3}{pl:Sem Bool}{Q:o6×oj o6->o7->Prop}(I:Inv X oq σ H s)(e:H a=some (.ins C dx fs))(c:Cls X.K C)(k:Meth X.K C m g)(l:fs.lookup m=none)
  (h:Q (.ref g,[.ref a]) s):wpAny #[X,X] A (getMethod (.ref a) m pl) Q E s:=by
 obtain⟨mA,O,r,_,_,_⟩:=kU I.hok e;have hn:mA m=none:=RelO.kf (by rw [<-l];exact r m)
 exact get_meth I.kIn O (c.get m) k.at_ k.fn hn h
theorem Wq {y:V}{u:o6}{Q:Unit->o7->Prop}(I:Inv X oq σ H s)(e:H a=some (.ins C dx fs))(c:Cls X.K C)(n:QH X.K C f)(hl:fs.length<1000)(ry:RelV y u)
  (h:∀s',Inv X oq σ (upd H a (.ins C dx (putF f y fs))) s'->Q Unit.unit s'):wpAny #[X,X] A (setAttr (.ref a) f u) Q E s:=by
 obtain⟨mA,O,r,Z,_,ho⟩:=kU I.hok e;have hz:(fs.map (·.1)).length<=sizeLine:=by rw [ua,uE];omega
 refine set_map I.kIn O c.sa c.po n.taker c.hd Z hz λh' U sb=>h _ ?_;have hd:∃o,h'.get? dx=some o:=let⟨o,_,_,e',_⟩:=U.ns;⟨o,e'⟩;refine I.write (x:=a) (e:=dx) (by rw [e];exact True.intro) (.inr ho) (λb q hb z=>(sb.2 b hb).trans z) hd ?_
 refine⟨by rwa [qh O.ne],?_,O.ne,U.obj,_,U.ns,λg=> ?_,λg hg=> ?_⟩
 ·have:=wD f y fs;omega
 ·show RelO ((putF f y fs).lookup g) (if g=f then some u else mA g)
  rw [qF];by_cases q:g=f
  ·rwa [A3 q,A3 q]
  ·rw [A2 q,A2 q];exact r g
 ·by_cases q:g=f
  ·rw [q];exact(Z1 f y fs).1
  ·refine(Z1 f y fs).2 g (Z g λz=>hg ?_);show(if g=f then some u else mA g)=none
   rw [A2 q];exact z
theorem Inv.made (I:Inv X oq σ H s):Inv X oq σ (upd (upd H s.heap.objs.size (.own (s.heap.objs.size+1))) (s.heap.objs.size+1) (.ins C s.heap.objs.size []))
  {s with heap:=(s.heap.push PySem.W.emptyDict).push (PySem.W.instObj C s.heap.objs.size)}:=by
 have O:(s.heap.push PySem.W.emptyDict).get? s.heap.objs.size=some PySem.W.emptyDict:=uG s.heap rfl;have U:((s.heap.push PySem.W.emptyDict).push (PySem.W.instObj C s.heap.objs.size)).get? (s.heap.objs.size+1)=some (PySem.W.instObj C s.heap.objs.size):=by
  have:=uG (s.heap.push PySem.W.emptyDict) (o:=PySem.W.instObj C s.heap.objs.size) rfl
  rwa [vi] at this
 have Z:(s.heap.push PySem.W.emptyDict).Ns s.heap.objs.size (λ_=>none):=⟨PySem.W.emptyDict,#[],_,O,1,(λe he=>absurd he (by simp)),λ_=>rfl⟩
 have I1:=I.laid (a:=s.heap.objs.size) (o:= .own (s.heap.objs.size+1)) (h':=s.heap.push PySem.W.emptyDict) (t':=s.toks) (λb u q=>ud _ q) (ui _) ⟨_,O⟩;refine I1.laid (a:=s.heap.objs.size+1) (o:= .ins C s.heap.objs.size []) (t':=s.toks) (λb u q=>ud _ q) (Nat.le_of_eq (vi _ _)) ?_;have ne:s.heap.objs.size≠s.heap.objs.size+1:=uP (Nat.lt_succ_self _);refine⟨by rw [qh ne,qg],v7 _,ne,U,λ_=>none,(Heap.Ns1.of_empty Z).at λo q=>ud _ q,λ_=>True.intro,λy hy=>absurd rfl hy⟩
theorem attr_of {prog:o9}{w:og}{env:Env}{e:Expr}{f:Str}{pos:Pos}{s:o7}{Q:o6->o7->Prop}(O:attributeBase e f env (eval e env)=eval e env)
  (h:wpAny #[w,w] A (eval e env) (λo U=>wpAny #[w,w] A (getAttr o f true) Q E U) E s):wpAny #[w,w] A (eval (.Attribute e f pos) env) Q E s:=
 Attribute_any_ h (by rw [arm_eval_Attribute,O])
end
inductive ItFld (K:PySem.W.Frag) (f:Str) (Q:VK) (x:V) (H1:Hp):Prop
 |mk (a:_) (C:_) (dx:_) (fs:_) (v:_) (_:x= .ref a) (_:H1 a=some (.ins C dx fs)) (_:Cls K C) (_:QH K C f) (_:fs.lookup f=some v) (_:Q v H1)
noncomputable def tFld (K:o0)(ta:TE)(f:Str):TE:=λσ H Q=>ta σ H λx H1=>ItFld K f Q x H1
inductive IsFld (K:PySem.W.Frag) (f:Str) (D:Ends) (σ:St) (y:V) (x:V) (H2:Hp):Prop
 |mk (a:_) (C:_) (dx:_) (fs:_) (_:x= .ref a) (_:H2 a=some (.ins C dx fs)) (_:Cls K C) (_:QH K C f) (_:fs.length<1000) (_:D.nx σ (upd H2 a (.ins C dx (putF f y fs))))
noncomputable def sFld (K:o0)(ta tv:TE)(f:Str):TS:=λD σ H=>tv σ H λy H1=>ta σ H1 λx H2=>IsFld K f D σ y x H2
noncomputable def InOp (X:Cx)(op:Operator)(rd:V->V->Hp->VK->Prop):Prop:=
 ∀(oq:oj (o3×Obj)) (s:o7) (σ:St) (H:Hp) (x y:V) (u v:o6) (Q:VK),Inv X oq σ H s->RelV x u->RelV y v->rd x y H Q->wpAny #[X,X] X.A (inplaceOp op u v) (EP X oq σ Q) X.xe s
inductive IsFldAug (K:PySem.W.Frag) (tv:TE) (rd:V->V->Hp->VK->Prop) (f:Str) (D:Ends) (σ:St) (x:V) (H1:Hp):Prop
 |mk (a:_) (C:_) (dx:_) (fs:_) (v:_) (_:x= .ref a) (_:H1 a=some (.ins C dx fs)) (_:Cls K C) (_:QH K C f) (_:fs.lookup f=some v) (_:tv σ H1 λy H2=>rd v y H2 λz H3=>∃dx' fs',H3 a=some (.ins C dx' fs')/\fs'.length<1000/\D.nx σ (upd H3 a (.ins C dx' (putF f z fs'))))
noncomputable def sFldAug (K:o0)(ta tv:TE)(rd:V->V->Hp->VK->Prop)(f:Str):TS:=λD σ H=>ta σ H λx H1=>IsFldAug K tv rd f D σ x H1
section
variable {X:Cx}{o e value:Expr}{f:Str}{pos pos' tpos:Pos}{ta tv:TE}
theorem qL (O:PE X e ta)(U:attributeBase e f X.env (eval e X.env)=eval e X.env):PE X (.Attribute e f pos) (tFld X.K ta f):=by
 intro oq s σ H Q I h;refine attr_of U (thn (O oq s σ H _ I h) λu s1 ⟨x,H1,Z,rx,a,C,dx,fs,v,ex,ea,c,n,l,q⟩=> ?_);subst ex;obtain rfl:u=Value.ref a:=rx;exact Wf Z ea c n l λu' s2 I2 ru=>⟨v,H1,I2,ru,q⟩
theorem Qc (ha:PE X o ta)(O:PE X value tv)(U:swapsWith value (some (.Attribute o f pos')) pos.line X.env=pure false):PS X (.Assign [.Attribute o f pos'] value pos) (sFld X.K ta tv f):=by
 intro oq s σ H D I h;refine plainObj_wpAny_Assign_Attribute (thn (O oq s σ H _ I h) λu s1 ⟨y,H1,Z,ry,q⟩=>thn (ha oq s1 σ H1 _ Z q) λov s2 ⟨x,H2,I2,rx,a,C,dx,fs,ex,ea,c,n,l,q2⟩=> ?_) U;subst ex;obtain rfl:ov=Value.ref a:=rx;exact Wq I2 ea c n l ry λs3 I3=>⟨σ,_,I3,q2⟩
theorem Jc {Z:Operator}{rd:V->V->Hp->VK->Prop}(ha:PE X o ta)(hv:PE X value tv)(O:InOp X Z rd):PS X (.AugAssign (.Attribute o f tpos) Z value pos) (sFldAug X.K ta tv rd f):=by
 intro oq s σ H D I h;refine wpAny_AugAssign_AttributeAny (thn (ha oq s σ H _ I h) λov s1 ⟨x,H1,I1,rx,a,C,dx,fs,v,ex,ea,c,n,l,q⟩=> ?_);subst ex;obtain rfl:ov=Value.ref a:=rx;refine Wf I1 ea c n l λu s2 I2 ru=>thn (hv oq s2 σ H1 _ I2 q) λw3 s3 ⟨y,H2,I3,ry,q3⟩=>thn (O oq s3 σ H2 v y u w3 _ I3 ru ry q3) λw4 s4 ⟨z,H3,I4,rz,dx',fs',U,l',q4⟩=> ?_;exact Wq I4 U c n l' rz λs5 I5=>⟨σ,_,I5,q4⟩
inductive rAdd (x:V) (y:V) (H:Hp) (Q:VK):Prop
 |mk (i:_) (j:_) (_:x= .int i) (_:y= .int j) (_:Q (.int (i+j)) H)
theorem in_add:InOp X .Add rAdd:=by
 rintro oq s σ H x y u v Q I O U ⟨i,j,rfl,rfl,q⟩;obtain⟨t,rfl⟩:=(show∃t,u=Value.int i t from O)
 obtain⟨t',rfl⟩:=(show∃t',v=Value.int j t' from U)
 exact PyProof.Rows.iadd_int ⟨.int (i+j),H,I.tok _,⟨0⟩,q⟩
end
section
variable {X:Cx}{oq:oj (o3×Obj)}{σ:St}{H:Hp}{s:o7}{A:oh}{E:o6->o7->Prop}{Q:o6->o7->Prop}{c:o6}{b:Bool}
inductive TyOf (K:PySem.W.Frag) (H:Hp):V->Value->Prop where
 |non:TyOf K H .non (.type "NoneType")
 |bl (x:Bool):TyOf K H (.bl x) (.type "bool")
 |int (i:Int):TyOf K H (.int i) (.type "int")
 |str (x:Str):TyOf K H (.str x) (.type "str")
 |flt (x:UInt64):TyOf K H (.flt x) (.type "float")
 |lst {a:Addr}{xs:List V} (e:H a=some (.lst xs)):TyOf K H (.ref a) (.type "list")
 |frz {a:Addr}{o:Obj}{xs:List V} (e:H a=some (.frz o (.lst xs))):TyOf K H (.ref a) (.type "list")
 |tup {a:Addr}{xs:List V} (e:H a=some (.tup xs)):TyOf K H (.ref a) (.type "tuple")
 |dK {a:Addr}{kvs:List (Key×V)} (e:H a=some (.dK kvs)):TyOf K H (.ref a) (.type "dict")
 |dT {a:Addr}{kvs:List (List Key×V)} (e:H a=some (.dT kvs)):TyOf K H (.ref a) (.type "dict")
 |ins {a C dx:Addr}{fs:List (Str×V)} (e:H a=some (.ins C dx fs)) (cl:Cls K C) (ha:PySem.W.findIn K (.ref C) "__class__"=some (some (.builtin "object.__class__")))
   (hn:PySem.W.specialIn K (.builtin "object.__class__") "__get__"=some (some (.builtin "getset_descriptor.__get__"))) (htk:PySem.W.takesIn K (.builtin "object.__class__")=some true)
   (hm:PySem.W.mroIn K C (.type "object")=some true):TyOf K H (.ref a) (.ref C)
theorem isinst_ok {x:V}{u t:o6}(I:Inv X oq σ H s)(U:RelV x u)(ty:TyOf X.K H x t)(e:PySem.W.kitOne X.K t c=some b)(h:∀tk,Q (.bool b) {s with toks:=tk}):
  wpAny #[X,X] A (call (.builtin "isinstance") [u,c]) Q E s:=by
 cases ty with
 |non=>cases(show u=Value.none from U);exact vk PySem.W.kitx_none I.kIn True.intro e (λz=>nomatch z) h
 |bl y=>cases(show u=Value.bool y from U);exact vk PySem.W.kitx_bool I.kIn True.intro e (λz=>nomatch z) h
 |int i=>obtain⟨t,q⟩:=(show∃t,u=Value.int i t from U);cases q;exact vk PySem.W.kitx_int I.kIn True.intro e (λz=>nomatch z) h
 |str y=>obtain⟨t,q⟩:=(show∃t,u=Value.str y t from U);cases q;exact vk PySem.W.kitx_str I.kIn True.intro e (λz=>nomatch z) h
 |flt y=>obtain⟨t,q⟩:=(show∃t,u=Value.float y t from U);cases q;exact vk PySem.W.kitx_float I.kIn True.intro e (λz=>nomatch z) h
 | @lst a xs ea=>
  cases(show u=Value.ref a from U)
  obtain⟨_,_,n,_,h1⟩:=(show yg X.prog X.w H s.heap a (.lst xs) from I.hok a _ ea)
  exact vk PySem.W.kitx_list I.kIn ⟨_,h1,1⟩ e (λz=>nomatch z) h
 | @frz a ob xs ea=>
  cases(show u=Value.ref a from U)
  obtain⟨_,_,_,n,_,h1⟩:=(show yg X.prog X.w H s.heap a (.frz ob (.lst xs)) from I.hok a _ ea)
  exact vk PySem.W.kitx_list I.kIn ⟨_,h1,1⟩ e (λz=>nomatch z) h
 | @tup a xs ea=>
  cases(show u=Value.ref a from U)
  obtain⟨_,_,_,p⟩:=(show yg X.prog X.w H s.heap a (.tup xs) from I.hok a _ ea)
  obtain⟨o,h1,h2,_⟩:=p;exact vk PySem.W.kitx_tuple I.kIn ⟨o,h1,h2⟩ e (λz=>nomatch z) h
 | @dK a kvs ea=>
  cases(show u=Value.ref a from U)
  obtain⟨_,_,vs,_,p⟩:=(show yg X.prog X.w H s.heap a (.dK kvs) from I.hok a _ ea)
  obtain⟨o,es,ep,h1,h2,_⟩:=p;exact vk PySem.W.kitx_dict I.kIn ⟨o,h1,h2.1⟩ e (λz=>nomatch z) h
 | @dT a kvs ea=>
  cases(show u=Value.ref a from U)
  obtain⟨_,_,xs,_,o,es,ep,h1,h2,_⟩:=(show yg X.prog X.w H s.heap a (.dT kvs) from I.hok a _ ea)
  exact vk PySem.W.kitx_dict I.kIn ⟨o,h1,h2.1⟩ e (λz=>nomatch z) h
 | @ins a C dx fs ea cl ha hn htk hm=>
  cases(show u=Value.ref a from U)
  obtain⟨mA,O,_⟩:=kU I.hok ea;obtain⟨od,J,_⟩:=O.look;exact vk (PySem.W.kitx_own (cl.get _) cl.hd ha hn htk hm) I.kIn J e (λz=>nomatch z) h
end
structure Room (k:Nat)(A:oh):Prop where
 hd:A.handled=none
 dp:A.depth+3*k+5<recursionLimit
 un:A.units+16*k+200<cLine
variable {j:Nat}
theorem Room.mono {k:Nat}(r:Room k A)(h:j<=k):Room j A:=⟨r.hd,by have:=r.dp;omega,by have:=r.un;omega⟩
theorem Room.deeper {k:Nat}(r:Room (k+1) A)(env:Env):Room k (A.deeper env):=
 ⟨r.hd,by have:=r.dp;show A.depth+1+3*k+5<_;omega,by have:=r.un;show A.units+3+16*k+200<_;omega⟩
theorem make_depth {O:oj (Str×o6)}:(A.under (.builtin "type.__call__" ⟨.ref C::us,O⟩)).depth=A.depth+1:=by
 first|rfl|simp [Around.under,Code.weight,Code.isCreation,Code.isGuard,Code.isCaller,Code.frames,Code.isFrame,guardIds]
theorem make_units {O:oj (Str×o6)}:(A.under (.builtin "type.__call__" ⟨.ref C::us,O⟩)).units=A.units+1:=by
 first|rfl|simp [Around.under,Code.cUnits,Code.frames,Code.isFrame]
theorem Room.make {k:Nat}(r:Room (k+1) A)(C:o3)(us:oj o6)(O:oj (Str×o6)):Room k (A.under (.builtin "type.__call__" ⟨.ref C::us,O⟩)):=
 ⟨r.hd,by have:=r.dp;rw [make_depth];omega,by have:=r.un;rw [make_units];omega⟩
theorem Room.depth {k:Nat}(r:Room k A):A.depth<recursionLimit:=by have:=r.dp;omega
theorem Room.units {k:Nat}(r:Room k A):A.units+64<cLine:=by have:=r.un;omega
noncomputable def tNil:TA:=λ_ H Q=>Q [] H
noncomputable def tCons (ta:TE)(tr:TA):TA:=λσ H Q=>ta σ H λx H1=>tr σ H1 λxs H2=>Q (x::xs) H2
section
variable {X:Cx}{e:Expr}{es:oj Expr}{te:TE}{t:TA}{pos:Pos}
theorem qd:PA X [] tNil:=λ_ _ _ _ H Q I h=>Up ⟨[],H,I,.nil,h⟩
theorem qb (ha:PE X e te)(O:PA X es t)(U:starEach (e::es) X.env=(false,eval e X.env)::starEach es X.env:=by rfl):PA X (e::es) (tCons te t):=by
 intro pos oq s σ H Q I h;rw [U];show wpAny _ _ (spliced ((false,eval e X.env)::backTo pos (starEach es X.env))) _ _ s;refine vW (thn (ha oq s σ H _ I h) λu s1 ⟨x,H1,Z,r1,q1⟩=> ?_);exact thn (O pos oq s1 σ H1 _ Z q1) λus s2 ⟨xs,H2,I2,r2,q2⟩=>⟨x::xs,H2,I2,.cons r1 r2,q2⟩
noncomputable def tTup (t:TA):TE:=λσ H Q=>t σ H λxs H1=>xs.length<=sizeLine/\∀p,H1 p=none->Q (.ref p) (upd H1 p (.tup xs))
noncomputable def tLst (t:TA):TE:=λσ H Q=>t σ H λxs H1=>xs.length<=sizeLine/\∀p,H1 p=none->Q (.ref p) (upd H1 p (.lst xs))
theorem qB {x1}(h:PA X es t):PE X (.Tuple es x1 pos) (tTup t):=by
 intro oq s σ H Q I U;refine wpAny_Tuple_spliced (thn (h pos oq s σ H _ I U) λus s1 ⟨xs,H1,O,r,z,q⟩=>⟨by rwa [<-r.length],?_⟩)
 have Z:H1 s1.heap.objs.size=none:=O.hok.fresh (ui _);refine⟨.ref s1.heap.objs.size,upd H1 s1.heap.objs.size (.tup xs),O.laid (t':=s1.toks) (λb u e=>ud _ e) (ui _) ?_,1,q _ Z⟩;exact⟨z,us,r,⟨_,uG _ rfl,1,0⟩⟩
theorem QW (h:PA X es t):PE X (.List es pos) (tLst t):=by
 intro oq s σ H Q I U;refine wpAny_List_spliced (thn (h pos oq s σ H _ I U) λus s1 ⟨xs,H1,O,r,z,q⟩=>⟨by rwa [<-r.length],?_⟩)
 have Z:H1 s1.heap.objs.size=none:=O.hok.fresh (ui _);refine⟨.ref s1.heap.objs.size,upd H1 s1.heap.objs.size (.lst xs),O.laid (t':=s1.toks) (λb u e=>ud _ e) (ui _) ?_,1,q _ Z⟩;exact⟨z,us,(0),r,uG _ rfl⟩
end
noncomputable abbrev Sp:=oj V->Hp->VK->XK->Prop
noncomputable abbrev CXT:=oj Env->Hp->o7->XK->o6->o7->Prop
structure Env0 (P:o9)(w:og)(K:o0)(mg:Str->om o6)(base:o8)(A:oh)(outer:oj Env)(s:o7)(H:Hp):Prop where
 frames:A.frames=some outer
 mod:Mod K mg base
 bs:∀b o,base.get? b=some o->s.heap.get? b=some o/\H b=none
 bsz:base.objs.size<=s.heap.objs.size
 funs:s.heap.FunFrames base outer
 frf:∀b∈frs outer,H b=none
 hok:HOk P w H s.heap
 bare:AllBare s.gens
noncomputable def CE (outer:oj Env)(P:o9)(w:og)(H:Hp)(s:o7)(Q:VK)(u:o6)(s':o7):Prop:=
 ∃v H',s'.os=s.os/\AllBare s'.gens/\0<s'.toks/\Un (frs outer) [] H H' s.heap s'.heap/\HOk P w H' s'.heap/\RelV v u/\Q v H'
noncomputable def CR (CX:CXT)(outer:oj Env)(P:o9)(w:og)(H:Hp)(s:o7)(Q:VK)(E:XK)(r:Result)(s':o7):Prop:=
 match r with
 | .ok (.ret u)=>CE outer P w H s Q u s'
 | .ok _=>False
 | .error e=>CX outer H s E e s'
structure FnOk (P:o9)(w:og)(K:o0)(mg:Str->om o6)(base:o8)(CX:CXT)(k:Nat)(f:o3)(fd:FuncData)(ps:oj Str)(sp:Sp):Prop where
 len:∀vs H Q E,sp vs H Q E->vs.length=ps.length
 run:∀(A:oh) (outer:oj Env) (s:o7) (H:Hp) (args:Args) (us:oj o6) (vs:oj V) (Q:VK) (E:XK),Room k A->Env0 P w K mg base A outer s H->BindsTo s fd args (ps.zip us)->Vals vs us->sp vs H Q E->(0<s.toks∨∃x r,ps=x::r/\fd.scope.names.lookup x=some .local)->
  codeAny (model P w) A (.call (.ref f) args) (CR CX outer P w H s Q E) s
variable {mg:Str->om o6}
theorem Env0.make {P:o9}{base:o8}{outer:oj Env}(e:Env0 P w K mg base A outer s H)(C:o3)(us:oj o6)(O:oj (Str×o6)):
  Env0 P w K mg base (A.under (.builtin "type.__call__" ⟨.ref C::us,O⟩)) outer s H:=⟨by first|exact e.frames|(simpa [Around.under,Code.envs,Code.isFrame,pushEnvs] using e.frames),e.mod,e.bs,e.bsz,e.funs,e.frf,e.hok,e.bare⟩
section
variable {X:Cx}{oq:oj (o3×Obj)}{σ:St}{H:Hp}{s s':o7}
theorem Inv.env0 (I:Inv X oq σ H s):Env0 X.prog X.w X.K X.mg X.base X.A X.stack s H:=
 ⟨I.ok.frames,I.ok.mod,I.bs,uL I.ok.bsz I.sz,I.stack,I.stkFree,I.hok,I.bare⟩
variable {Q:VK}
theorem Inv.after {u:o6}(I:Inv X oq σ H s)(h:CE X.stack X.prog X.w H s Q u s'):EP X oq σ Q u s':=by
 obtain⟨v,H',os,bare,htk,un,hok,r,q⟩:=h;obtain⟨U,g,d,t,O⟩:=s';obtain rfl:O=s.os:=os;exact⟨v,H',I.call (h':=U) (g':=g) (d':=d) (t':=t) (ch:= []) un hok bare (λb z=>absurd z (by simp)),r,q⟩
end
noncomputable def tCall (sp:Sp)(dvs:oj V)(E:XK)(t:TA):TE:=λσ H Q=>t σ H λvs H1=>sp (vs++dvs) H1 Q E
inductive ItMeth (C:Addr) (m:Str) (sp:Sp) (dvs:List V) (E:XK) (t:TA) (σ:St) (Q:VK) (x:V) (H1:Hp):Prop
 |mk (a:_) (dx:_) (fs:_) (_:x= .ref a) (_:H1 a=some (.ins C dx fs)) (_:fs.lookup m=none) (_:t σ H1 λvs H2=>sp (x::(vs++dvs)) H2 Q E)
noncomputable def tMeth (C:o3)(m:Str)(sp:Sp)(dvs:oj V)(E:XK)(ta:TE)(t:TA):TE:=λσ H Q=>ta σ H λx H1=>ItMeth C m sp dvs E t σ Q x H1
noncomputable def tMake (C:o3)(sp:Sp)(dvs:oj V)(E:XK)(t:TA):TE:=λσ H Q=>t σ H λvs H1=>∀x dx,H1 x=none->H1 dx=none->dx≠x->
 sp (.ref x::(vs++dvs)) (upd (upd H1 dx (.own x)) x (.ins C dx [])) (λv H2=>v= .non/\Q (.ref x) H2) E
noncomputable def XT (K:o0)(fd:FuncData)(ps:oj Str)(ds:oj o6):Prop:=
 ∀(s:o7) (us:oj o6),K.In s.heap->(us++ds).length=ps.length->BindsTo s fd ⟨us,[]⟩ (ps.zip (us++ds))
theorem XT.all {fd:FuncData}{ps:oj Str}(h:∀us:oj o6,us.length=ps.length->bindArgs fd ⟨us,[]⟩=pure (ps.zip us)):XT K fd ps []:=λs us _ O=>by
 rw [vc] at O⊢;exact .of_eq (h us O)
noncomputable def Xa (CX:CXT)(X:Cx)(E:XK):Prop:=∀(oq:oj (o3×Obj)) (σ:St) (H:Hp) (s:o7) (e:o6) (s':o7),Inv X oq σ H s->CX X.stack H s E e s'->X.xe e s'
section
variable {X:Cx}{CX:CXT}{k:Nat}{f C:o3}{fd:FuncData}{ps:oj Str}{sp:Sp}{dvs:oj V}{ds:oj o6}{E:XK}{x m:Str}{p pos apos:Pos}{e o:Expr}{es:oj Expr}{ta:TE}{t:TA}
theorem run_fn {oq:oj (o3×Obj)}{σ:St}{H:Hp}{s:o7}{Q:VK}{us:oj o6}{vs:oj V}(F:FnOk X.prog X.w X.K X.mg X.base CX k f fd ps sp)(Z:Room k X.A)(hb:XT X.K fd ps ds)(hd:Vals dvs ds)(hx:Xa CX X E)
  (I:Inv X oq σ H s) (r:Vals vs us) (h:sp (vs++dvs) H Q E):wpAny #[X,X] X.A (call (.ref f) us) (EP X oq σ Q) X.xe s:=by
 have U:Vals (vs++dvs) (us++ds):=r.append hd;have hl:(us++ds).length=ps.length:=by rw [<-U.length];exact F.len _ _ _ _ h
 refine wpAny_call (codeAny_mono (F.run X.A X.stack s H ⟨us,[]⟩ (us++ds) (vs++dvs) Q E Z I.env0 (hb s us I.kIn hl) U h (.inl I.tk)) λr s' O=> ?_);cases r with
 |error e=>exact hx oq σ H s e s' I O
 |ok fl=>
  cases fl with
  |ret u=>exact I.after O
  |next=>exact False.elim O
  |brk=>exact False.elim O
  |cont=>exact False.elim O
theorem qt (F:FnOk X.prog X.w X.K X.mg X.base CX k f fd ps sp)(hr:Room k X.A)(hg:Gl X x)(hm:X.mg x=some (.ref f))(hk:PySem.W.keepIn X.K (.ref f)=true)(hb:XT X.K fd ps ds)(hd:Vals dvs ds)(hx:Xa CX X E)
  (ha:PA X (e::es) t) (O:(x==("__debug__":Str))=false) (he:starEach (e::es) X.env=(false,eval e X.env)::starEach es X.env) (U:(backTo pos (starEach es X.env)).any (·.1)=false):
  PE X (.Call (.Name x p) (e::es) [] pos) (tCall sp dvs E t):=by
 intro oq s σ H Q I h;refine Ud (ke I hg hm ?_ O);refine UB (h₀:=X.base) I.ok.mod.kin hk (thn (ha pos oq s σ H _ I h) λus s1 ⟨vs,H1,Z,r,q⟩=>⟨Z.kIn,?_⟩) he U;exact run_fn F hr hb hd hx Z r q
theorem Qm {pl:Sem Bool}(he:PE X o ta)(c:Cls X.K C)(hm:Meth X.K C m f)(F:FnOk X.prog X.w X.K X.mg X.base CX k f fd ps sp)(hr:Room k X.A)(hb:XT X.K fd ps ds)(hd:Vals dvs ds)(hx:Xa CX X E)(ha:PA X (e::es) t)
  (O:starEach (e::es) X.env=(false,eval e X.env)::starEach es X.env) (U:(backTo pos (starEach es X.env)).any (·.1)=false)
  (ht:eval (.Call (.Attribute o m apos) (e::es) [] pos) X.env=(do
   let ov<-eval o X.env
   standAt apos.atName
   let(f,first)<-holding [ov] (getMethod ov m pl)
   callWith pos f first (backTo pos (starEach (e::es) X.env)) (backToKw pos (keywordEach [] X.env)))):
  PE X (.Call (.Attribute o m apos) (e::es) [] pos) (tMeth C m sp dvs E ta t):=by
 intro oq s σ H Q I h;refine PySem.W.methodCall_KW (pl:=pl) (thn (he oq s σ H _ I h) λu s1 ⟨x,H1,Z,rx,a,dx,fs,ex,ea,l,q⟩=> ?_) ht;subst ex;obtain rfl:u=Value.ref a:=rx;refine Wi Z ea c hm l ?_;refine UB (first:= [.ref a]) (h₀:=X.base) I.ok.mod.kin hm.kp (thn (ha pos oq s1 σ H1 _ Z q) λus s2 ⟨vs,H2,I2,r,q2⟩=>⟨I2.kIn,?_⟩) O U;exact run_fn (us:= .ref a::us) (vs:= .ref a::vs) F hr hb hd hx I2 (.cons rfl r) q2
theorem yh {pl:Sem Bool}(U:PE X o ta)(c:Cls X.K C)(hm:Meth X.K C m f)(F:FnOk X.prog X.w X.K X.mg X.base CX k f fd ps sp)(Z:Room k X.A)(hb:XT X.K fd ps ds)(hd:Vals dvs ds)(hx:Xa CX X E)
  (ht:eval (.Call (.Attribute o m apos) [] [] pos) X.env=(do
   let ov<-eval o X.env
   standAt apos.atName
   let(f,first)<-holding [ov] (getMethod ov m pl)
   callWith pos f first (backTo pos (starEach [] X.env)) (backToKw pos (keywordEach [] X.env)))):
  PE X (.Call (.Attribute o m apos) [] [] pos) (tMeth C m sp dvs E ta tNil):=by
 intro oq s σ H Q I h;refine PySem.W.methodCall_KW (pl:=pl) (thn (U oq s σ H _ I h) λu s1 ⟨x,H1,O,rx,a,dx,fs,ex,ea,l,q⟩=> ?_) ht;subst ex;obtain rfl:u=Value.ref a:=rx;refine Wi O ea c hm l ?_;exact PySem.W.callWith_K0 (first:= [.ref a]) O.kIn hm.kp (run_fn (us:= [.ref a]) (vs:= [.ref a]) F Z hb hd hx O (.cons rfl .nil) q)
structure Mk (K:o0)(C f:o3):Prop where
 makes:PySem.W.makesIn K C=true
 init:PySem.W.findIn K (.ref C) "__init__"=some (some (.ref f))
 fn:PySem.W.isFn K (.ref f)=true
 kp:PySem.W.keepIn K (.ref C)=true
theorem run_make {oq:oj (o3×Obj)}{σ:St}{H:Hp}{s:o7}{Q:VK}{us:oj o6}{vs:oj V}(M:Mk X.K C f)(F:FnOk X.prog X.w X.K X.mg X.base CX k f fd ps sp)(hr:Room (k+1) X.A)(hb:XT X.K fd ps ds)(hd:Vals dvs ds)
  (hx:Xa CX X E) (I:Inv X oq σ H s) (r:Vals vs us)
  (h:∀x dx,H x=none->H dx=none->dx≠x->sp (.ref x::(vs++dvs)) (upd (upd H dx (.own x)) x (.ins C dx [])) (λv H2=>v= .non/\Q (.ref x) H2) E):
  wpAny #[X,X] X.A (call (.ref C) us) (EP X oq σ Q) X.xe s:=by
 have Z:=h (s.heap.objs.size+1) s.heap.objs.size (I.hok.fresh (Nat.le_succ _)) (I.hok.fresh (ui _)) (uP (Nat.lt_succ_self _));have U:=Inv.made (C:=C) I;have r2:Vals (V.ref (s.heap.objs.size+1)::(vs++dvs)) (Value.ref (s.heap.objs.size+1)::(us++ds)):= .cons rfl (r.append hd);have hl:(Value.ref (s.heap.objs.size+1)::us++ds).length=ps.length:=by
  have e:=r2.length;rw [F.len _ _ _ _ Z] at e;exact e.symm
 refine wpAny_call (make_map (f:=f) I.kIn M.makes M.init (beq_iff_eq.mp M.fn) (codeAny_mono (F.run _ X.stack _ _ ⟨Value.ref (s.heap.objs.size+1)::us,[]⟩ (Value.ref (s.heap.objs.size+1)::(us++ds)) _ _ E (hr.make C us [])
  (U.env0.make C us []) (hb _ (Value.ref (s.heap.objs.size+1)::us) U.kIn hl) r2 Z (.inl U.tk)) λr s' O=> ?_))
 cases r with
 |error e=>exact hx oq σ _ _ e s' U O
 |ok fl=>
  cases fl with
  |ret u=>
   obtain⟨v,H',I3,rv,ev,q3⟩:=U.after O;subst ev;exact⟨rv,⟨V.ref (s.heap.objs.size+1),H',I3,1,q3⟩⟩
  |next=>exact False.elim O
  |brk=>exact False.elim O
  |cont=>exact False.elim O
theorem Z9 (M:Mk X.K C f)(F:FnOk X.prog X.w X.K X.mg X.base CX k f fd ps sp)(hr:Room (k+1) X.A)(hg:Gl X x)(hm:X.mg x=some (.ref C))(hb:XT X.K fd ps ds)(hd:Vals dvs ds)(hx:Xa CX X E)
  (ha:PA X (e::es) t) (O:(x==("__debug__":Str))=false) (he:starEach (e::es) X.env=(false,eval e X.env)::starEach es X.env) (U:(backTo pos (starEach es X.env)).any (·.1)=false):
  PE X (.Call (.Name x p) (e::es) [] pos) (tMake C sp dvs E t):=by
 intro oq s σ H Q I h;refine Ud (ke I hg hm ?_ O);refine UB (h₀:=X.base) I.ok.mod.kin M.kp (thn (ha pos oq s σ H _ I h) λus s1 ⟨vs,H1,Z,r,q⟩=>⟨Z.kIn,?_⟩) he U;exact run_make M F hr hb hd hx Z r q
end
structure qv (N P:oj Str)(sc:Scope):Prop where
 kind:sc.kind= .function
 co:sc.isCoroutine=false
 gen:sc.isGenerator=false
 nd:N.Nodup
 pre:N.take P.length=P
 par:∀x∈P,sc.names.lookup x=some .local∨sc.names.lookup x=some .cell
 nofree:∀y∈sc.names,y.2≠ .free
theorem bindL_out {kindOf:Str->om NameKind}{x:Str}:∀{binds:oj (Str×o6)}{m:Str->om o6},(∀v,(x,v)∉binds)->bindL kindOf binds m x=m x
 | [],_,_=>rfl
 |(n,v)::r,m,h=>by
  unfold bindL;rw [bindL_out λw O=>h w (uc _ O)];split
  ·have:x≠n:=by rintro rfl;exact h v uf
   simp [this]
  ·rfl
theorem bindC_out {kindOf:Str->om NameKind}{x:Str}:∀{binds:oj (Str×o6)}{m:Str->om o6},(∀v,(x,v)∉binds)->bindC kindOf binds m x=m x
 | [],_,_=>rfl
 |(n,v)::r,m,h=>by
  unfold bindC;rw [bindC_out λw O=>h w (uc _ O)];split
  ·rfl
  ·have:x≠n:=by rintro rfl;exact h v uf
   simp [this]
theorem bindL_get {kindOf:Str->om NameKind}{x:Str}{v:o6}:∀{P:oj Str}{vs:oj o6}{i:Nat}{m:Str->om o6},P.Nodup->P[i]? =some x->vs[i]? =some v->kindOf x=some .local->
  bindL kindOf (P.zip vs) m x=some v
 | [],_,_,_,_,h,_,_=>by simp at h
 |_::_,[],_,_,_,_,h,_=>by simp at h
 |p::P,w::vs,0,m,nd,h1,h2,hk=>by
  simp at h1 h2;subst h1;subst h2;show bindL kindOf ((p,w)::P.zip vs) m p=_;unfold bindL;rw [bindL_out λv O=>(List.nodup_cons.mp nd).1 (List.of_mem_zip O).1,A3 hk];simp
 |p::P,w::vs,i+1,m,nd,h1,h2,hk=>by
  show bindL kindOf ((p,w)::P.zip vs) m x=_;unfold bindL;exact bindL_get (i:=i) (List.nodup_cons.mp nd).2 (by simpa using h1) (by simpa using h2) hk
theorem bindC_get {kindOf:Str->om NameKind}{x:Str}{v:o6}:∀{P:oj Str}{vs:oj o6}{i:Nat}{m:Str->om o6},P.Nodup->P[i]? =some x->vs[i]? =some v->kindOf x≠some .local->
  bindC kindOf (P.zip vs) m x=some v
 | [],_,_,_,_,h,_,_=>by simp at h
 |_::_,[],_,_,_,_,h,_=>by simp at h
 |p::P,w::vs,0,m,nd,h1,h2,hk=>by
  simp at h1 h2;subst h1;subst h2;show bindC kindOf ((p,w)::P.zip vs) m p=_;unfold bindC;rw [bindC_out λv O=>(List.nodup_cons.mp nd).1 (List.of_mem_zip O).1,A2 hk];simp
 |p::P,w::vs,i+1,m,nd,h1,h2,hk=>by
  show bindC kindOf ((p,w)::P.zip vs) m x=_;unfold bindC;exact bindC_get (i:=i) (List.nodup_cons.mp nd).2 (by simpa using h1) (by simpa using h2) hk
noncomputable def ki (N:oj Str)(vs:oj V):St:=vs.map some++List.replicate (N.length-vs.length) none
noncomputable def cxOf (CX:CXT)(P:o9)(w:og)(K:o0)(mg:Str->om o6)(base:o8)(N:oj Str)(qual:Str)(scope:Scope)(f:o3)(cd:o6)(A:oh)(outer:oj Env)(s:o7)(H:Hp)(E:XK):Cx where
 prog:=P
 w:=w
 K:=K
 mg:=mg
 base:=base
 A:=A.deeper (envOfC qual scope s.heap.objs.size f cd)
 N:=N
 s₀:=s
 H₀:=H
 env:=envOfC qual scope s.heap.objs.size f cd
 outer:=outer
 stack:=envOfC qual scope s.heap.objs.size f cd::outer
 ex:= []
 calm:=true
 fn:=λ_=>true
 pn:= []
 xe:=λe s'=>wpAny (model P w) (A.deeper (envOfC qual scope s.heap.objs.size f cd)) (leaving (envOfC qual scope s.heap.objs.size f cd) e) (λ_ s''=>CX outer H s E e s'') (λe' s''=>CX outer H s E e' s'') s'
variable {n:Nat}{x:Str}
theorem cell_has {sc:Scope}(h:sc.names.lookup x=some .cell):∃c,(cellsFrom n sc.names []).lookup x=some c:=by
 have q:=PySem.W.cellsFrom_some sc.names n [] (.inl h);exact Option.isSome_iff_exists.mp q
theorem inv_start {CX:CXT}{P:o9}{w:og}{K:o0}{mg:Str->om o6}{base:o8}{N ps:oj Str}{qual:Str}{scope:Scope}{f:o3}{cd:o6}{A:oh}{outer:oj Env}{s s1:o7}{H:Hp}{E:XK}{us:oj o6}{vs:oj V}
  (S:qv N ps scope) (hd:A.handled=none) (O:Env0 P w K mg base A outer s H) (hl:vs.length=ps.length) (r:Vals vs us)
  (x:InCallC s s.heap.objs.size (bindL (envOfC qual scope s.heap.objs.size f cd).kindOf (ps.zip us) λ_=>none) (cellsFrom (s.heap.objs.size+1) scope.names []) (bindC (envOfC qual scope s.heap.objs.size f cd).kindOf (ps.zip us) λ_=>none) s1) (ac:0<s1.toks):
  Inv (cxOf CX P w K mg base N qual scope f cd A outer s H E) [] (ki N vs) H s1:=by
 have ad:ps.length<=N.length:=by have:=congrArg List.length S.pre;rw [vP] at this;omega
 obtain⟨h1,tk,rfl,hk⟩:=x.done;have U:∀b:o3,b∉(cxOf CX P w K mg base N qual scope f cd A outer s H E).ex:=λb z=>absurd (show b∈([]:oj o3) from z) (by simp)
 refine⟨⟨O.mod,S.kind,1,1,ui _,λy z c h1 h2=> ?_,λy Z=> ?_,λy c _ h=> ?_,λ_=>hd,Around.frames_deeper O.frames,.inr ⟨1,1⟩,λb z=>absurd z (U b),O.bs,O.bsz,λb _ _=>U b,λb z=>absurd z (U b),O.funs,O.frf⟩,1,O.bare,Un.kept hk,⟨_,x.toInCall.ns,λi y v h1 h2 h3=> ?_⟩,λy c h=>⟨_,x.cell y c h⟩,O.hok.fresh (ui _),λy c h=> ?_,λp hp=>absurd (show p∈([]:oj (o3×Obj)) from hp) (by simp),O.hok.kept hk,?_,ac⟩
 ·exact name_of_addr x.apart (vI h1) (vI h2)
 ·have Z:scope.names.lookup y=some .cell∨scope.names.lookup y=some .free:=Z;rcases Z with Z|Z
  ·exact cell_has Z
  ·exact absurd rfl (S.nofree _ (vI Z))
 ·exact Uj (x.above y c (vI h))
 ·have hi:i<vs.length:=by
   unfold ki at h2;by_cases hi:i<vs.length
   ·exact hi
   ·rw [Ut (by simpa using hi)] at h2
    rw [List.getElem?_replicate] at h2;split at h2<;>cases h2
  have ha:vs[i]? =some v:=by
   unfold ki at h2;rw [Uv (by simpa using hi),uH] at h2
   cases e:vs[i]? with
   |none=>rw [e] at h2;cases h2
   |some a=>rw [e] at h2;cases h2;rfl
  obtain⟨u,hu,rv⟩:=r.get ha;have hp:ps[i]? =some y:=by
   rwa [<-S.pre,List.getElem?_take_of_lt ()]
  have aa:ps.Nodup:=by rw [<-S.pre];exact S.nd.sublist (List.take_sublist _ _)
  exists u,rv;rcases S.par y (uZ hp) with k|k
  ·exact .inl ⟨k,bindL_get aa hp hu k⟩
  ·obtain⟨c,e⟩:=cell_has (n:=s.heap.objs.size+1) k;refine .inr ⟨.inl k,c,e,?_⟩;have q:=x.cell y c e;rw [bindC_get aa hp hu (by show scope.names.lookup y≠_;rw [k];decide)] at q
   exact q
 ·exact O.hok.fresh (Uj (x.above y c (vI h)))
 ·unfold ki;show _=N.length;rw [uA,ua,List.length_replicate];omega
theorem bindParams1 {M:Model}{A:oh}{E:o6->o7->Prop}{s₀ s:o7}{m Z:Str->om o6}{env:Env}(f:Str×o6->PUnit->Sem (ForInStep PUnit))(hf:∀n v u,f (n,v) u=(do storeName env n v;pure (.yield ⟨⟩)))(O:env.scope.kind= .function)
  (n:Str) (v:o6) (r:oj (Str×o6)) (Q:PUnit->o7->Prop) (x:InCallC s₀ env.locals m env.cells Z s) (hl:env.kindOf n=some .local)
  (aa:∀x∈r,env.kindOf x.1=some .local∨(env.kindOf x.1=some .cell/\(env.cells.lookup x.1).isSome=true))
  (h:∀s',InCallC s₀ env.locals (bindL env.kindOf ((n,v)::r) m) env.cells (bindC env.kindOf ((n,v)::r) Z) s'->0<s'.toks->Q ⟨⟩ s'):wpAny M A (forIn ((n,v)::r) ⟨⟩ f) Q E s:=by
 rw [Ul,hf];refine A4 (A4 (wpAny_storeName_local hl x.toInCall.ns (λh' ac U=>uB ?_) (by rw [O];rfl)))
 have x1:InCallC s₀ env.locals (λy=>if y=n then some v else m y) env.cells Z {s with heap:=h',toks:=s.toks+1}:=by
  refine⟨⟨?_,ac,λb o e=> ?_,x.toInCall.fresh⟩,λk c hc=> ?_,x.apart,x.above⟩
  ·obtain⟨h₁,tk,rfl⟩:=x.toInCall.same;exact⟨h',0⟩
  ·have:=x.toInCall.keep b o e;exact U.extBut b o (uP (Nat.lt_of_lt_of_le (uF e) x.toInCall.fresh)) (x.toInCall.keep b o e)
  ·exact(x.cell k c hc).sameBut U (Uk (x.above k c (mem_of_lookup hc)))
 refine vb (n:=1) (Nat.succ_le_succ (v7 _)) (wpAny_bindParams f hf O r _ _ _ _ x1 aa λs' y h1=>h s' ?_ h1);unfold bindL bindC;rw [A3 hl,A3 hl];exact y
theorem newEnv_tk {M:Model}{A:oh}{E:o6->o7->Prop}{s:o7}{scope:Scope}{globals:o3}{binds:oj (Str×o6)}{qual:Str}{func:om o3}{O:o6}{builtins:o3}{Q:Env->o7->Prop}
  (Z:scope.kind= .function)
  (aa:∀x∈binds,scope.names.lookup x.1=some .local∨(scope.names.lookup x.1=some .cell/\((cellsFrom (s.heap.objs.size+1) scope.names []).lookup x.1).isSome=true))
  (htk:0<s.toks∨∃n v r,binds=(n,v)::r/\scope.names.lookup n=some .local)
  (hq:∀en,en=newEnv scope s.heap.objs.size globals (cellsFrom (s.heap.objs.size+1) scope.names []) qual func O none builtins->
   ∀s',InCallC s en.locals (bindL en.kindOf binds λ_=>none) en.cells (bindC en.kindOf binds λ_=>none) s'->0<s'.toks->Q en s'):
  wpAny M A (newFunctionEnv scope globals [] binds qual func O none builtins) Q E s:=by
 rcases htk with htk|⟨n,v,r,rfl,hl⟩
 ·exact vb (n:=1) htk (wpAny_newFunctionEnv_cells Z aa λenv he s' x h1=>hq env he s' x h1)
 ·simp only [newFunctionEnv,UC,UD,if_false];refine A4 (wpAny_alloc ?_);refine A4 (wpAny_layCells _ (λname kind cells=>by cases ac:kind==NameKind.cell<;>simp [ac]) _ _ _ _ ?_)
  have U:=cellsFrom_ok scope.names (s.heap.push {cls:= .type "frame",data:= .dict #[]}) (s.heap.objs.size+1) [] ⟨λ_ _ hm=>(nomatch hm),List.Pairwise.nil⟩ (by rw [vi];exact ui _);rw [vi] at U;rw [show({s with heap:=s.heap.push {cls:= .type "frame",data:= .dict #[]}}:o7).heap.objs.size=s.heap.objs.size+1 from vi ..]
  exact A4 (bindParams1 (s₀:=s) (env:=newEnv scope s.heap.objs.size globals (cellsFrom (s.heap.objs.size+1) scope.names []) qual func O none builtins)
   _ (λ_ _ _=>rfl) Z n v r _
   ⟨⟨⟨_,_,by rfl⟩,(Heap.Ns.new s.heap (.type "frame")).keeps (pushCells_keeps _ _),λb o e=>pushCells_keeps _ _ b o (ud _ e),ui _⟩,
    λm c hc=>(U.empty m c (mem_of_lookup hc)).1,U.apart,λn c hm=>(U.empty n c hm).2⟩
   hl (λy hy=>aa y (uc _ hy)) λs' x h1=>uB (hq _ rfl s' x h1))
theorem fn_of {CX:CXT}{P:o9}{w:og}{K:o0}{mg:Str->om o6}{base:o8}{k:Nat}{f:o3}{name qual:Str}{O:Arguments}{U:oj Stmt}{scope:Scope}{dV kV doc pm cdv ct oc:o6}{an od:om o3}
  {osl:Array (om o6)}{N ps:oj Str}{sp:Sp} (lk:K.lookup f=some ⟨oc,od,.func (PySem.W.fnOf name qual O U scope dV kV doc pm an cdv ct),osl⟩) (ae:PySem.W.codeIn K cdv qual=true) (S:qv N ps scope)
  (len:∀vs H Q E,sp vs H Q E->vs.length=ps.length)
  (Z:∀(A:oh) (outer:oj Env) (s:o7) (H:Hp) (vs:oj V) (Q:VK) (E:XK),Room k (A.deeper (envOfC qual scope s.heap.objs.size f cdv))->sp vs H Q E->
   ∃t,PSs (cxOf CX P w K mg base N qual scope f cdv A outer s H E) U t/\t {nx:=λ_ H'=>Q .non H',rt:=Q} (ki N vs) H):
  FnOk P w K mg base CX (k+1) f (PySem.W.fnOf name qual O U scope dV kV doc pm an cdv ct) ps sp:=by
 refine⟨len,λA outer s H args us vs Q E hr e0 hb r ac htk=> ?_⟩;have hl:=len _ _ _ _ ac;have KX:K.In s.heap:=e0.mod.kin.keeps λb o e=>(e0.bs b o e).1;have af:s.heap.NoLimit:=e0.mod.nolimit.keeps λb o e=>(e0.bs b o e).1;have aa:∀y∈ps.zip us,scope.names.lookup y.1=some .local∨(scope.names.lookup y.1=some .cell/\((cellsFrom (s.heap.objs.size+1) scope.names []).lookup y.1).isSome=true):=λ⟨n,v⟩ hy=>by
  rcases S.par n (List.of_mem_zip hy).1 with q|q
  ·exact .inl q
  ·exact .inr ⟨q,PySem.W.cellsFrom_some _ _ _ (.inl q)⟩
 have ad:0<s.toks∨∃n v r,ps.zip us=(n,v)::r/\scope.names.lookup n=some .local:=by
  rcases htk with h|⟨y,q,e,hy⟩
  ·exact .inl h
  ·have:us.length=ps.length:=by rwa [<-r.length]
   subst e
   match us,this with
   |u::us',_=>exact .inr ⟨y,u,q.zip us',1,hy⟩
 refine codeAny_call_function hr.depth (KX _ _ lk) rfl S.co S.gen rfl (PySem.W.codeRec_of KX ae) (hb _ _ _ _ ?_);refine newEnv_tk S.kind aa ad λenv he s1 x ag=> ?_;subst he;refine⟨af.keeps x.toInCall.keep,codeAny_func ?_⟩;obtain⟨t,ht,hq⟩:=Z A outer s H vs Q E (hr.deeper _) ac;have I:Inv (cxOf CX P w K mg base N qual scope f cdv A outer s H E) [] (ki N vs) H s1:=inv_start S hr.hd e0 hl r x ag;refine vM (ht [] s1 (ki N vs) H _ I hq) (λfl s' hs=> ?_) λe s' hs=>hs;have fin:∀{σ':St}{H':Hp}{v:V}{u:o6},Inv (cxOf CX P w K mg base N qual scope f cdv A outer s H E) [] σ' H' s'->RelV v u->Q v H'->CE outer P w H s Q u s':=
  λ{σ' H' v u} J rv q=>⟨v,H',J.os,J.bare,J.tk,J.base,J.hok,rv,q⟩
 cases fl with
 |ret u=>
  obtain⟨v,σ',H',J,rv,q⟩:=hs;exact fin J rv q
 |next=>
  obtain⟨σ',H',J,q⟩:=hs;exact fin (v:=V.non) (u:=Value.none) J rfl q
 |brk=>
  obtain⟨_,_,_,q⟩:=hs;exact False.elim q
 |cont=>
  obtain⟨_,_,_,q⟩:=hs;exact False.elim q
section
variable {X:Cx}{x:Str}{p pos:Pos}{e:Expr}{es:oj Expr}{t:TA}{id T:String}{r:oj V->Hp->VK->Prop}
noncomputable def tCB (r:oj V->Hp->VK->Prop)(t:TA):TE:=λσ H Q=>t σ H λvs H1=>r vs H1 Q
theorem qz (Z:Y6 X (.builtin id) r)(hg:Gl X x)(hm:X.mg x=none)(hv:bootBuiltins x=some (.builtin id))(ha:PA X (e::es) t)(hn:x≠"__name__")(O:(x==("__debug__":Str))=false)
  (he:starEach (e::es) X.env=(false,eval e X.env)::starEach es X.env) (U:(backTo pos (starEach es X.env)).any (·.1)=false):PE X (.Call (.Name x p) (e::es) [] pos) (tCB r t):=by
 intro oq s σ H Q I h;refine Ud (Z8 I hg hm hv ?_ hn O);exact PyProof.Rows.callWith_builtin1 (thn (ha pos oq s σ H _ I h) λus s1 ⟨vs,H1,I1,r1,q1⟩=>Z oq s1 σ H1 vs us Q I1 r1 q1) he U
theorem qW (Z:Y6 X (.type T) r)(hg:Gl X x)(hm:X.mg x=none)(hv:bootBuiltins x=some (.type T))(ha:PA X (e::es) t)(hn:x≠"__name__")(O:(x==("__debug__":Str))=false)
  (he:starEach (e::es) X.env=(false,eval e X.env)::starEach es X.env) (U:(backTo pos (starEach es X.env)).any (·.1)=false):PE X (.Call (.Name x p) (e::es) [] pos) (tCB r t):=by
 intro oq s σ H Q I h;refine Ud (Z8 I hg hm hv ?_ hn O);exact vB (thn (ha pos oq s σ H _ I h) λus s1 ⟨vs,H1,I1,r1,q1⟩=>Z oq s1 σ H1 vs us Q I1 r1 q1) he U
end
end L2
namespace HT
open PySem PyProof.Rows
section
variable {prog:o9}{w:og}{A:oh}{E:o6->o7->Prop}{s:o7}
theorem cat_tup {t b:o3}{vs ws:oj o6}{Q:o6->o7->Prop}(ht:IsTup s.heap t vs.toArray)(hb:IsTup s.heap b ws.toArray)(hv:vs≠ [])
  (h1:ws= []->Q (.ref t) s) (h2:ws≠ []->Q (.ref s.heap.objs.size) {s with heap:=s.heap.push {cls:= .type "tuple",data:= .seq (vs++ws).toArray}})
  (hsz:vs.length+ws.length<=sizeLine):wpAny #[w,w] A (binaryOp .Add (.ref t) (.ref b)) Q E s:=by
 obtain⟨⟨cls,dd,data,sl⟩,ho,hc,n,hd⟩:=id ht;obtain⟨⟨ae,U,ad,Z⟩,O,aa,n2,ac⟩:=id hb;simp only at hc hd aa ac;subst hc hd aa ac;have e:vs.toArray++ws.toArray=(vs++ws).toArray:=by simp
 by_cases hw:ws= []
 ·exact concat_meets ⟨_,ho,1⟩ ⟨_,O,1⟩ noFill_tuple_add seq_tuple_add PySem.F.slot_tuple_add UE (Ux _ _)
   (tuple_addW1 t b vs.toArray ws.toArray n n2 dd U sl Z (by simpa using hv) (by simp [hw])) ⟨ho,O,h1 hw⟩
 ·refine concat_meets ⟨_,ho,1⟩ ⟨_,O,1⟩ noFill_tuple_add seq_tuple_add PySem.F.slot_tuple_add UE (Ux _ _)
   (tuple_addW2 t b vs.toArray ws.toArray n n2 dd U sl Z (by simpa using hv) (by simpa using hw) (by rwa [uu,uu])) ⟨ho,O,?_⟩
  rw [e];exact h2 hw
noncomputable def sIx (n d:Nat):om Int->Nat
 |none=>d
 |some v=>if v<0 then(v+(n:Int)).toNat else min v.toNat n
theorem sIx_none (n d:Nat):sIx n d none=d:=rfl
theorem sIx_nat (n d k:Nat):sIx n d (some (k:Int))=min k n:=by
 show(if(k:Int)<0 then((k:Int)+(n:Int)).toNat else min (k:Int).toNat n)=min k n
 rw [A2 (),Int.toNat_natCast]
theorem sIx_le (n d:Nat)(hd:d<=n)(o:om Int):sIx n d o<=n:=by
 cases o with
 |none=>exact hd
 |some v=>
  show(if v<0 then(v+(n:Int)).toNat else min v.toNat n)<=n
  by_cases O:v<0
  ·rw [A3 O];omega
  ·rw [A2 O];exact Nat.min_le_right _ _
theorem clip_eq (v:Int)(n d:Nat):(if v<0 then max (v+(n:Int)) 0 else min v (n:Int))=((sIx n d (some v):Nat):Int):=by
 show(if v<0 then max (v+(n:Int)) 0 else min v (n:Int))=(((if v<0 then(v+(n:Int)).toNat else min v.toNat n):Nat):Int)
 by_cases O:v<0
 ·simp only [A3 O];omega
 ·simp only [A2 O];omega
theorem adjust_gen (lo hi:om Int)(n:Nat):Builtin.Slice.sliceAdjust lo hi 1 (n:Int)=(((sIx n 0 lo:Nat):Int),((sIx n n hi:Nat):Int)):=by
 have h1:¬((1:Int)<0):=by omega
 unfold Builtin.Slice.sliceAdjust;simp only [h1,if_false];refine Prod.ext ?_ ?_
 ·cases lo with
  |none=>rfl
  |some v=>exact clip_eq v n 0
 ·cases hi with
  |none=>rfl
  |some v=>exact clip_eq v n n
theorem places_gen (i j:Nat):Builtin.Slice.slicePlaces (i:Int) (j:Int) 1=j-i:=by
 unfold Builtin.Slice.slicePlaces;have h1:(1:Int)>0:=by omega
 simp only [h1,if_true,Int.ediv_one];split<;>omega
theorem WH {v:o6}{o:om Int}{Q:om Int->o7->Prop}(p:IsPart v o)(h:Q o s):wpAny #[w,w] A (Builtin.Slice.slicePartIndex v) Q E s:=by
 cases p with
 |none=>exact slicePart_none h
 |int i t=>exact slicePart_int h
theorem jK {sl:o3}{Z vu:o6}{lo hi:om Int}{n:Nat}{Q:Int×Int×Nat->o7->Prop}(hs:s.heap.IsSliceOf sl Z vu .none)(pl:IsPart Z lo)(pu:IsPart vu hi)
  (h:Q (((sIx n 0 lo:Nat):Int),1,sIx n n hi-sIx n 0 lo) s):wpAny #[w,w] A (Builtin.Slice.sliceApplied (.ref sl) (pure (n:Int))) Q E s:=by
 obtain⟨os,O,aa,U⟩:=id hs;unfold Builtin.Slice.sliceApplied Builtin.Slice.sliceFields;refine A4 (A4 (vC O U (x:=Z) rfl (A4 (vC O U (x:=vu) rfl (A4 (vC O U (x:= .none) rfl (uB ?_)))))));refine A4 (slicePart_none ?_);show wpAny _ _ (if((1:Int)==0)=true then _ else _) _ _ s
 rw [A2 ()]
 refine A4 (WH pl (A4 (WH pu (A4 (uB ?_)))));show wpAny _ _ (match Builtin.Slice.sliceAdjust lo hi 1 (n:Int) with|(lo,hi)=>pure (lo,(1:Int),Builtin.Slice.slicePlaces lo hi 1)) _ _ s
 rw [adjust_gen lo hi n];show wpAny _ _ (pure (((sIx n 0 lo:Nat):Int),(1:Int),Builtin.Slice.slicePlaces ((sIx n 0 lo:Nat):Int) ((sIx n n hi:Nat):Int) 1)) _ _ s;rw [places_gen];exact uB h
theorem pick_gen (xs:Array o6)(i k:Nat):((List.range k).filterMap λ(m:Nat)=>xs[((i:Int)+(m:Int)*1).toNat]?).toArray=((xs.toList.drop i).take k).toArray:=by
 have e:(λ(m:Nat)=>xs[((i:Int)+(m:Int)*1).toNat]?)=λm=>xs[i+m]? :=by
  funext m
  have:((i:Int)+(m:Int)*1).toNat=i+m:=by omega
  rw [this]
 rw [e];have:=pick_run xs i k;rw [List.filterMap_map] at this;have O:((λx=>xs[x]?)∘λx=>i+x)=λm=>xs[i+m]? :=rfl;rw [O] at this;rw [this]
theorem getItem_tuple_cut {t sl:o3}{items:Array o6}{vl vu:o6}{lo hi:om Int}{Q:o6->o7->Prop}(U:IsTup s.heap t items)(hs:s.heap.IsSliceOf sl vl vu .none)(pl:IsPart vl lo)(pu:IsPart vu hi)
  (hw:¬(sIx items.size 0 lo=0/\sIx items.size items.size hi=items.size))
  (h:Q (.ref s.heap.objs.size) {s with heap:=s.heap.push {cls:= .type "tuple",data:= .seq ((items.toList.drop (sIx items.size 0 lo)).take (sIx items.size items.size hi-sIx items.size 0 lo)).toArray}})
  (hsz:items.size<=sizeLine):wpAny #[w,w] A (getItem (.ref t) (.ref sl)) Q E s:=by
 have O:sizeOk (.seq ((items.toList.drop (sIx items.size 0 lo)).take (sIx items.size items.size hi-sIx items.size 0 lo)).toArray):=by
  show((items.toList.drop (sIx items.size 0 lo)).take (sIx items.size items.size hi-sIx items.size 0 lo)).toArray.size<=sizeLine;rw [uu,vP,vn,vh];omega
 have hj:sIx items.size items.size hi<=items.size:=sIx_le _ _ (ui _) hi;obtain⟨os,Z,aa,ae⟩:=id hs;have ac:s.TypeIs (.ref sl) "slice":=⟨os,Z,aa⟩;unfold getItem
 try with_reducible refine wpAny_holding ?_
 first|refine A4 (uB ?_)|skip
 refine A4 (wpAny_sequenceKey U.typeIs () ?_)
 refine A4 (vD (name:=Str.ofString "__getitem__") U.typeIs vJ
  (vV vJ U.typeIs entry_tuple_getitem ?_ (args_tuple_getitem _ _)))
 show wpAny _ _ (Builtin.Tuple.tupleItemsOf (.ref t)>>=_) _ _ s;refine A4 (tupleItemsOf_ U ?_);refine A4 (wpAny_typeOf ac ?_);rw [A3 ()]
 refine A4 (jK hs pl pu ?_);have ad:¬((((sIx items.size 0 lo:Nat):Int)==0&&(1:Int)==1&&(sIx items.size items.size hi-sIx items.size 0 lo)==items.size)=true):=by
  intro q;rw [uz,uz] at q;have q1:((sIx items.size 0 lo:Nat):Int)=0:=eq_of_beq q.1.1;have q2:sIx items.size items.size hi-sIx items.size 0 lo=items.size:=eq_of_beq q.2;exact hw ⟨(),()⟩
 show wpAny _ _ (if(((sIx items.size 0 lo:Nat):Int)==0&&(1:Int)==1&&(sIx items.size items.size hi-sIx items.size 0 lo)==items.size)=true then _ else _) _ _ s
 rw [A2 ad,pick_gen]
 first
  |exact A4 (m:=Builtin.Tuple.tupleExact _) (vw (uB ⟨0,uB h⟩) O)
  |exact A4 (m:=Builtin.Tuple.tupleExact _) (vw (A4 (uB (uB ⟨0,uB h⟩))) O)
  |exact A4 (A4 (m:=Builtin.Tuple.tupleExact _) (vw (uB (uB ⟨0,uB h⟩)) O))
  |exact A4 (A4 (m:=Builtin.Tuple.tupleExact _) (vw (uB ⟨0,uB h⟩) O))
end
end HT
namespace L2
open PySem PySem.Spec PyProof.Rows
noncomputable abbrev TO:=St->Hp->(om Int->Hp->Prop)->Prop
noncomputable def PO (X:Cx)(e:om Expr)(t:TO):Prop:=
 ∀(oq:oj (o3×Obj)) (s:o7) (σ:St) (H:Hp) (Q:om Int->Hp->Prop),Inv X oq σ H s->t σ H Q->
  wpAny #[X,X] X.A (evalPart e X.env) (λu s'=>∃o H',Inv X oq σ H' s'/\IsPart u o/\Q o H') X.xe s
noncomputable def YW:TO:=λ_ H Q=>Q none H
inductive ItPart (Q:(Option Int->Hp->Prop)) (x:V) (H1:Hp):Prop
 |mk (i:_) (_:x= .int i) (_:Q (some i) H1)
noncomputable def tPart (t:TE):TO:=λσ H Q=>t σ H λx H1=>ItPart Q x H1
theorem intsAre_of {ns:oj Int}:∀{us:oj o6},Vals (ns.map V.int) us->IntsAre us ns:=by
 induction ns with
 |nil=>intro us r;rw [U5] at r;cases r;exact .nil
 |cons n ns O=>
  intro us r;rw [uh] at r;cases r with
  |cons U Z=>
   obtain⟨t,e⟩:=U;subst e;exact .cons n t (O Z)
section
variable {X:Cx}{e:Expr}{te:TE}{lo hi:om Expr}{tl th:TO}{pos p2:Pos}
theorem QV:PO X none YW:=by
 intro oq s σ H Q I h;rw [evalPart_none];exact uB ⟨none,H,I,.none,h⟩
theorem Qo (h:PE X e te):PO X (some e) (tPart te):=by
 intro oq s σ H Q I O;rw [evalPart_some];refine thn (h oq s σ H _ I O) λu s1 ⟨x,H1,U,Z,q1⟩=> ?_;obtain⟨i,rfl,q⟩:=q1;obtain⟨t,rfl⟩:=Z;exact⟨some i,H1,U,.int i t,q⟩
noncomputable def SlR (X:Cx)(r:V->om Int->om Int->Hp->VK->Prop):Prop:=
 ∀(oq:oj (o3×Obj)) (s:o7) (σ:St) (H:Hp) (x:V) (v vl vu:o6) (lo hi:om Int) (sl:o3) (Q:VK),Inv X oq σ H s->RelV x v->s.heap.IsSliceOf sl vl vu .none->IsPart vl lo->IsPart vu hi->r x lo hi H Q->
  ∃T id,typeLookup (.type T) "__getitem__"=pure (some (.builtin id))/\s.TypeIs v T/\wpAny #[X,X] X.A (getItem v (.ref sl)) (EP X oq σ Q) X.xe s
theorem SlR.or {r O:V->om Int->om Int->Hp->VK->Prop}(h:SlR X r)(h':SlR X O):SlR X (λx lo hi H Q=>r x lo hi H Q∨O x lo hi H Q):=by
 intro oq s σ H x v U Z lo hi sl Q I rx hs pl pu q;rcases q with q|q
 ·exact h oq s σ H x v U Z lo hi sl Q I rx hs pl pu q
 ·exact h' oq s σ H x v U Z lo hi sl Q I rx hs pl pu q
noncomputable def tSl (r:V->om Int->om Int->Hp->VK->Prop)(te:TE)(tl th:TO):TE:=λσ H Q=>te σ H λx H1=>tl σ H1 λl H2=>th σ H2 λu H3=>r x l u H3 Q
theorem Qk {r:V->om Int->om Int->Hp->VK->Prop}(hr:SlR X r)(he:PE X e te)(hl:PO X lo tl)(hu:PO X hi th):PE X (.Subscript e (.Slice lo hi none p2) pos) (tSl r te tl th):=by
 intro oq s σ H Q I h;refine Subscript_ (thn (he oq s σ H _ I h) λv s1 ⟨x,H1,I1,r1,q1⟩=> ?_);refine wpAny_Slice (thn (hl oq s1 σ H1 _ I1 q1) λU s2 ⟨l,H2,I2,pl,q2⟩=>thn (hu oq s2 σ H2 _ I2 q2) λZ O ⟨u,H3,I3,pu,q3⟩=> ?_);rw [evalPart_none];refine uB ?_;have I4:Inv X oq σ H3 {O with heap:=O.heap.push {cls:= .type "slice",data:= .fields #[U,Z,.none]}}:=I3.kept (t':=O.toks) λb ob q=>ud _ q
 obtain⟨T,id,hT,ht,hg⟩:=hr oq {O with heap:=O.heap.push {cls:= .type "slice",data:= .fields #[U,Z,.none]}} σ H3 x v U Z l u O.heap.objs.size Q I4 r1 (Heap.IsSliceOf.new ..) pl pu q3
 show wpAny #[X,X] X.A (subscriptTail e (.Slice lo hi none p2) v (.ref O.heap.objs.size)) (EP X oq σ Q) X.xe {O with heap:=O.heap.push {cls:= .type "slice",data:= .fields #[U,Z,.none]}}
 exact tail_any (ops:= [.ref O.heap.objs.size,v]) ht hT hg #[w]
noncomputable def cutV (xs:oj V)(lo hi:om Int):oj V:=(xs.drop (HT.sIx xs.length 0 lo)).take (HT.sIx xs.length xs.length hi-HT.sIx xs.length 0 lo)
theorem wH (xs:oj V)(lo hi:om Int):(cutV xs lo hi).length<=xs.length:=by
 unfold cutV;rw [vP,vn];omega
inductive rSlT (K:PySem.W.Frag) (x:V) (lo:Option Int) (hi:Option Int) (H:Hp) (Q:VK):Prop
 |mk (a:_) (xs:_) (_:x= .ref a) (_:SqT K H a xs) (_:¬(HT.sIx xs.length 0 lo=0/\HT.sIx xs.length xs.length hi=xs.length)) (_:∀p,H p=none->Q (.ref p) (upd H p (.tup (cutV xs lo hi))))
theorem sl_tup:SlR X (rSlT X.K):=by
 intro oq s σ H x v vl vu lo hi sl Q I rx hs pl pu h;obtain⟨a,xs,rfl,hx,hw,q⟩:=h;cases rx;obtain⟨its,r,U,Z⟩:=I.tuple hx;have O:its.toArray.size=xs.length:=by rw [uu];exact r.length.symm
 exists "tuple",_,PyProof.Rows.slot_tuple_getitem.lookup,U.typeIs;refine HT.getItem_tuple_cut U hs pl pu (by rwa [O]) ?_ (by rwa [O])
 rw [O];refine⟨.ref s.heap.objs.size,_,I.laid (t':=s.toks) (o:= .tup (cutV xs lo hi)) (λb ob q=>ud _ q) (ui _) ?_,1,q _ (I.hok.fresh (ui _))⟩;exact⟨uL (wH xs lo hi) Z,_,(r.drop (HT.sIx xs.length 0 lo)).take (HT.sIx xs.length xs.length hi-HT.sIx xs.length 0 lo),IsTup.new _ _⟩
inductive rCatT (K:PySem.W.Frag) (x:V) (y:V) (H:Hp) (Q:VK):Prop
 |mk (a:_) (b:_) (xs:_) (ys:_) (_:x= .ref a) (_:y= .ref b) (_:SqT K H a xs) (_:SqT K H b ys) (_:xs≠ []) (_:xs.length+ys.length<=sizeLine) (_:(ys= []->Q (.ref a) H)) (_:(ys≠ []->∀p,H p=none->Q (.ref p) (upd H p (.tup (xs++ys)))))
variable {xs:oj V}{us:oj o6}
theorem Vals.nil_iff (r:Vals xs us):us= []↔xs= []:=by
 cases r with
 |nil=>simp
 |cons _ _=>simp
theorem op_catT:OpR X (binaryOp .Add) (rCatT X.K):=by
 intro oq s σ H x y v u Q I rx ry h;obtain⟨a,b,xs,ys,rfl,rfl,ha,hb,hx,Z,q1,q2⟩:=h;cases rx;cases ry;obtain⟨its,U,p1,_⟩:=I.tuple ha;obtain⟨aa,O,p2,_⟩:=I.tuple hb;refine HT.cat_tup p1 p2 (λz=>hx (U.nil_iff.mp z)) (λz=>⟨.ref a,H,I,1,q1 (O.nil_iff.mp z)⟩) (λz=> ?_) (by rwa [<-U.length,<-O.length])
 refine⟨.ref s.heap.objs.size,_,I.laid (t':=s.toks) (o:= .tup (xs++ys)) (λb ob q=>ud _ q) (ui _) ?_,1,q2 (λw=>z (O.nil_iff.mpr w)) _ (I.hok.fresh (ui _))⟩;exact⟨by rwa [uA],_,U.append O,IsTup.new _ _⟩
end
noncomputable def ixN (n:Nat)(i:Int):om Nat:=if 0<=i then(if i<n then some i.toNat else none) else if-(n:Int)<=i then some (i+n).toNat else none
noncomputable def atI {α:Type}(xs:oj α)(i:Int):om α:=(ixN xs.length i).bind λj=>xs[j]?
variable {n j:Nat}{i:Int}
theorem ixN_seq (h:ixN n i=some j):seqIndex? i n=some j/\j<n/\ -(n:Int)<=i/\i<n:=by
 unfold ixN at h;by_cases h0:0<=i
 ·rw [A3 h0] at h;by_cases h1:i<n
  ·rw [A3 h1] at h;have e:i.toNat=j:=uI h;exact⟨by rw [seqIndex_of h0 h1,e],(),(),h1⟩
  ·rw [A2 h1] at h;cases h
 ·rw [A2 h0] at h;by_cases h1: -(n:Int)<=i
  ·rw [A3 h1] at h;have e:(i+n).toNat=j:=uI h;exact⟨by rw [seqIndex_neg () h1,e],(),h1,()⟩
  ·rw [A2 h1] at h;cases h
theorem Ke {α:Type}{xs:oj α}{v:α}(h:atI xs i=some v):∃j,seqIndex? i xs.length=some j/\xs[j]? =some v/\j<xs.length/\ -(xs.length:Int)<=i/\i<xs.length:=by
 unfold atI at h;cases e:ixN xs.length i with
 |none=>rw [e] at h;cases h
 |some j=>
  rw [e] at h;obtain⟨h1,h2,h3,h4⟩:=ixN_seq e;exact⟨j,h1,h,h2,h3,h4⟩
theorem QF {α:Type}{xs:oj α}{v:α}(h:xs[j]? =some v):atI xs (j:Int)=some v:=by
 have O:j<xs.length:=(Aa.mp h).1;have e:ixN xs.length (j:Int)=some j:=by
  unfold ixN;rw [A3 (),A3 ()];simp
 unfold atI;rw [e];exact h
theorem ji {α:Type}(xs:oj α)(v:α):atI (xs++ [v]) (-1)=some v:=by
 have O:(xs++ [v]).length=xs.length+1:=by simp
 have e:ixN (xs++ [v]).length (-1)=some xs.length:=by
  unfold ixN;rw [O,A2 (),A3 ()]
  congr 1
  omega
 unfold atI;rw [e];show(xs++ [v])[xs.length]? =some v;simp
noncomputable def PlainIx (b:Expr):Prop:=∀o i,subscripted b false o i=operate [o,i] (getItem o i)
noncomputable def IxR (X:Cx)(r:R2):Prop:=
 ∀(value slice:Expr) (oq:oj (o3×Obj)) (s:o7) (σ:St) (H:Hp) (x y:V) (v u:o6) (Q:VK),Inv X oq σ H s->RelV x v->RelV y u->r x y H Q->
  subscripted slice false v u=operate [v,u] (getItem v u)->wpAny #[X,X] X.A (subscriptTail value slice v u) (EP X oq σ Q) X.xe s
noncomputable def MtR (X:Cx)(id:String)(r:V->oj V->Hp->VK->Prop):Prop:=
 ∀(oq:oj (o3×Obj)) (s:o7) (σ:St) (H:Hp) (x:V) (xs:oj V) (v:o6) (us:oj o6) (Q:VK),Inv X oq σ H s->RelV x v->Vals xs us->r x xs H Q->
  wpAny #[X,X] X.A (call (.builtin id) (v::us)) (EP X oq σ Q) X.xe s
section
variable {X:Cx}{a b:Expr}{ta tb:TE}{pos:Pos}
theorem IxR.or {r O:R2}(h:IxR X r)(h':IxR X O):IxR X (λx y H Q=>r x y H Q∨O x y H Q):=by
 intro value slice oq s σ H x y v u Q I U Z q hs;rcases q with q|q
 ·exact h value slice oq s σ H x y v u Q I U Z q hs
 ·exact h' value slice oq s σ H x y v u Q I U Z q hs
theorem qN {r:R2}(O:IxR X r)(ha:PE X a ta)(U:PE X b tb)(Z:PlainIx b):PE X (.Subscript a b pos) (tOp r ta tb):=by
 intro oq s σ H Q I h;exact Subscript_ (binT ha U I h λv u s2 x y H2 I2 rx ry q=>O a b oq s2 σ H2 x y v u Q I2 rx ry q (Z _ _))
inductive rIxL (K:PySem.W.Frag) (x:V) (y:V) (H:Hp) (Q:VK):Prop
 |mk (p:_) (xs:_) (i:_) (v:_) (_:x= .ref p) (_:y= .int i) (_:SqL K H p xs) (_:atI xs i=some v) (_:Q v H)
inductive rIxT (K:PySem.W.Frag) (x:V) (y:V) (H:Hp) (Q:VK):Prop
 |mk (p:_) (xs:_) (i:_) (v:_) (_:x= .ref p) (_:y= .int i) (_:SqT K H p xs) (_:atI xs i=some v) (_:Q v H)
inductive rIxS (x:V) (y:V) (H:Hp) (Q:VK):Prop
 |mk (z:_) (i:_) (c:_) (_:x= .str z) (_:y= .int i) (_:z.length<=sizeLine) (_:atI z.cps.toList i=some c) (_:Q (.str ⟨#[c]⟩) H)
theorem Q4:IxR X (rIxL X.K):=by
 intro value slice oq s σ H x y v u Q I rx ry h Z;obtain⟨p,xs,i,z,rfl,rfl,hq,he,q⟩:=h;cases rx;obtain⟨t,rfl⟩:=ry;obtain⟨its,r,pl,hz⟩:=I.list hq;obtain⟨j,h1,h2,h3,h4,h5⟩:=Ke he;obtain⟨w,ew,O⟩:=r.get h2;have hl:=r.length;have hn:=zZ;have fin:EP X oq σ Q w s:=⟨z,H,I,O,q⟩;by_cases h0:0<=i
 ·have U:i.toNat=j:=by
   rw [seqIndex_of h0 h5] at h1;exact uI h1
  exact item_listR pl.isList h0 () (by rw [U];simpa using ew) fin Z
 ·have U:(i+(its.toArray.size:Int)).toNat=j:=by
   rw [seqIndex_neg () h4] at h1
   rw [uu,<-hl];exact uI h1
  exact subscriptTail_builtinR (x:=w) pl.isList.typeIs slot_list_getitem.lookup
   (wpAny_getItem_list_neg (Q:=λr s'=>r=w/\EP X oq σ Q r s') pl.isList () (by rw [uu]<;>omega) () (by rw [U];simpa using ew) ⟨1,fin⟩) Z
theorem qM:IxR X (rIxT X.K):=by
 intro value slice oq s σ H x y v u Q I U Z h hs;obtain⟨p,xs,i,z,rfl,rfl,hq,he,q⟩:=h;cases U;obtain⟨t,rfl⟩:=Z;obtain⟨its,r,pl,hz⟩:=I.tuple hq;obtain⟨j,h1,h2,h3,h4,h5⟩:=Ke he;obtain⟨w,ew,O⟩:=r.get h2;have hl:=r.length;have hn:=zZ;have fin:EP X oq σ Q w s:=⟨z,H,I,O,q⟩;exact subscriptTail_builtinR (x:=w) pl.typeIs slot_tuple_getitem.lookup
  (getItem_tuple (j:=j) (Q:=λr s'=>r=w/\EP X oq σ Q r s') pl () () (by rwa [uu,<-hl]) (by simpa using ew) ⟨1,fin⟩) hs
theorem ix_str:IxR X rIxS:=by
 intro value slice oq s σ H x y v u Q I O U h Z;obtain⟨z,i,c,rfl,rfl,hz,he,q⟩:=h;obtain⟨t,rfl⟩:=O;obtain⟨t',rfl⟩:=U;obtain⟨j,h1,h2,h3,h4,h5⟩:=Ke he;have hl:z.cps.toList.length=z.length:=by simp [Str.length]
 rw [hl] at h1 h4 h5;have hn:=zZ;exact tail_any (vN s z t) slot_str_getitem.lookup (getItem_str (c:=c) (by
  have e1:decide (i< -(2^63:Int))=false:=ug ()
  have e2:decide (i≥2^63)=false:=ug ()
  rw [e1,e2,Bool.or_false]) (by rw [h1];simpa using h2) ⟨.str ⟨#[c]⟩,H,I.tok _,⟨0⟩,q⟩) Z
noncomputable def rIx (K:o0):R2:=λx y H Q=>rIxL K x y H Q∨rIxT K x y H Q∨rIxS x y H Q
theorem JV:IxR X (rIx X.K):=Q4.or (qM.or ix_str)
theorem mapSeq_set (its:oj o6)(n j:Nat)(u:o6):Obj.mapSeq (·.setIfInBounds j u) {cls:= .type "list",data:= .seq its.toArray n}={cls:= .type "list",data:= .seq (its.set j u).toArray n}:=by
 simp [Obj.mapSeq]
theorem Inv.lst {oq:oj (o3×Obj)}{σ:St}{H:Hp}{s:o7}{p:o3}{xs:oj V}(I:Inv X oq σ H s)(h:H p=some (.lst xs)):
  ∃(its:oj o6) (n:Nat),Vals xs its/\s.heap.get? p=some {cls:= .type "list",data:= .seq its.toArray n}/\xs.length<=sizeLine:=by
 obtain⟨z,its,n,r,e⟩:=I.hok p _ h;exact⟨its,n,r,e,z⟩
theorem Inv.lstUpd {oq:oj (o3×Obj)}{σ:St}{H:Hp}{s:o7}{p:o3}{xs ys:oj V}{its its':oj o6}{n O:Nat}{f:Obj->Obj}(I:Inv X oq σ H s)(h:H p=some (.lst xs))
  (Z:s.heap.get? p=some {cls:= .type "list",data:= .seq its.toArray n}) (U:f {cls:= .type "list",data:= .seq its.toArray n}={cls:= .type "list",data:= .seq its'.toArray O}) (r:Vals ys its') (hz:ys.length<=sizeLine) (t:Nat) (ht:0<t:=by ac_rfl):
  Inv X oq σ (upd H p (.lst ys)) {s with heap:=s.heap.update p f,toks:=t}:=by
 have e:(s.heap.update p f).get? p=some {cls:= .type "list",data:= .seq its'.toArray O}:=by
  rw [Heap.get?_update_self f Z (by rw [U]<;>rfl),U]
 refine I.write (x:=p) (e:=p) (by rw [h];trivial) (.inl rfl) (λb u hb q=>(Heap.get?_update_other _ _ (Uu hb)).trans q) ⟨_,e⟩ ?_
 exact⟨hz,its',O,r,e⟩
inductive rSetL (o:V) (i:V) (v:V) (H:Hp) (Q:(Hp->Prop)):Prop
 |mk (p:_) (xs:_) (k:_) (j:_) (_:o= .ref p) (_:i= .int k) (_:H p=some (.lst xs)) (_:ixN xs.length k=some j) (_:Q (upd H p (.lst (xs.set j v))))
theorem set_list:PSet X rSetL:=by
 intro oq s σ H o i v ov iv u Q I ro ri rv h;obtain⟨p,xs,k,j,rfl,rfl,hp,hj,q⟩:=h;cases ro;obtain⟨t,rfl⟩:=ri;obtain⟨its,n,r,O,hz⟩:=I.lst hp;obtain⟨h1,h2,h3,h4⟩:=ixN_seq hj;have U:=r.length;have hn:=zZ;have I':Inv X oq σ (upd H p (.lst (xs.set j v))) {s with heap:=s.heap.update p (Obj.mapSeq (·.setIfInBounds j u))}:=
  I.lstUpd hp O (mapSeq_set its n j u) (r.set rv j) (by rwa [List.length_set]) s.toks
 by_cases h0:0<=k
 ·have Z:k.toNat=j:=by
   rw [seqIndex_of h0 h4] at h1;exact uI h1
  exact PySem.W.ki_setAt O h0 () (by rwa [uu,<-U]) (by rw [Z];exact⟨_,I',q⟩)
 ·have Z:(k+(its.toArray.size:Int)).toNat=j:=by
   rw [seqIndex_neg () h3] at h1
   rw [uu,<-U];exact uI h1
  exact PySem.W.ki_setBack O () (by rwa [uu,<-U]) () (by rw [Z];exact⟨_,I',q⟩)
theorem slice_bounds (lo hi:om Int)(n:Nat):(sliceBounds lo hi none n).1=((HT.sIx n 0 lo:Nat):Int)/\(sliceBounds lo hi none n).2.1=((HT.sIx n n hi:Nat):Int)/\(sliceBounds lo hi none n).2.2=1:=by
 refine⟨?_,?_,1⟩
 ·cases lo with
  |none=>simp [sliceBounds,HT.sIx]
  |some i=>
   simp only [sliceBounds,HT.sIx,Option.getD_none,show(1:Int)>0 by decide,if_true]
   by_cases h:i<0
   ·simp only [h,if_true]<;>omega
   ·simp only [h,if_false]<;>omega
 ·cases hi with
  |none=>simp [sliceBounds,HT.sIx]
  |some i=>
   simp only [sliceBounds,HT.sIx,Option.getD_none,show(1:Int)>0 by decide,if_true]
   by_cases h:i<0
   ·simp only [h,if_true]<;>omega
   ·simp only [h,if_false]<;>omega
theorem WY (its:oj o6)(lo hi:om Int):slicePick its.toArray lo hi none=((its.drop (HT.sIx its.length 0 lo)).take (HT.sIx its.length its.length hi-HT.sIx its.length 0 lo)).toArray:=by
 obtain⟨h1,h2,h3⟩:=slice_bounds lo hi its.toArray.size;unfold slicePick;rw [h1,h2,h3];simp only [sliceRange_one,pick_run,uu]<;>rfl
inductive rSlL (K:PySem.W.Frag) (x:V) (lo:Option Int) (hi:Option Int) (H:Hp) (Q:VK):Prop
 |mk (a:_) (xs:_) (_:x= .ref a) (_:SqL K H a xs) (_:∀p,H p=none->Q (.ref p) (upd H p (.lst (cutV xs lo hi))))
theorem sl_list:SlR X (rSlL X.K):=by
 intro oq s σ H x v vl vu lo hi sl Q I Z hs pl pu h;obtain⟨a,xs,rfl,hx,q⟩:=h;cases Z;obtain⟨its,r,U,hz⟩:=I.list hx;have O:=r.length;exists "list",_,slot_list_getitem.lookup,U.isList.typeIs;refine wpAny_getItem_list_slice U.isList hs pl pu .none (by simp) ?_ (by rw [uu]<;>omega)
 rw [WY,<-O];refine⟨.ref s.heap.objs.size,_,I.laid (t':=s.toks) (o:= .lst (cutV xs lo hi)) (λb ob q=>ud _ q) (ui _) ?_,1,q _ (I.hok.fresh (ui _))⟩;exact⟨uL (wH xs lo hi) hz,_,(0),(r.drop (HT.sIx xs.length 0 lo)).take (HT.sIx xs.length xs.length hi-HT.sIx xs.length 0 lo),uG _ rfl⟩
noncomputable def Zg:V->Bool
 | .non=>true
 | .bl _=>true
 | .int _=>true
 | .str _=>true
 |_=>false
noncomputable def eqV:V->V->Bool
 | .non,.non=>true
 | .bl a,.bl b=>a==b
 | .bl a,.int b=>(if a then 1 else 0)==b
 | .int a,.bl b=>a==(if b then 1 else 0)
 | .int a,.int b=>a==b
 | .str a,.str b=>a==b
 |_,_=>false
variable {A:oh}{s:o7}{y:V}
theorem eqAt_V {x:V}{u v:o6}(U:RelV y u)(O:RelV x v)(fy:Zg y=true)(Z:Zg x=true):SeqAt.EqAt A s u v (eqV y x):=by
 cases y with
 |non=>
  cases U;cases x with
  |non=>cases O;exact SeqAt.EqAt.same _
  |bl b=>cases O;exact SeqAt.EqAt.none_bool b
  |int b=>obtain⟨t,rfl⟩:=O;exact SeqAt.EqAt.none_int b t
  |str b=>obtain⟨t,rfl⟩:=O;exact SeqAt.EqAt.none_str b t
  |_=>exact absurd (show false=true from Z) ub
 |bl a=>
  cases U;cases x with
  |non=>cases O;exact SeqAt.EqAt.bool_none a
  |bl b=>cases O;exact SeqAt.EqAt.bool_bool a b
  |int b=>obtain⟨t,rfl⟩:=O;exact SeqAt.EqAt.bool_int a b t
  |str b=>obtain⟨t,rfl⟩:=O;exact SeqAt.EqAt.bool_str a b t
  |_=>exact absurd (show false=true from Z) ub
 |int a=>
  obtain⟨t',rfl⟩:=U;cases x with
  |non=>cases O;exact SeqAt.EqAt.int_none a t'
  |bl b=>cases O;exact SeqAt.EqAt.int_bool a t' b
  |int b=>obtain⟨t,rfl⟩:=O;exact SeqAt.EqAt.int_int a t' b t
  |str b=>obtain⟨t,rfl⟩:=O;exact Uz a t' b t
  |_=>exact absurd (show false=true from Z) ub
 |str a=>
  obtain⟨t',rfl⟩:=U;cases x with
  |non=>cases O;exact SeqAt.EqAt.str_none a t'
  |bl b=>cases O;exact SeqAt.EqAt.str_bool a t' b
  |int b=>obtain⟨t,rfl⟩:=O;exact UA a t' b t
  |str b=>obtain⟨t,rfl⟩:=O;exact SeqAt.EqAt.str_str a t' b t
  |_=>exact absurd (show false=true from Z) ub
 |_=>exact absurd (show false=true from fy) ub
noncomputable def eqU (x:V)(u:o6):Bool:=match u with
 | .none=>eqV .non x
 | .bool b=>eqV (.bl b) x
 | .int i _=>eqV (.int i) x
 | .str z _=>eqV (.str z) x
 |_=>false
theorem eqU_of {x:V}{u:o6}(r:RelV y u)(f:Zg y=true):eqU x u=eqV y x:=by
 cases y with
 |non=>cases r;rfl
 |bl b=>cases r;rfl
 |int i=>obtain⟨t,rfl⟩:=r;rfl
 |str z=>obtain⟨t,rfl⟩:=r;rfl
 |_=>exact absurd (show false=true from f) ub
theorem any_eqU {x:V}:∀{xs:oj V}{us:oj o6},Vals xs us->xs.all Zg=true->us.any (eqU x)=xs.any λy=>eqV y x
 |_,_,.nil,_=>rfl
 |y::xs,u::us,.cons r t,f=>by
  rw [vo,uz] at f;rw [Uq,Uq,eqU_of r f.1,any_eqU t f.2]
theorem W0 {A:oh}{s:o7}{x:V}{v:o6}(U:RelV x v)(Z:Zg x=true):∀{xs:oj V}{us:oj o6},Vals xs us->xs.all Zg=true->∀u∈us,SeqAt.EqAt A s u v (eqU x u)
 |_,_,.nil,_=>λu O=>by cases O
 |y::xs,u::us,.cons r t,f=>λu' O=>by
  rw [vo,uz] at f;rcases A5.mp O with rfl|O
  ·rw [eqU_of r f.1];exact eqAt_V r U f.1 Z
  ·exact W0 U Z t f.2 u' O
noncomputable def inV (x:V)(xs:oj V):Bool:=xs.any λy=>eqV y x
inductive rIn (K:PySem.W.Frag) (neg:Bool) (x:V) (y:V) (H:Hp) (Q:VK):Prop
 |mk (p:_) (xs:_) (_:y= .ref p) (_:(SqL K H p xs∨SqT K H p xs)) (_:Zg x=true) (_:xs.all Zg=true) (_:Q (.bl (if neg then !inV x xs else inV x xs)) H)
theorem QI:OpR X (compareOp .In) (rIn X.K false):=by
 intro oq s σ H x y v u Q I Z ry h;obtain⟨p,xs,rfl,O,fx,fs,q⟩:=h;cases ry;rcases O with O|O
 ·obtain⟨its,r,pl,hz⟩:=I.list O;refine SeqAt.in_listAt (eqU x) pl.isList (λw U=>W0 Z fx r fs w (by simpa using U)) ⟨.bl _,H,I,1,?_⟩
  rw [show its.toArray.any (eqU x)=its.any (eqU x) by simp,any_eqU r fs]
  exact q
 ·obtain⟨its,r,pl,hz⟩:=I.tuple O;refine SeqAt.in_tupleAt (eqU x) pl (λw U=>W0 Z fx r fs w (by simpa using U)) ⟨.bl _,H,I,1,?_⟩
  rw [show its.toArray.any (eqU x)=its.any (eqU x) by simp,any_eqU r fs]
  exact q
theorem op_notIn_str:OpR X (compareOp .NotIn) (λx y H Q=>∃i j,x= .str i/\y= .str j/\Q (.bl (!(!(Builtin.Str.occurrences j i 0 j.length 1).isEmpty))) H):=by
 intro oq s σ H x y v u Q I O U h;obtain⟨i,j,rfl,rfl,q⟩:=h;obtain⟨t,rfl⟩:=O;obtain⟨t',rfl⟩:=U;exact notIn_str ⟨.bl _,H,I,1,q⟩
theorem qQ:Y6 X (.builtin "len") (λxs H Q=>∃p ys,xs= [.ref p]/\(SqL X.K H p ys∨SqT X.K H p ys)/\Q (.int ys.length) H):=by
 intro oq s σ H xs us Q I r h;obtain⟨p,ys,rfl,U,q⟩:=h;obtain⟨u,rfl,rx⟩:=XA r;cases rx;have hn:=zZ;rcases U with U|U
 ·obtain⟨its,Z,pl,hz⟩:=I.list U;have O:=Z.length;exact Calls.call_len_list pl.isList (by simp only [uu]<;>omega) ⟨.int ys.length,H,I.tok _,⟨s.toks+1,by rw [uu,O]⟩,q⟩
 ·obtain⟨its,Z,pl,hz⟩:=I.tuple U;have O:=Z.length;exact len_tuple pl (by simp only [uu]<;>omega) ⟨.int ys.length,H,I.tok _,⟨s.toks+1,by rw [uu,O]⟩,q⟩
theorem zP:Y6 X (.builtin "len") (λxs H Q=>∃z,xs= [.str z]/\z.length<=sizeLine/\Q (.int z.length) H):=by
 intro oq s σ H xs us Q I r h;obtain⟨z,rfl,O,q⟩:=h;obtain⟨u,rfl,t,rfl⟩:=XA r;have hn:=zZ;exact len_str () ⟨.int z.length,H,I.tok _,⟨0⟩,q⟩
theorem qR:Y6 X (.type "tuple") (λxs H Q=>∃p ys,xs= [.ref p]/\((SqL X.K H p ys/\∀l,H l=none->Q (.ref l) (upd H l (.tup ys)))∨(SqT X.K H p ys/\Q (.ref p) H))):=by
 intro oq s σ H xs us Q I r h;obtain⟨p,ys,rfl,h⟩:=h;obtain⟨u,rfl,rx⟩:=XA r;cases rx;rcases h with⟨O,q⟩|⟨O,q⟩
 ·obtain⟨its,U,pl,Z⟩:=I.list O;have aa:=U.length;refine call_tuple_list pl.isList (λh' kp=> ?_) (by simp only [uu]<;>omega)
  have I1:Inv X oq σ H {s with heap:=h'}:=I.kept (t':=s.toks) kp
  have I2:Inv X oq σ (upd H h'.objs.size (.tup ys)) {s with heap:=h'.push {cls:= .type "tuple",data:= .seq its.toArray}}:=
   I1.laid (t':=s.toks) (λb o e=>ud _ e) (ui _) (show yg X.prog X.w _ _ _ (.tup ys) from⟨Z,its,U,IsTup.new _ _⟩)
  exact⟨.ref h'.objs.size,_,I2,1,q _ (I1.hok.fresh (ui _))⟩
 ·obtain⟨its,U,pl,Z⟩:=I.tuple O;exact call_tuple_same pl ⟨.ref p,H,I,1,q⟩
noncomputable def tyV (K:o0)(T:String)(x:V)(H:Hp):Prop:=match x with
 | .str _=>T="str"
 | .int _=>T="int"
 | .ref p=>(T="list"/\∃xs,SqL K H p xs)∨(T="tuple"/\∃o,K.lookup p=some o/\o.cls= .type "tuple"/\o.dict=none)∨
   (T="dict"/\((∃kvs,H p=some (.dK kvs))∨∃kvs,H p=some (.dT kvs)))∨(T="set"/\∃S n,H p=some (.set S n))
 |_=>False
variable {oq:oj (o3×Obj)}{σ:St}{H:Hp}
theorem tyV_is {T:String}{x:V}{v:o6}(I:Inv X oq σ H s)(r:RelV x v)(ty:tyV X.K T x H):
  s.TypeIs v T/\∀a,v= .ref a->∃ob,s.heap.get? a=some ob/\ob.dict=none:=by
 cases x with
 |str z=>
  obtain⟨t,rfl⟩:=r;cases(show T="str" from ty)
  exact⟨vN s z t,λ_ e=>nomatch e⟩
 |int i=>
  obtain⟨t,rfl⟩:=r;cases(show T="int" from ty)
  exact⟨typeIs_int s i t,λ_ e=>nomatch e⟩
 |ref p=>
  cases r;rcases ty with⟨rfl,xs,Z⟩|⟨rfl,o,O,hc,hd⟩|⟨rfl,O⟩|⟨rfl,S,n,O⟩
  ·obtain⟨its,_,pl,_⟩:=I.list Z;refine⟨pl.isList.typeIs,λa e=> ?_⟩;cases e;obtain⟨o,n,e,c,hd,_⟩:=pl;exact⟨o,e,hd⟩
  ·refine⟨⟨o,I.kIn p o O,hc⟩,λa e=> ?_⟩;cases e;exact⟨o,I.kIn _ o O,hd⟩
  ·have z:∃o,s.heap.get? p=some o/\o.ExactDict:=by
    rcases O with⟨kvs,O⟩|⟨kvs,O⟩
    ·obtain⟨_,_,_,_,o,_,_,e,ex,_⟩:=I.hok p _ O;exact⟨o,e,ex⟩
    ·obtain⟨_,_,_,_,o,_,_,e,ex,_⟩:=I.hok p _ O;exact⟨o,e,ex⟩
   obtain⟨o,e,ex⟩:=z;refine⟨⟨o,e,ex.1⟩,λa U=> ?_⟩;cases U;exact⟨o,e,ex.2.1⟩
  ·obtain⟨o,_,_,_,e,ex,_⟩:=I.hok p _ O;refine⟨⟨o,e,ex.1⟩,λa U=> ?_⟩;cases U;exact⟨o,e,ex.2.1⟩
 |_=>exact False.elim ty
noncomputable def tBM0 (K:o0)(T:String)(r:V->oj V->Hp->VK->Prop)(to:TE):TE:=λσ H Q=>to σ H λx H1=>tyV K T x H1/\r x [] H1 Q
noncomputable def tBM (K:o0)(T:String)(r:V->oj V->Hp->VK->Prop)(to:TE)(t:TA):TE:=λσ H Q=>to σ H λx H1=>tyV K T x H1/\t σ H1 λxs H2=>r x xs H2 Q
variable {o e:Expr}{es:oj Expr}{to:TE}{t:TA}{name:Str}{apos cpos:Pos}{T id:String}{r:V->oj V->Hp->VK->Prop}
theorem pe_bm0 (pa:PlainAttrs T)(slot:Slot T name id)(Z:typeOf (.builtin id)=pure (.type "method_descriptor"))(hm:MtR X id r)(ho:PE X o to)
  (O:attributeBase o name X.env (eval o X.env)=eval o X.env) (U:(apos.endLine==cpos.line)=true):PE X (.Call (.Attribute o name apos) [] [] cpos) (tBM0 X.K T r to):=by
 intro oq s σ H Q I h;refine wpAny_Call_method0_late O U (thn (ho oq s σ H _ I h) λv s1 ⟨x,H1,I1,r1,ty,q1⟩=> ?_);obtain⟨h1,h2⟩:=tyV_is I1 r1 ty;exact⟨T,id,pa,slot,Z,h1,h2,vG rfl (PySem.evalArgs_none (hm oq s1 σ H1 x [] v [] Q I1 r1 .nil q1))⟩
theorem jx (pa:PlainAttrs T)(slot:Slot T name id)(ac:typeOf (.builtin id)=pure (.type "method_descriptor"))(hm:MtR X id r)(ho:PE X o to)(ha:PA X (e::es) t)
  (U:attributeBase o name X.env (eval o X.env)=eval o X.env:=by rfl)
  (aa:((backTo cpos (starEach (e::es) X.env)).all (λx=> !x.1)&&(backToKw cpos (keywordEach [] X.env)).all (λx=>x.1.isSome)
   &&decide ((e::es).length+([]:oj Keyword).length+(if([]:oj Keyword).isEmpty then 0 else 1)<30))=true:=by rfl)
  (Z:(apos.endLine==cpos.line)=true:=by rfl) (hs:starEach (e::es) X.env=(false,eval e X.env)::starEach es X.env:=by rfl) (O:(backTo cpos (starEach es X.env)).any (·.1)=false:=by rfl):
  PE X (.Call (.Attribute o name apos) (e::es) [] cpos) (tBM X.K T r to t):=by
 intro oq s σ H Q I h;refine wpAny_Call_method_late U aa Z rfl (thn (ho oq s σ H _ I h) λv s1 ⟨x,H1,I1,r1,ty,q1⟩=> ?_);obtain⟨h1,h2⟩:=tyV_is I1 r1 ty;exists T,id,pa,slot,ac,h1,h2;have hA:=ha cpos oq s1 σ H1 _ I1 q1;rw [hs] at hA⊢;refine vG (by show(false||(backTo cpos (starEach es X.env)).any (·.1))=false;rw [O]<;>rfl) (U1 ?_)
 exact thn hA λus s2 ⟨vs,H2,I2,r2,q2⟩=>hm oq s2 σ H2 x vs v us Q I2 r1 r2 q2
end
noncomputable def MtM (X:Cx)(id:String)(r:V->oj V->Hp->VK->Prop):Prop:=
 ∀(oq:oj (o3×Obj)) (s:o7) (σ:St) (H:Hp) (x:V) (xs:oj V) (v:o6) (us:oj o6) (Q:VK),Inv X oq σ H s->RelV x v->Vals xs us->r x xs H Q->
  wpAny #[X,X] X.A (call (.builtin id) (v::us)) (EP X oq σ Q) X.xe s
theorem Vals.one:∀{x:V}{us:oj o6},Vals [x] us->∃u,us= [u]/\RelV x u
 |_,_,.cons r .nil=>⟨0,r⟩
theorem Vals.zero:∀{us:oj o6},Vals [] us->us= []
 |_,.nil=>rfl
variable {xs:oj V}{us:oj o6}
theorem Vals.dropLast (h:Vals xs us):Vals xs.dropLast us.dropLast:=by
 induction h with
 |nil=>exact .nil
 |cons r t O=>
  cases t with
  |nil=>exact .nil
  |cons q t'=>exact .cons r O
theorem erase_last {α:Type}(l:oj α):l.eraseIdx (l.length-1)=l.dropLast:=by
 induction l with
 |nil=>rfl
 |cons a r O=>
  cases r with
  |nil=>rfl
  |cons b r=>
   have e:(a::b::r).length-1=((b::r).length-1)+1:=by
    have h1:(a::b::r).length=r.length+2:=rfl;have h2:(b::r).length=r.length+1:=rfl;omega
   rw [e,List.eraseIdx_cons_succ,O]
   all_goals rfl
section
variable {X:Cx}{oq:oj (o3×Obj)}{σ:St}{H:Hp}{s:o7}{l b:o3}{xs ys zs:oj V}
theorem Inv.lset {its its':oj o6}{n:Nat}{f:Array o6->Array o6}{t':Nat}(I:Inv X oq σ H s)(O:H l=some (.lst xs))
  (e:s.heap.get? l=some {cls:= .type "list",data:= .seq its.toArray n}) (U:f its.toArray=its'.toArray) (Z:Vals ys its') (hz:ys.length<=sizeLine) (ht:0<t':=by ac_rfl):
  Inv X oq σ (upd H l (.lst ys)) {s with heap:=s.heap.update l (Obj.mapSeq f),toks:=t'}:=by
 have q:=PySem.IsL.update e f;rw [U] at q;refine I.write (x:=l) (e:=l) (by rw [O];exact trivial) (.inl rfl) (λb' u hb hu=>(Heap.get?_update_other s.heap (Obj.mapSeq f) (Uu hb)).trans hu) ⟨_,q⟩ ?_
 exact⟨hz,its',_,Z,q⟩
variable {its:oj o6}{t':Nat}
theorem Inv.lnew (I:Inv X oq σ H s)(O:Vals ys its)(U:ys.length<=sizeLine)(Z:0<t':=by ac_rfl):
  Inv X oq σ (upd H s.heap.objs.size (.lst ys)) {s with heap:=s.heap.push {cls:= .type "list",data:= .seq its.toArray},toks:=t'}:=
 I.laid (λ_ _ q=>ud _ q) (ui _) ⟨U,its,(0),O,uG _ rfl⟩
theorem Inv.fresh (I:Inv X oq σ H s):H s.heap.objs.size=none:=I.hok.fresh (ui _)
theorem Inv.lstM (I:Inv X oq σ H s)(O:H l=some (.lst xs)):xs.length<=sizeLine/\∃(its:oj o6) (n:Nat),Vals xs its/\xs.length=its.length/\s.heap.get? l=some {cls:= .type "list",data:= .seq its.toArray n}:=by
 obtain⟨z,its,n,r,e⟩:=I.hok l _ O;exact⟨z,its,n,r,r.length,e⟩
theorem notLongL (h:n<=sizeLine):Builtin.List.listTooLong n=false:=by
 unfold Builtin.List.listTooLong;exact ug ()
end
section
variable {X:Cx}
inductive rAppend (x:V) (vs:List V) (H:Hp) (Q:VK):Prop
 |mk (l:_) (xs:_) (y:_) (_:x= .ref l) (_:vs= [y]) (_:H l=some (.lst xs)) (_:xs.length<sizeLine) (_:Q .non (upd H l (.lst (xs++ [y]))))
theorem Yv:MtM X "list.append" rAppend:=by
 intro oq s σ H x vs v us Q I U rv h;obtain⟨l,xs,y,rfl,rfl,O,Z,q⟩:=h;cases U;obtain⟨u,rfl,ru⟩:=rv.one;obtain⟨z,its,n,r,hl,e⟩:=I.lstM O;refine vO F.slot_list_append ⟨_,e,1⟩ F.entry_list_append (F.args_list_append_2 _ _) (PySem.list_append l its.toArray n u (by rw [uu];omega)) ⟨e,?_⟩
 refine⟨.non,_,I.lset (its':=its++ [u]) O e (by simp) (r.append (.cons ru .nil)) ?_,1,q⟩
 rw [uA,vL];omega
inductive rExtend (x:V) (vs:List V) (H:Hp) (Q:VK):Prop
 |mk (l:_) (b:_) (xs:_) (zs:_) (_:x= .ref l) (_:vs= [.ref b]) (_:H l=some (.lst xs)) (_:H b=some (.lst zs)) (_:xs.length+zs.length<=sizeLine) (_:Q .non (upd H l (.lst (xs++zs))))
theorem mt_extend:MtM X "list.extend" rExtend:=by
 intro oq s σ H x vs v us Q I rx rv h;obtain⟨l,b,xs,zs,rfl,rfl,Z,hB,hz,q⟩:=h;cases rx;obtain⟨u,rfl,ru⟩:=rv.one;cases ru;obtain⟨z,its,n,r,hl,e⟩:=I.lstM Z;obtain⟨z2,O,n2,r2,aa,e2⟩:=I.lstM hB;have hsz:its.toArray.size+O.toArray.size<=sizeLine:=by rw [uu,uu];omega
 have U:¬(!its.toArray.isEmpty&&Builtin.List.listTooLong (its.toArray.size+O.toArray.size))=true:=by
  rw [notLongL hsz,Bool.and_false];exact ub
 refine vO F.slot_list_extend ⟨_,e,1⟩ F.entry_list_extend (F.args_list_extend_2 _ _)
  (AutoSeq1.list_extend_list_list_0 l its.toArray n b O.toArray n2 U (by rw [uu];omega) ()) ⟨e,e2,?_⟩
 refine⟨.non,_,I.lset (its':=its++O) Z e (by simp) (r.append r2) ?_,1,q⟩
 rw [uA];omega
inductive rPop (x:V) (vs:List V) (H:Hp) (Q:VK):Prop
 |mk (l:_) (xs:_) (y:_) (_:x= .ref l) (_:vs= []) (_:H l=some (.lst xs)) (_:xs[xs.length-1]? =some y) (_:Q y (upd H l (.lst xs.dropLast)))
theorem mt_pop:MtM X "list.pop" rPop:=by
 intro oq s σ H x vs v us Q I rx rv h;obtain⟨l,xs,y,rfl,rfl,Z,hy,q⟩:=h;cases rx;have O:=rv.zero;subst O;obtain⟨z,its,n,r,hl,e⟩:=I.lstM Z;obtain⟨u,hu,ru⟩:=r.get hy;have U:its.toArray[its.toArray.size-1]? =some u:=by
  show its.toArray[its.length-1]? =some u;rwa [<-Array.getElem?_toList,<-hl]
 refine vO F.slot_list_pop ⟨_,e,1⟩ F.entry_list_pop (F.args_list_pop_1 _) (MeetsSeq.list_pop_last l its.toArray n u U (by rw [uu];omega)) ⟨e,?_⟩
 refine⟨y,_,I.lset (its':=its.dropLast) Z e ?_ r.dropLast ?_,ru,q⟩
 ·show its.toArray.eraseIdxIfInBounds (its.toArray.size-1)=its.dropLast.toArray;rw [uu,List.eraseIdxIfInBounds_toArray,erase_last]
 ·rw [List.length_dropLast];omega
inductive rCat (x:V) (y:V) (H:Hp) (Q:VK):Prop
 |mk (l:_) (b:_) (xs:_) (zs:_) (_:x= .ref l) (_:y= .ref b) (_:H l=some (.lst xs)) (_:H b=some (.lst zs)) (_:xs.length+zs.length<=sizeLine) (_:∀p,H p=none->Q (.ref p) (upd H p (.lst (xs++zs))))
theorem op_cat:OpR X (binaryOp .Add) rCat:=by
 intro oq s σ H x y v u Q I U Z h;obtain⟨l,b,xs,zs,rfl,rfl,hH,hB,hz,q⟩:=h;cases U;cases Z;obtain⟨z,its,n,r,hl,e⟩:=I.lstM hH;obtain⟨z2,O,n2,r2,aa,e2⟩:=I.lstM hB;refine PySem.P.add_list e e2 ?_ (by rw [uu,uu];omega)
 have ea:its.toArray++O.toArray=(its++O).toArray:=by simp
 rw [ea];exact⟨.ref _,_,I.lnew (t':=s.toks) (r.append r2) (by rw [uA];omega),1,q _ I.fresh⟩
end
section
variable {prog:o9}{w:og}{A:oh}{E:o6->o7->Prop}{s:o7}
set_option maxRecDepth 100000 in
end
section
variable {κ:Type}[DecidableEq κ]
noncomputable def valV (kvs:oj (κ×V))(k:κ):om V:=(kvs.find? λkv=>decide (kv.1=k)).map (·.2)
noncomputable def putK (kvs:oj (κ×V))(k:κ)(v:V):oj (κ×V):=
 if(kvs.any λkv=>decide (kv.1=k))=true then kvs.map (λkv=>if kv.1=k then(kv.1,v) else kv) else kvs++ [(k,v)]
noncomputable def Y5 (kvs:oj (κ×V))(k:κ):oj (κ×V):=kvs.filter λkv=>decide (kv.1≠k)
theorem Kb {k:κ}:valV ([]:oj (κ×V)) k=none:=rfl
theorem QO {p:κ×V}{r:oj (κ×V)}{k:κ}(e:p.1=k):valV (p::r) k=some p.2:=by simp [valV,uY,e]
theorem QG {p:κ×V}{r:oj (κ×V)}{k:κ}(e:¬p.1=k):valV (p::r) k=valV r k:=by simp [valV,uY,e]
theorem JJ (k:κ):∀kvs:oj (κ×V),(kvs.any λkv=>decide (kv.1=k))=(valV kvs k).isSome
 | []=>rfl
 |p::r=>by
  rw [Uq];by_cases e:p.1=k
  ·simp only [QO e,ue e,Bool.true_or,Option.isSome_some]
  ·rw [QG e,ug e,Bool.false_or];exact JJ k r
theorem valV_map (k j:κ)(y:V):∀kvs:oj (κ×V),valV (kvs.map λkv=>if kv.1=k then(kv.1,y) else kv) j=(valV kvs j).map λx=>if j=k then y else x
 | []=>rfl
 |p::r=>by
  have O:=valV_map k j y r;rw [uh];by_cases h:p.1=k
  ·rw [A3 h];by_cases e:p.1=j
   ·rw [QO (p:=(p.1,y)) e,QO e,Option.map_some,A3 (e.symm.trans h)]
   ·rw [QG (p:=(p.1,y)) e,QG e,O]
  ·rw [A2 h];by_cases e:p.1=j
   ·rw [QO (p:=p) e,QO e,Option.map_some,A2 (λz=>h (e.trans z))]
   ·rw [QG (p:=p) e,QG e,O]
theorem valV_snoc (k j:κ)(y:V):∀kvs:oj (κ×V),valV kvs k=none->valV (kvs++ [(k,y)]) j=if j=k then some y else valV kvs j
 | [],_=>by
  by_cases e:k=j
  ·rw [A3 e.symm];exact QO (p:=(k,y)) e
  ·rw [A2 (λz=>e z.symm)];exact QG (p:=(k,y)) e
 |p::r,hn=>by
  rw [U8];have O:¬p.1=k:=λz=>by rw [QO z] at hn;cases hn
  rw [QG O] at hn;have U:=valV_snoc k j y r hn;by_cases e:p.1=j
  ·rw [QO e,QO e,A2 (λz=>O (e.trans z))]
  ·rw [QG e,QG e,U]
theorem XE (kvs:oj (κ×V))(k j:κ)(y:V):valV (putK kvs k y) j=if j=k then some y else valV kvs j:=by
 unfold putK;by_cases a:(kvs.any λkv=>decide (kv.1=k))=true
 ·rw [A3 a,valV_map];rw [JJ] at a;by_cases e:j=k
  ·obtain⟨x,O⟩:=Option.isSome_iff_exists.mp a;rw [A3 e,e,O,Option.map_some,A3 rfl]
  ·rw [A2 e];cases valV kvs j with
   |none=>rfl
   |some x=>rw [Option.map_some,A2 e]
 ·rw [A2 a];refine valV_snoc k j y kvs ?_;rw [JJ] at a;cases q:valV kvs k with
  |none=>rfl
  |some x=>rw [q] at a;exact(a rfl).elim
theorem yL (kvs:oj (κ×V))(k:κ)(v:V):(putK kvs k v).length<=kvs.length+1:=by
 unfold putK;split
 ·rw [ua];omega
 ·rw [uA,um,List.length_nil];omega
variable {kvs:oj (κ×V)}
theorem kg {k:κ}(v:V)(h:valV kvs k=none):putK kvs k v=kvs++ [(k,v)]:=by
 unfold putK;rw [JJ,h];exact A2 ()
theorem RelO.isSome_eq {o:om V}{u:om o6}(r:RelO o u):o.isSome=u.isSome:=by
 cases o with
 |none=>cases u with
  |none=>rfl
  |some _=>exact(show False from r).elim
 |some _=>cases u with
  |none=>exact(show False from r).elim
  |some _=>rfl
theorem RelO.getD {o:om V}{u:om o6}{d:V}{d':o6}(r:RelO o u)(rd:RelV d d'):RelV (o.getD d) (u.getD d'):=by
 cases o with
 |none=>cases u with
  |none=>exact rd
  |some _=>exact(show False from r).elim
 |some _=>cases u with
  |none=>exact(show False from r).elim
  |some _=>exact r
variable {vs:oj (κ×o6)}
theorem KV.val (r:KV kvs vs)(k:κ):RelO (valV kvs k) (valueAt vs k):=by
 unfold KV at r
 induction r with
 |nil=>exact True.intro
 | @cons p q ps qs h t ih=>
  obtain⟨h1,h2⟩:=h;by_cases e:p.1=k
  ·have e':q.1=k:=h1.symm.trans e;have b:valueAt (q::qs) k=some q.2:=by simp [valueAt,uY,e']
   rwa [QO e,b]
  ·have e':¬q.1=k:=λz=>e (h1.trans z);have b:valueAt (q::qs) k=valueAt qs k:=by simp [valueAt,uY,e']
   rw [QG e,b];exact ih
theorem KV.any (r:KV kvs vs)(k:κ):(kvs.any λkv=>decide (kv.1=k))=vs.any λkv=>decide (kv.1=k):=by
 unfold KV at r
 induction r with
 |nil=>rfl
 |cons h t O=>rw [Uq,Uq,O,h.1]
variable {y:V}
theorem KV.repl (r:KV kvs vs)(k:κ){u:o6}(O:RelV y u):
  KV (kvs.map λkv=>if kv.1=k then(kv.1,y) else kv) (vs.map λkv=>if kv.1=k then(kv.1,u) else kv):=by
 unfold KV at r⊢
 induction r with
 |nil=>exact .nil
 | @cons p q ps qs h t ih=>
  rw [uh,uh];refine .cons ?_ ih;obtain⟨h1,h2⟩:=h;by_cases e:p.1=k
  ·rw [A3 e,A3 (h1.symm.trans e)];exact⟨h1,O⟩
  ·rw [A2 e,A2 (λz=>e (h1.trans z))];exact⟨h1,h2⟩
theorem KV.put (r:KV kvs vs)(k:κ){u:o6}(O:RelV y u):KV (putK kvs k y) (stored vs k u):=by
 unfold putK stored;rw [r.any k];by_cases e:(vs.any λkv=>decide (kv.1=k))=true
 ·rw [A3 e,A3 e];exact r.repl k O
 ·rw [A2 e,A2 e];exact Paired.snoc r ⟨1,O⟩
theorem KV.drop (r:KV kvs vs)(k:κ):KV (Y5 kvs k) (without vs k):=by
 unfold KV at r⊢;unfold Y5 without
 induction r with
 |nil=>exact .nil
 | @cons p q ps qs h t ih=>
  obtain⟨h1,h2⟩:=h;rw [vq,vq];by_cases e:p.1=k
  ·have a:¬decide (p.1≠k)=true:=by simp [e]
   have b:¬decide (q.1≠k)=true:=by simp [h1.symm.trans e]
   rw [A2 a,A2 b];exact ih
  ·have e':¬q.1=k:=λz=>e (h1.trans z);have a:decide (p.1≠k)=true:=by simp [e]
   have b:decide (q.1≠k)=true:=by simp [e']
   rw [A3 a,A3 b];exact .cons ⟨h1,h2⟩ ih
theorem KV.keys (r:KV kvs vs):kvs.map (·.1)=vs.map (·.1):=by
 unfold KV at r
 induction r with
 |nil=>rfl
 |cons h t O=>rw [uh,uh,O,h.1]
theorem KV.length (r:KV kvs vs):kvs.length=vs.length:=Paired.length r
theorem dropK_le (kvs:oj (κ×V))(k:κ):(Y5 kvs k).length<=kvs.length:=Um _ _
end
variable {w:og}
theorem kV_is {P:o9}{k:Key}{u:o6}(r:RelV (kV k) u):(Qa P w).is k u=true:=by
 cases k with
 |inl i=>obtain⟨t,e⟩:=(show∃t,u=Value.int i t from r);subst e;exact mixKind_int P w i t
 |inr x=>obtain⟨t,e⟩:=(show∃t,u=Value.str x t from r);subst e;exact ZV P w x t
theorem items_are {P:o9}{w:og}:∀{ks:oj Key}{us:oj o6},Vals (ks.map kV) us->ItemsAre (Qa P w) ks us
 | [],_,r=>by rw [U5] at r;cases r;exact .nil
 |k::ks,_,r=>by
  rw [uh] at r;cases r with
  |cons h t=>exact .cons (kV_is h) (items_are t)
noncomputable abbrev KT (H:Hp):oj (oj Key×V)->oj (oj Key×o3×o6)->Prop:=Paired λp q=>p.1=q.1/\H q.2.1=some (.tup (p.1.map kV))/\RelV p.2 q.2.2
variable {H:Hp}
theorem KT.val {kvs:oj (oj Key×V)}{xs:oj (oj Key×o3×o6)}(r:KT H kvs xs)(k:oj Key):RelO (valV kvs k) ((atKey xs k).map (·.2)):=by
 induction r with
 |nil=>exact True.intro
 | @cons p q ps qs h t ih=>
  obtain⟨h1,_,h2⟩:=h;by_cases e:p.1=k
  ·have e':q.1=k:=h1.symm.trans e;have b:atKey (q::qs) k=some q.2:=by simp [atKey,uY,e']
   rwa [QO e,b]
  ·have e':¬q.1=k:=λz=>e (h1.trans z);have b:atKey (q::qs) k=atKey qs k:=by simp [atKey,uY,e']
   rw [QG e,b];exact ih
variable {y:V}
theorem KT.repl {kvs:oj (oj Key×V)}{xs:oj (oj Key×o3×o6)}(r:KT H kvs xs)(k:oj Key){u:o6}(O:RelV y u):
  KT H (kvs.map λkv=>if kv.1=k then(kv.1,y) else kv) (xs.map (putAt k u)):=by
 induction r with
 |nil=>exact .nil
 | @cons p q ps qs h t ih=>
  rw [uh,uh];refine .cons ?_ ih;obtain⟨h1,h2,h3⟩:=h;unfold putAt;by_cases e:p.1=k
  ·rw [A3 e,A3 (h1.symm.trans e)];exact⟨h1,h2,O⟩
  ·rw [A2 e,A2 (λz=>e (h1.trans z))];exact⟨h1,h2,h3⟩
variable {b:o3}
theorem KT.put {kvs:oj (oj Key×V)}{xs:oj (oj Key×o3×o6)}(r:KT H kvs xs)(k:oj Key){u:o6}(U:H b=some (.tup (k.map kV)))(O:RelV y u):
  KT H (putK kvs k y) (storedH xs k b u):=by
 have e:(kvs.any λkv=>decide (kv.1=k))=(atKey xs k).isSome:=by
  rw [JJ,(r.val k).isSome_eq,Option.isSome_map]
 unfold putK storedH;rw [e];by_cases q:(atKey xs k).isSome=true
 ·rw [A3 q,A3 q];exact r.repl k O
 ·rw [A2 q,A2 q];exact Paired.snoc r ⟨1,U,O⟩
variable {H':Hp}
theorem KT.keeps {kvs:oj (oj Key×V)}{xs:oj (oj Key×o3×o6)}(r:KT H kvs xs)(O:∀b ys,H b=some (.tup ys)->H' b=some (.tup ys)):KT H' kvs xs:=
 Paired.mapP r λ_ _ z=>⟨z.1,O _ _ z.2.1,z.2.2⟩
section
variable {P:o9}{w:og}{H:Hp}{h:o8}{a:o3}
theorem rd_of {u:HO}(ok:HOk P w H h)(e:Rd H a u):yg P w H h a u:=e.ok ok
theorem wN {kvs:oj (Key×V)}(ok:HOk P w H h)(e:Rd H a (.dK kvs)):kvs.length<=sizeLine/\(a==sysModules)=false/\∃vs,KV kvs vs/\h.DictOf (Qa P w) a vs:=
 show yg P w H h a (.dK kvs) from rd_of ok e
theorem dk_of {kvs:oj (Key×V)}(ok:HOk P w H h)(e:H a=some (.dK kvs)):kvs.length<=sizeLine/\(a==sysModules)=false/\∃vs,KV kvs vs/\h.DictOf (Qa P w) a vs:=wN ok (.inl e)
theorem key_of {ks:oj Key}(ok:HOk P w H h)(e:H a=some (.tup (ks.map kV))):(tupleKind (Qa P w)).is h ks a:=by
 obtain⟨_,its,r,o,h1,h2,n,h3⟩:=(show yg P w H h a (.tup (ks.map kV)) from ok a _ e)
 exact⟨o,its.toArray,n,h1,h2,h3,by simpa using items_are r⟩
theorem dt_rd {kvs:oj (oj Key×V)}(ok:HOk P w H h)(e:Rd H a (.dT kvs)):kvs.length<=sizeLine/\(a==sysModules)=false/\
  ∃xs,KT H kvs xs/\h.DictOfH (tupleKind (Qa P w)) a xs:=by
 obtain⟨z,y,xs,r,o,es,ep,h1,h2,h3,h4,h5⟩:=(show yg P w H h a (.dT kvs) from rd_of ok e)
 refine⟨z,y,xs,r,o,es,ep,h1,h2,h3,h4,λx O=> ?_,h5⟩;have all:∀{l:oj (oj Key×V)}{m:oj (oj Key×o3×o6)},KT H l m->∀x∈m,(tupleKind (Qa P w)).is h x.1 x.2.1:=by
  intro l m q
  induction q with
  |nil=>intro x O;exact nomatch O
  | @cons p q ps qs hq t ih=>
   intro x O;rcases A5.mp O with e|O
   ·subst e;exact key_of ok (by rw [<-hq.1];exact hq.2.1)
   ·exact ih x O
 exact all r x O
theorem dt_of {kvs:oj (oj Key×V)}(ok:HOk P w H h)(e:H a=some (.dT kvs)):kvs.length<=sizeLine/\(a==sysModules)=false/\
  ∃xs,KT H kvs xs/\h.DictOfH (tupleKind (Qa P w)) a xs:=dt_rd ok (.inl e)
end
noncomputable def DGet (H:Hp)(a:o3)(y:V)(r:om V):Prop:=
 (∃kvs k,Rd H a (.dK kvs)/\y=kV k/\r=valV kvs k)∨∃kvs k b,Rd H a (.dT kvs)/\y= .ref b/\H b=some (.tup (k.map kV))/\r=valV kvs k
noncomputable def DPut (H:Hp)(a:o3)(y v:V)(H':Hp):Prop:=
 (∃kvs k,H a=some (.dK kvs)/\y=kV k/\kvs.length<sizeLine/\H'=upd H a (.dK (putK kvs k v)))∨
 ∃kvs k b,H a=some (.dT kvs)/\y= .ref b/\H b=some (.tup (k.map kV))/\kvs.length<sizeLine/\H'=upd H a (.dT (putK kvs k v))
theorem DGet.k {H:Hp}{a:o3}{kvs:oj (Key×V)}{k:Key}(e:H a=some (.dK kvs)):DGet H a (kV k) (valV kvs k):= .inl ⟨kvs,k,.inl e,1,1⟩
theorem DPut.k {H:Hp}{a:o3}{kvs:oj (Key×V)}{k:Key}{v:V}(e:H a=some (.dK kvs))(O:kvs.length<sizeLine):DPut H a (kV k) v (upd H a (.dK (putK kvs k v))):= .inl ⟨kvs,k,e,1,O,1⟩
section
variable {X:Cx}{oq:oj (o3×Obj)}{σ:St}{H:Hp}{s:o7}{a:o3}{y v:V}{u r:o6}{o:om V}{A:oh}{E:o6->o7->Prop}
theorem Inv.big (I:Inv X oq σ H s):sysModules<s.heap.objs.size:=by
 have h:mainGlobals<s.heap.objs.size:=(I.mod.glob.keeps I.bk).lt;exact Nat.lt_trans () h
theorem d_getItem {Q:o6->o7->Prop}(hu:A.units+1<cLine)(I:Inv X oq σ H s)(g:DGet H a y (some v))(ry:RelV y u)(h:∀U s',Inv X oq σ H s'->RelV v U->Q U s'):
  wpAny #[X,X] A (getItem (.ref a) u) Q E s:=by
 rcases g with⟨kvs,k,e,Z,l⟩|⟨kvs,k,b,e,Z,eb,l⟩
 ·subst Z;obtain⟨z,hd,vs,rel,dd⟩:=wN I.hok e;obtain⟨U,hw,O⟩:=RelO.some_of (v:=v) (o:=valueAt vs k) (by rw [l];exact rel.val k)
  exact wpAny_getItem_of (kV_is ry) dd.mapOf hw (h U _ (I.tok _) O)
 ·subst Z;cases(show u=Value.ref b from ry)
  obtain⟨z,hd,xs,rel,dd⟩:=dt_rd I.hok e;obtain⟨U,hw,O⟩:=RelO.some_of (v:=v) (o:=(atKey xs k).map (·.2)) (by rw [l];exact rel.val k)
  obtain⟨p,hp,aa⟩:=Option.map_eq_some_iff.mp hw;refine wpAny_getItem_heap (UF hu) (key_of I.hok eb) dd hp ?_;rw [aa];exact h U _ (I.tok _) O
theorem d_in {Q:o6->o7->Prop}(Z:A.units+1<cLine)(I:Inv X oq σ H s)(g:DGet H a y o)(U:RelV y u)(h:∀s',Inv X oq σ H s'->Q (.bool o.isSome) s'):
  wpAny #[X,X] A (compareOp .In u (.ref a)) Q E s:=by
 rcases g with⟨kvs,k,e,O,l⟩|⟨kvs,k,b,e,O,eb,l⟩
 ·subst O;obtain⟨z,hd,vs,rel,dd⟩:=wN I.hok e;refine wpAny_in_of (kV_is U) hd dd.mapOf ?_;rw [<-(rel.val k).isSome_eq,<-l];exact h _ (I.tok _)
 ·subst O;cases(show u=Value.ref b from U)
  obtain⟨z,hd,xs,rel,dd⟩:=dt_rd I.hok e;refine wpAny_in_heap (UF Z) (key_of I.hok eb) hd dd ?_;have q:=(rel.val k).isSome_eq;rw [Option.isSome_map] at q;rw [<-q,<-l];exact h _ (I.tok _)
variable {h':o8}{t':Nat}
theorem d_write {ob:HO}(I:Inv X oq σ H s)(mu:Mut (H a))(O:Heap.SameBut a s.heap h')(U:∃q,h'.get? a=some q)(new:yg X.prog X.w (upd H a ob) h' a ob)(ht:0<t':=by ac_rfl):
  Inv X oq σ (upd H a ob) {s with heap:=h',toks:=t'}:=
 I.write (x:=a) (e:=a) mu (.inl rfl) (λb q Z z=>(O.2 b Z).trans z) U new
theorem dk_new {P:o9}{kvs:oj (Key×V)}{vs:oj (Key×o6)}(z:kvs.length<=sizeLine)(hd:(a==sysModules)=false)(rel:KV kvs vs)(dd:h'.DictOf (Qa P w) a vs):
  yg P w H' h' a (.dK kvs):=⟨z,hd,vs,rel,dd⟩
theorem d_setItem {Q:Unit->o7->Prop}(hu:A.units+1<cLine)(I:Inv X oq σ H s)(g:DPut H a y v H')(ry:RelV y u)(rv:RelV v r)(h:∀s',Inv X oq σ H' s'->Q Unit.unit s'):
  wpAny #[X,X] A (setItem (.ref a) u r) Q E s:=by
 rcases g with⟨kvs,k,e,Z,l,eH⟩|⟨kvs,k,b,e,Z,eb,l,eH⟩
 ·subst Z eH;obtain⟨z,hd,vs,rel,dd⟩:=dk_of I.hok e;have hz:vs.length<=sizeLine:=by rwa [<-rel.length]
  have hl:(putK kvs k v).length<=sizeLine:=by have:=yL kvs k v;omega
  refine wpAny_setItem_pairs (hsz:=hz) (kV_is ry) dd λh' O hs=>h _ ?_;have he:∃q,h'.get? a=some q:=let⟨q,_,_,U,_⟩:=O;⟨q,U⟩;exact d_write I (by rw [e];exact True.intro) hs he (dk_new hl hd (rel.put k rv) O)
 ·subst Z eH;cases(show u=Value.ref b from ry)
  obtain⟨z,hd,xs,rel,dd⟩:=dt_of I.hok e;have hz:xs.length<=sizeLine:=by rwa [<-Paired.length rel]
  have hl:(putK kvs k v).length<=sizeLine:=by have:=yL kvs k v;omega
  refine wpAny_setItem_heap (hsz:=hz) (UF hu) (key_of I.hok eb) dd λh' O hs=>h _ ?_;obtain⟨q,es,ep,U,h2,h3,h4,_,h5⟩:=O;refine d_write I (by rw [e];exact True.intro) hs ⟨q,U⟩ ⟨hl,hd,_,(rel.put k eb rv).keeps λc ys ec=> ?_,q,es,ep,U,h2,h3,h4,h5⟩
  rw [qh (ne_of ec e (λz=>nomatch z))];exact ec
end
section
variable {X:Cx}{oq:oj (o3×Obj)}{σ:St}{H:Hp}{s:o7}{a:o3}{kvs:oj (Key×V)}{k:Key}{u:o6}{A:oh}{E:o6->o7->Prop}
theorem d_pop {v:V}{more:oj o6}{Q:o6->o7->Prop}(I:Inv X oq σ H s)(e:H a=some (.dK kvs))(Z:RelV (kV k) u)(l:valV kvs k=some v)(hm:more= []∨∃x,more= [x])
  (h:∀O s',Inv X oq σ (upd H a (.dK (Y5 kvs k))) s'->RelV v O->Q O s'):wpAny #[X,X] A (call (.builtin "dict.pop") (.ref a::u::more)) Q E s:=by
 obtain⟨z,hd,vs,rel,dd⟩:=dk_of I.hok e;obtain⟨O,hw,aa⟩:=RelO.some_of (v:=v) (o:=valueAt vs k) (by rw [<-l];exact rel.val k)
 have hp:(keyPart u).isSome=true:=by
  cases k with
  |inl i=>obtain⟨t,q⟩:=(show∃t,u=Value.int i t from Z);subst q;rfl
  |inr x=>obtain⟨t,q⟩:=(show∃t,u=Value.str x t from Z);subst q;rfl
 have ha:argsOk "dict.pop" ⟨.ref a::u::more,[]⟩:=by
  rcases hm with q|⟨x,q⟩
  ·subst q;exact PySem.F.args_dict_pop_2 _ _
  ·subst q;exact PySem.F.args_dict_pop_3 _ _ _
 refine call_meetsIn Uo dd.typeIs PySem.F.entry_dict_pop ha (meets_dict_pop_there (Qa X.prog X.w) a (kV_is Z) more hm hp)
  ⟨vs,O,dd,by rwa [<-rel.length],hw,λh' U hs=>h O _ ?_ aa⟩
 have he:∃q,h'.get? a=some q:=let⟨q,_,_,hq,_⟩:=U;⟨q,hq⟩;exact d_write I (by rw [e];exact True.intro) hs he (dk_new (uL (dropK_le kvs k) z) hd (rel.drop k) U)
theorem d_popD {r:o6}{Q:o6->o7->Prop}(I:Inv X oq σ H s)(e:H a=some (.dK kvs))(O:RelV (kV k) u)(l:valV kvs k=none)(h:∀s',Inv X oq σ H s'->Q r s'):
  wpAny #[X,X] A (call (.builtin "dict.pop") [.ref a,u,r]) Q E s:=by
 obtain⟨z,hd,vs,rel,dd⟩:=dk_of I.hok e;have hn:valueAt vs k=none:=RelO.kf (by rw [<-l];exact rel.val k)
 have U:(keyPart u).isSome=true:=by
  cases k with
  |inl i=>obtain⟨t,q⟩:=(show∃t,u=Value.int i t from O);subst q;rfl
  |inr x=>obtain⟨t,q⟩:=(show∃t,u=Value.str x t from O);subst q;rfl
 exact call_meetsIn Uo dd.typeIs PySem.F.entry_dict_pop (PySem.F.args_dict_pop_3 _ _ _) (meets_dict_pop_default (Qa X.prog X.w) a (kV_is O) hd U r) ⟨vs,dd,hn,h _ (I.tok _)⟩
theorem d_len {Q:o6->o7->Prop}(I:Inv X oq σ H s)(e:Rd H a (.dK kvs))(h:∀t s',Inv X oq σ H s'->Q (.int kvs.length t) s'):wpAny #[X,X] A (call (.builtin "len") [.ref a]) Q E s:=by
 obtain⟨z,hd,vs,rel,dd⟩:=wN I.hok e;refine call_len_dict hd dd (by rw [<-rel.length];rw [uE] at z;omega) ?_
 rw [<-rel.length];exact h _ _ (I.tok _)
end
noncomputable def NoSl (i:Expr):Prop:=∀ov iv,subscripted i false ov iv=operate [ov,iv] (getItem ov iv)
theorem subD_of {prog:o9}{w:og}{A:oh}{E:o6->o7->Prop}{s:o7}{env:Env}{value slice:Expr}{pos:Pos}{T id:String}{Q:o6->o7->Prop}
  (hl:typeLookup (.type T) "__getitem__"=pure (some (.builtin id))) (hs:NoSl slice)
  (h:wpAny #[w,w] A (eval value env) (λo Z=>wpAny #[w,w] A (eval slice env) (λi O=>O.TypeIs o T/\wpAny #[w,w] A (getItem o i) Q E O) E Z) E s):
  wpAny #[w,w] A (eval (.Subscript value slice pos) env) Q E s:=by
 refine Subscript_ (vM h (λo Z h₁=>vM h₁ (λi O U=> ?_) λ_ _ x=>x) λ_ _ x=>x);obtain⟨hT,U⟩:=U;unfold subscriptTail;refine A4 ?_;rw [getitemInPython_of_ne hT.not_modules];refine A4 (wpAny_specialOf hT hl ?_);have fin:wpAny #[w,w] A (subscripted slice false o i) (λr s₃=>wpAny #[w,w] A (letTemporaryGo value o r>>=λ_=>pure r) Q E s₃) E O:=by
  rw [hs o i];exact wpAny_operating (vM U (λr s₃ h₃=>A4 (wpAny_letTemporaryGo (uB h₃))) λ_ _ x=>x)
 first
  |exact uB (A4 fin)
  |exact A4 (uB (A4 fin))
  |exact A4 fin
variable {X:Cx}{oq:oj (o3×Obj)}{σ:St}{s:o7}{a:o3}
theorem dict_typeIs {o:om V}(I:Inv X oq σ H s)(g:DGet H a y o):s.TypeIs (.ref a) "dict":=by
 rcases g with⟨kvs,k,e,_,_⟩|⟨kvs,k,b,e,_,_,_⟩
 ·obtain⟨_,_,vs,_,dd⟩:=wN I.hok e;exact dd.typeIs
 ·obtain⟨_,_,xs,_,dd⟩:=dt_rd I.hok e;exact dd.typeIs
theorem dict_noDict {o:om V}(I:Inv X oq σ H s)(g:DGet H a y o):
  ∀b,Value.ref a= .ref b->∃ob,s.heap.get? b=some ob/\ob.dict=none:=λb q=>by
 cases q;rcases g with⟨kvs,k,e,_,_⟩|⟨kvs,k,b,e,_,_,_⟩
 ·obtain⟨_,_,vs,_,ob,_,_,h1,h2,_⟩:=wN I.hok e;exact⟨ob,h1,h2.2.1⟩
 ·obtain⟨_,_,xs,_,ob,_,_,h1,h2,_⟩:=dt_rd I.hok e;exact⟨ob,h1,h2.2.1⟩
inductive ItDGet (Q:VK) (x:V) (y:V) (H2:Hp):Prop
 |mk (a:_) (v:_) (_:x= .ref a) (_:DGet H2 a y (some v)) (_:Q v H2)
noncomputable def tDGet (td ty:TE):TE:=λσ H Q=>td σ H λx H1=>ty σ H1 λy H2=>ItDGet Q x y H2
inductive ItDIn (Q:VK) (y:V) (x:V) (H2:Hp):Prop
 |mk (a:_) (o:_) (_:x= .ref a) (_:DGet H2 a y o) (_:Q (.bl o.isSome) H2)
noncomputable def tDIn (ty td:TE):TE:=λσ H Q=>ty σ H λy H1=>td σ H1 λx H2=>ItDIn Q y x H2
inductive IsDPut (D:Ends) (σ:St) (v:V) (x:V) (y:V) (H3:Hp):Prop
 |mk (a:_) (H4:_) (_:x= .ref a) (_:DPut H3 a y v H4) (_:D.nx σ H4)
noncomputable def sDPut (td ty tv:TE):TS:=λD σ H=>tv σ H λv H1=>td σ H1 λx H2=>ty σ H2 λy H3=>IsDPut D σ v x y H3
section
variable {X:Cx}{o i e value:Expr}{pos pos' tpos:Pos}{td ty tv:TE}
theorem QE (Z:X.A.units+1<cLine)(ho:PE X o td)(hi:PE X i ty)(hs:NoSl i):PE X (.Subscript o i pos) (tDGet td ty):=by
 intro oq s σ H Q I h;refine subD_of PySem.F.slot_dict_getitem.lookup hs (thn (ho oq s σ H _ I h) λu s1 ⟨x,H1,I1,rx,q1⟩=>thn (hi oq s1 σ H1 _ I1 q1) λiv s2 ⟨y,H2,U,ry,a,v,ex,g,q2⟩=> ?_);subst ex;obtain rfl:u=Value.ref a:=rx;exact⟨dict_typeIs U g,d_getItem Z U g ry λw' s3 I3 O=>⟨v,H2,I3,O,q2⟩⟩
theorem pc_din (O:X.A.units+1<cLine)(hi:PE X i ty)(U:PE X o td):PC X .In i o (tDIn ty td):=by
 intro oq s σ H Q I h;refine thn (hi oq s σ H _ I h) λiv s1 ⟨y,H1,Z,ry,q1⟩=>thn (U oq s1 σ H1 _ Z q1) λu s2 ⟨x,H2,I2,rx,a,ov,ex,g,q2⟩=> ?_;subst ex;obtain rfl:u=Value.ref a:=rx;exact d_in O I2 g ry λs3 I3=>⟨.bl ov.isSome,H2,I3,1,q2⟩
theorem Jb (O:X.A.units+1<cLine)(U:PE X o td)(hi:PE X i ty)(Z:PE X value tv)(hs:swapsWith value (some (.Subscript o i pos')) pos.line X.env=pure false):
  PS X (.Assign [.Subscript o i pos'] value pos) (sDPut td ty tv):=by
 intro oq s σ H D I h;refine wpAny_Assign_Subscript (thn (Z oq s σ H _ I h) λr s1 ⟨v,H1,I1,rv,q1⟩=>thn (U oq s1 σ H1 _ I1 q1) λu s2 ⟨x,H2,I2,rx,q2⟩=>thn (hi oq s2 σ H2 _ I2 q2) λiv s3 ⟨y,H3,I3,ry,a,H4,ex,g,q3⟩=> ?_) hs;subst ex;obtain rfl:u=Value.ref a:=rx;exact d_setItem O I3 g ry rv λs4 I4=>⟨σ,H4,I4,q3⟩
end
theorem dk_empty {P:o9}(h:o8)(O:sysModules<h.objs.size):yg P w H (h.push {cls:= .type "dict",data:= .dict #[]}) h.objs.size (.dK []):=
 ⟨v7 _,beq_eq_false_iff_ne.mpr (Uu (uP O)),[],.nil,Heap.DictOf.new h⟩
noncomputable def tDNewK:TE:=λ_ H Q=>∀p,H p=none->Q (.ref p) (upd H p (.dK []))
section
variable {X:Cx}{pos:Pos}
theorem Zo:PE X (.Dict [] [] pos) tDNewK:=λoq s σ H Q I h=>
 wpAny_Dict_empty ⟨.ref s.heap.objs.size,_,I.laid (a:=s.heap.objs.size) (o:= .dK []) (t':=s.toks) (λ_ _ q=>ud _ q) (ui _) (dk_empty s.heap I.big),1,h _ (I.hok.fresh (ui _))⟩
end
structure M1 (X:Cx)(o:Expr)(m:Str)(apos:Pos)(e:Expr)(cpos:Pos):Prop where
 base:attributeBase o m X.env (eval o X.env)=eval o X.env
 few:((backTo cpos (starEach [e] X.env)).all (λx=> !x.1)&&(backToKw cpos (keywordEach [] X.env)).all (λx=>x.1.isSome)
  &&decide (([e]:oj Expr).length+([]:oj Keyword).length+(if([]:oj Keyword).isEmpty then 0 else 1)<30))=true
 line:(apos.endLine==cpos.line)=true
 trees:backTo cpos (starEach [e] X.env)= [(false,eval e X.env)]
structure M2 (X:Cx)(o:Expr)(m:Str)(apos:Pos)(e f:Expr)(cpos:Pos):Prop where
 base:attributeBase o m X.env (eval o X.env)=eval o X.env
 few:((backTo cpos (starEach [e,f] X.env)).all (λx=> !x.1)&&(backToKw cpos (keywordEach [] X.env)).all (λx=>x.1.isSome)
  &&decide (([e,f]:oj Expr).length+([]:oj Keyword).length+(if([]:oj Keyword).isEmpty then 0 else 1)<30))=true
 line:(apos.endLine==cpos.line)=true
 trees:backTo cpos (starEach [e,f] X.env)= [(false,eval e X.env),(false,eval f X.env)]
noncomputable def IsD (H:Hp)(a:o3):Prop:=(∃kvs,Rd H a (.dK kvs))∨∃kvs,Rd H a (.dT kvs)
theorem isD_at (I:Inv X oq σ H s)(d:IsD H a):
  s.TypeIs (.ref a) "dict"/\(∀b,Value.ref a= .ref b->∃ob,s.heap.get? b=some ob/\ob.dict=none)/\(a==sysModules)=false:=by
 rcases d with⟨kvs,e⟩|⟨kvs,e⟩
 ·obtain⟨_,hd,vs,_,dd⟩:=wN I.hok e;refine⟨dd.typeIs,λb q=> ?_,hd⟩;cases q;obtain⟨ob,_,_,h1,h2,_⟩:=dd;exact⟨ob,h1,h2.2.1⟩
 ·obtain⟨_,hd,xs,_,dd⟩:=dt_rd I.hok e;refine⟨dd.typeIs,λb q=> ?_,hd⟩;cases q;obtain⟨ob,_,_,h1,h2,_⟩:=dd;exact⟨ob,h1,h2.2.1⟩
section
variable {X:Cx}{oq:oj (o3×Obj)}{σ:St}{H:Hp}{s:o7}{a:o3}{y d:V}{u r:o6}{o:om V}{A:oh}{E:o6->o7->Prop}
theorem d_get1 {Q:o6->o7->Prop}(hu:A.units+1<cLine)(I:Inv X oq σ H s)(g:DGet H a y o)(U:RelV y u)(h:∀Z s',Inv X oq σ H s'->RelV (o.getD .non) Z->Q Z s'):
  wpAny #[X,X] A (call (.builtin "dict.get") [.ref a,u]) Q E s:=by
 rcases g with⟨kvs,k,e,O,l⟩|⟨kvs,k,b,e,O,eb,l⟩
 ·subst O;obtain⟨z,hd,vs,rel,dd⟩:=wN I.hok e;refine call_meetsIn PySem.F.slot_dict_get dd.typeIs PySem.F.entry_dict_get (PySem.F.args_dict_get_2 _ _) (meets_dict_get (Qa X.prog X.w) a (kV_is U) hd) ⟨_,dd.mapOf,h _ _ (I.tok _) ?_⟩;rw [l];exact(rel.val k).getD rfl
 ·subst O;cases(show u=Value.ref b from U)
  obtain⟨z,hd,xs,rel,dd⟩:=dt_rd I.hok e;refine call_meetsIn PySem.F.slot_dict_get dd.typeIs PySem.F.entry_dict_get (PySem.F.args_dict_get_2 _ _) (meetsH_dict_get (tupleKind (Qa X.prog X.w)) a b hd) ⟨UF hu,k,xs,key_of I.hok eb,dd,h _ _ (I.tok _) ?_⟩;rw [l];exact(rel.val k).getD rfl
end
inductive ItDGet1 (ty:TE) (σ:St) (Q:VK) (x:V) (H1:Hp):Prop
 |mk (a:_) (_:x= .ref a) (_:IsD H1 a) (_:ty σ H1 λy H2=>∃o,DGet H2 a y o/\Q (o.getD .non) H2)
noncomputable def tDGet1 (td ty:TE):TE:=λσ H Q=>td σ H λx H1=>ItDGet1 ty σ Q x H1
inductive ItDPop1 (ty:TE) (σ:St) (Q:VK) (x:V) (H1:Hp):Prop
 |mk (a:_) (_:x= .ref a) (_:IsD H1 a) (_:ty σ H1 λy H2=>∃kvs k v,H2 a=some (.dK kvs)/\y=kV k/\valV kvs k=some v/\Q v (upd H2 a (.dK (Y5 kvs k))))
noncomputable def tDPop1 (td ty:TE):TE:=λσ H Q=>td σ H λx H1=>ItDPop1 ty σ Q x H1
inductive ItDPop2 (ty tx:TE) (σ:St) (Q:VK) (x:V) (H1:Hp):Prop
 |mk (a:_) (_:x= .ref a) (_:IsD H1 a) (_:ty σ H1 λy H2=>tx σ H2 λz H3=>∃kvs k,H3 a=some (.dK kvs)/\y=kV k/\(∀v,valV kvs k=some v->Q v (upd H3 a (.dK (Y5 kvs k))))/\(valV kvs k=none->Q z H3))
noncomputable def tDPop2 (td ty tx:TE):TE:=λσ H Q=>td σ H λx H1=>ItDPop2 ty tx σ Q x H1
section
variable {X:Cx}{o e f:Expr}{apos cpos:Pos}{td ty tx:TE}
theorem pe_dget1 (Z:X.A.units+1<cLine)(ho:PE X o td)(he:PE X e ty)(m:M1 X o "get" apos e cpos):PE X (.Call (.Attribute o "get" apos) [e] [] cpos) (tDGet1 td ty):=by
 intro oq s σ H Q I h;refine wpAny_Call_method m.base m.few m.line U6 PySem.F.slot_dict_get PySem.F.type_dict_get (thn (ho oq s σ H _ I h) λu s1 ⟨x,H1,U,rx,a,ex,d,q1⟩=> ?_);subst ex;obtain rfl:u=Value.ref a:=rx;obtain⟨t1,t2,_⟩:=isD_at U d;exists t1,t2;rw [m.trees];refine vG rfl (U1 (vW (thn (he oq s1 σ H1 _ U q1) λiv s2 ⟨y,H2,I2,ry,ov,g,q2⟩=>Up ?_)));exact d_get1 Z I2 g ry λw' s3 I3 O=>⟨_,H2,I3,O,q2⟩
theorem pe_dpop1 (Z:PE X o td)(he:PE X e ty)(m:M1 X o "pop" apos e cpos):PE X (.Call (.Attribute o "pop" apos) [e] [] cpos) (tDPop1 td ty):=by
 intro oq s σ H Q I h;refine wpAny_Call_method m.base m.few m.line U6 Uo PySem.F.type_dict_pop (thn (Z oq s σ H _ I h) λu s1 ⟨x,H1,U,rx,a,ex,d,q1⟩=> ?_);subst ex;obtain rfl:u=Value.ref a:=rx;obtain⟨t1,t2,_⟩:=isD_at U d;exists t1,t2;rw [m.trees];refine vG rfl (U1 (vW (thn (he oq s1 σ H1 _ U q1) λiv s2 ⟨y,H2,I2,ry,kvs,k,v,ea,ey,l,q2⟩=>Up ?_)));subst ey;exact d_pop I2 ea ry l (.inl rfl) λw' s3 I3 O=>⟨v,_,I3,O,q2⟩
theorem pe_dpop2 (ho:PE X o td)(he:PE X e ty)(hf:PE X f tx)(m:M2 X o "pop" apos e f cpos):PE X (.Call (.Attribute o "pop" apos) [e,f] [] cpos) (tDPop2 td ty tx):=by
 intro oq s σ H Q I h;refine wpAny_Call_method m.base m.few m.line U6 Uo PySem.F.type_dict_pop (thn (ho oq s σ H _ I h) λu s1 ⟨x,H1,Z,rx,a,ex,d,q1⟩=> ?_);subst ex;obtain rfl:u=Value.ref a:=rx;obtain⟨t1,t2,_⟩:=isD_at Z d;exists t1,t2;rw [m.trees];refine vG rfl (U1 (vW (thn (he oq s1 σ H1 _ Z q1) λiv s2 ⟨y,H2,I2,ry,q2⟩=>
  vW (thn (hf oq s2 σ H2 _ I2 q2) λfv s3 ⟨z,H3,I3,rz,kvs,k,ea,ey,q3,q4⟩=>Up ?_))))
 subst ey;cases l:valV kvs k with
 |some v=>exact d_pop I3 ea ry l (.inr ⟨fv,1⟩) λw' s4 O U=>⟨v,_,O,U,q3 v l⟩
 |none=>exact d_popD I3 ea ry l λs4 O=>⟨z,H3,O,rz,q4 l⟩
end
end L2
namespace Att
open PySem PySem.W PySem.Calls PyProof.Rows
variable {h:o8}
theorem wb {P:Params}:∀(ns:oj Int) (vs:oj o6),WellAll P h vs (ns.map WData.int)->IntsAre vs ns:=by
 intro ns
 induction ns with
 |nil=>
  intro vs w;rw [U5] at w;cases w;exact .nil
 |cons n ns O=>
  intro vs w;rw [uh] at w;cases w with
  |cons a b=>
   cases a;exact .cons _ _ (O _ b)
theorem script_of {l:OpenLaw}{n:Nat}(hn:l.most=some n){P:Params}{h:o8}{args:oj WData}{O:oj o6}
  (U:l.row.toRowW.claim.pre args=true) (ac:WellAll P h O args):
  ∃a vs ns,O= [Value.ref a]/\args= [WData.list (ns.map WData.int)]/\h.get? a=some {cls:= .type "list",data:= .seq vs.toArray}/\IntsAre vs ns/\ns.length<=n:=by
 have ad:WShape.hasAll [] args [.list .int]=true:=(pre_splitW U).1;have hc:l.pre.holds [] {args:=args}=true:=(pre_splitW U).2;obtain⟨d,r,rfl,h1,h2⟩:=hasAllW_cons ad;obtain rfl:=hasAllW_nil h2;obtain⟨xs,rfl,h3⟩:=hasW_list h1;obtain⟨ns,rfl⟩:=items_int h3;have Z:ns.length<=n:=by
  unfold OpenLaw.pre at hc;have h4:(WTm.not (.lt (.lit (.int (n:Int))) (.len (.arg 0)))).holds [] {args:= [.list (ns.map .int)]}=true:=by
   have h4:=(holds_andW hc).1;rwa [hn] at h4
  have h5:=condW_of h4 (w_not (w_lt w_lit (w_len_list (w_arg rfl))));rw [ua] at h5;refine Nat.le_of_not_lt λq=> ?_;have q':(n:Int)<((ns.length:Nat):Int):=by omega
  first
   |(rw [ue q'] at h5;exact absurd h5 ())
   |(simp at h5;omega)
 cases ac with
 |cons w1 w2=>
  cases w2;cases w1 with
  |list ho aa=>exact⟨_,_,ns,1,1,ho,wb ns _ aa,Z⟩
theorem post_true (l:OpenLaw)(args:oj WData):l.row.toRowW.claim.post args (.bool true) args=true:=
 postW_of (r:=l.row.toRowW) (X:=(true==true))
  (show WShape.has [] (.bool true) .bool=true by first|rfl|decide|simp [WShape.has,WShape.arms,WShape.armsAll])
  (show(WTm.eq .res (.lit (.bool true))).value [] {args:=args,res:=some (.bool true),after:=args}=some (.bool (true==true)) from w_eq_bool (w_res rfl) w_lit) rfl
theorem attach_call {l:OpenLaw}{n:Nat}{q:o9}{O:oj Str}{XP:(Str->om o6)->o8->Prop}{YP:og->o8->Prop}{d:DefRec}
  (hn:l.most=some n) (ad:d.params.defaults= [])
  (call:∀(w:og) (s₀ U:o7) (mg mb:Str->om o6) (fa:o3) (o:Obj) (pm cd doc:o6) (a:o3) (vs:oj o6) (ns:oj Int),
   Ground q O [] XP w s₀ mg mb U.heap->YP w U.heap->
   U.heap.get? fa=some o->o.data= .func (docDef d.name d.params d.body d.scope pm cd doc)->U.heap.CodeRec cd d.name->mg d.name=some (.ref fa)->
   U.heap.get? a=some {cls:= .type "list",data:= .seq vs.toArray}->IntsAre vs ns->ns.length<=n->U.gens= #[]->
   codeAny (model l.prog w) callerA (.call (.ref fa) ⟨[.ref a],[]⟩) (λr s'=>r= .ok (.ret (.bool true))/\OldK U.heap s'.heap/\s'.os=U.os/\AllBare s'.gens) U):
  WalkO q O XP YP l.row.toRowW d [] (λf vs=>PySem.call f vs):=by
 intro w s₀ U mg mb G Y fa o pm cd doc dV kV ho hd ae hD af hg args ag as hpre hlay hrd hwl hlo;obtain rfl:dV= .none:=Dflts.none hD ad;obtain rfl:kV= .none:=Dflts.noKw hD;obtain⟨a,vs,ns,rfl,rfl,aa,Z,ac⟩:=script_of hn hpre hwl;refine enter_call (codeAny_mono (call w s₀ U mg mb fa o pm cd doc a vs ns G Y ho (fd_plain hd) ae af aa Z ac hg) λr s' hq=> ?_);obtain⟨rfl,h2,h3,h4⟩:=hq;exact⟨.inl ⟨.bool true,.bool true,[],1,λ_=>rfl,.bool true,post_true l _,λ_=>⟨List.Pairwise.nil,λ_ hm=>(nomatch hm)⟩⟩,h2,h3,h4⟩
end Att
namespace L2
open PySem PySem.Spec PyProof.Rows
theorem vals_ints:∀{vs:oj o6}{ns:oj Int},IntsAre vs ns->Vals (ns.map V.int) vs
 |_,_,.nil=> .nil
 |_,_,.cons n t h=> .cons ⟨t,1⟩ (vals_ints h)
noncomputable def Only (H:Hp):Prop:=∀b,H b=none∨∃o xs,H b=some (.frz o (.lst xs))
theorem law_call {P:o9}{w:og}{K:o0}{mg mb:Str->om o6}{CX:CXT}{k:Nat}{fa a:o3}{fd:FuncData}{x:Str}{sp:Sp}{O:o7}{vs:oj o6}{ns:oj Int}
  (KX:K.In O.heap) (ae:O.heap.Ns mainGlobals mg) (Z:O.heap.Ns builtinsNs mb) (am:∀x:Str,x≠"__name__"->mb x=bootBuiltins x) (af:O.heap.NoLimit) (hg:O.gens= #[])
  (ha:O.heap.get? a=some {cls:= .type "list",data:= .seq vs.toArray}) (hi:IntsAre vs ns) (hl:ns.length<=sizeLine) (hr:Room k callerA)
  (F:∀base:o8,K.In base->base.Ns mainGlobals mg->FnOk P w K mg base CX k fa fd [x] sp) (ad:∀(s:o7) (u:o6),BindsTo s fd ⟨[u],[]⟩ [(x,u)])
  (ag:fd.scope.names.lookup x=some .local) (ao:∀H:Hp,Only H->SqL K H a (ns.map V.int)->sp [.ref a] H (λv _=>v= .bl true) λ_ _ _=>False)
  (ap:∀H e s',CX [] H O (λ_ _ _=>False) e s'->False):
  codeAny (model P w) callerA (.call (.ref fa) ⟨[.ref a],[]⟩) (λr s'=>r= .ok (.ret (.bool true))/\OldK O.heap s'.heap/\s'.os=O.os/\AllBare s'.gens) O:=by
 have rv:=vals_ints hi;have ah:=hi.length;have ac:∀H:Hp,Only H->SqL K H a (ns.map V.int)->HOk P w H O.heap->(∀b,H b≠none->b=a)->(H a≠none->K.lookup a=none)->
   codeAny (model P w) callerA (.call (.ref fa) ⟨[.ref a],[]⟩) (λr s'=>r= .ok (.ret (.bool true))/\OldK O.heap s'.heap/\s'.os=O.os/\AllBare s'.gens) O:=by
  intro H hO hS hok hA hK;have U:∀{b:o3}{o:Obj},O.heap.get? b=some o->H b=none->(hidT O.heap H).get? b=some o:=λe n=>hidT_get e n;have aq:∀{b:o3}{o:Obj}{es:Array DictEntry}{ep:Nat},O.heap.get? b=some o->o.data= .dict es ep->H b=none:=λ{b o es ep} e d=>by
   cases q:H b with
   |none=>rfl
   |some u=>
    have e':b=a:=hA b (by rw [q];simp)
    subst e';rw [ha] at e;cases e;have d':Data.seq vs.toArray _=Data.dict es ep:=d;cases d'
  have aa:∀{b:o3}{m:Str->om o6},O.heap.Ns b m->(hidT O.heap H).Ns b m:=λ{b m} ⟨o,es,ep,e,d,r⟩=>⟨o,es,ep,U e (aq e d),d,r⟩;have ak:K.In (hidT O.heap H):=λb o e=>U (KX b o e) (by
   cases q:H b with
   |none=>rfl
   |some u=>
    have e':b=a:=hA b (by rw [q];simp)
    subst e';rw [hK (by rw [q];simp)] at e;cases e)
  have hM:Mod K mg (hidT O.heap H):=⟨ak,aa ae,⟨mb,aa Z,am⟩,let⟨mc,h1,h2⟩:=af;⟨mc,aa h1,h2⟩⟩;have e0:Env0 P w K mg (hidT O.heap H) callerA [] O H:=⟨1,hM,λb o e=>of_hidT e,Nat.le_of_eq (hidT_size _ _),trivial,λb Z=>absurd (show b∈([]:oj o3) from Z) (by simp),hok,.of_eq hg⟩
  refine codeAny_mono ((F _ ak (aa ae)).run callerA [] O H ⟨[.ref a],[]⟩ [.ref a] [.ref a] _ _ hr e0 (ad O (.ref a)) (.cons rfl .nil) (ao H hO hS) (.inr ⟨_,0,ag⟩)) λr s' h=> ?_;cases r with
  |error e=>exact(ap H e s' h).elim
  |ok fl=>
   cases fl with
   |next=>exact False.elim h
   |brk=>exact False.elim h
   |cont=>exact False.elim h
   |ret u=>
    obtain⟨v,H',os,bare,htk,un,al,r',q⟩:=h;have q':v= .bl true:=q;subst q';obtain rfl:u=Value.bool true:=r';refine⟨1,OldK.of_keep λb o e=> ?_,os,bare⟩;cases q:H b with
    |none=>exact un.keep b o e q (by intro z;exact absurd (show b∈([]:oj o3) from z) (by simp)) (by simp)
    |some u=>
     rcases hO b with z|⟨ob,xs,z⟩
     ·rw [q] at z;cases z
     ·have z2:=un.frzs b ob _ z;obtain⟨e1,_⟩:=hok b _ z;obtain⟨e2,_⟩:=al b _ z2;rw [e] at e1;cases e1;exact e2
 cases hk:K.lookup a with
 |some o=>
  have e:=KX a o hk;rw [ha] at e;cases e;refine ac (λ_=>none) (λ_=> .inl rfl) (.inr ⟨_,vs.toArray,_,hk,1,1,1,by rwa [uu,ah],by simpa using rv⟩) (λb u z=>by have z':(none:om HO)=some u:=z;cases z') (λb z=>absurd rfl z) λz=>absurd rfl z
 |none=>
  refine ac (λb=>if b=a then some (.frz {cls:= .type "list",data:= .seq vs.toArray} (.lst (ns.map V.int))) else none) (λb=> ?_) (.inl (.inr ⟨{cls:= .type "list",data:= .seq vs.toArray},A3 rfl⟩)) (λb u z=> ?_) (λb z=> ?_) λ_=>hk
  ·by_cases Z:b=a
   ·exact .inr ⟨_,_,A3 Z⟩
   ·exact .inl (A2 Z)
  ·by_cases Z:b=a
   ·have z':=(A3 Z).symm.trans z;cases z';subst Z;exact⟨ha,by rwa [ua],vs,_,rv,ha⟩
   ·have z':=(A2 Z).symm.trans z;cases z'
  ·by_cases Z:b=a
   ·exact Z
   ·exact absurd (A2 Z) z
noncomputable abbrev KOf {K:o0}{h:o8}(_:K.In h):o0:=K
theorem walk_of {l:PySem.W.OpenLaw}{n k:Nat}{q:o9}{U:oj Str}{XP:(Str->om o6)->o8->Prop}{YP:og->o8->Prop}{d:DefRec}{K:Params->o0}{CX:og->CXT}{sp:og->Sp}{x:Str}
  (hn:l.most=some n) (ad:n<=sizeLine) (ae:d.params.defaults= []) (hr:Room k callerA)
  (hY:∀(w:og) (h:o8),YP w h->(K w.params).In h)
  (F:∀(w:og) (mg:Str->om o6) (fa:o3) (h:o8),(K w.params).In h->h.Ns mainGlobals mg->mg d.name=some (.ref fa)->
   ∃fd:FuncData,(∀(s:o7) (u:o6),BindsTo s fd ⟨[u],[]⟩ [(x,u)])/\fd.scope.names.lookup x=some .local/\
    ∀base:o8,(K w.params).In base->base.Ns mainGlobals mg->FnOk l.prog w (K w.params) mg base (CX w) k fa fd [x] (sp w))
  (af:∀(w:og) (H:Hp) (a:o3) (ns:oj Int),ns.length<=n->Only H->SqL (K w.params) H a (ns.map V.int)->sp w [.ref a] H (λv _=>v= .bl true) λ_ _ _=>False)
  (ag:∀(w:og) (H:Hp) (s:o7) (e:o6) (s':o7),CX w [] H s (λ_ _ _=>False) e s'->False):
  PySem.W.WalkO q U XP YP l.row.toRowW d [] (λf vs=>PySem.call f vs):=by
 refine Att.attach_call hn ae λw s₀ s₁ mg mb fa o pm cd doc a vs ns G Y ho hd ak ah aa Z O hg=> ?_;have KX:=hY w _ Y;obtain⟨fd,hb,ac,hF⟩:=F w mg fa _ KX G.T.g ah;exact law_call KX G.T.g G.T.b G.T.builtins G.T.nolimit hg aa Z (uL O ad) hr hF hb ac (λH hO hS=>af w H a ns O hO hS) λH e s'=>ag w H s₁ e s'
theorem walk_ofK {l:PySem.W.OpenLaw}{n k:Nat}{q:o9}{O:oj Str}{XP:(Str->om o6)->o8->Prop}{YP:og->o8->Prop}{d:DefRec}{K:Params->o0}{CX:CXT}{sp:o0->Sp}{x:Str}
  (hn:l.most=some n) (U:n<=sizeLine) (Z:d.params.defaults= []) (hr:Room k callerA)
  (hY:∀(w:og) (h:o8),YP w h->(K w.params).In h)
  (F:∀(w:og) (mg:Str->om o6) (fa:o3) (h:o8),(K w.params).In h->h.Ns mainGlobals mg->mg d.name=some (.ref fa)->
   ∃fd:FuncData,(∀(s:o7) (u:o6),BindsTo s fd ⟨[u],[]⟩ [(x,u)])/\fd.scope.names.lookup x=some .local/\
    ∀base:o8,(K w.params).In base->base.Ns mainGlobals mg->FnOk l.prog w (K w.params) mg base CX k fa fd [x] (sp (K w.params)))
  (aa:∀(K:o0) (H:Hp) (a:o3) (ns:oj Int),ns.length<=n->Only H->SqL K H a (ns.map V.int)->sp K [.ref a] H (λv _=>v= .bl true) λ_ _ _=>False)
  (ac:∀(H:Hp) (s:o7) (e:o6) (s':o7),CX [] H s (λ_ _ _=>False) e s'->False):
  PySem.W.WalkO q O XP YP l.row.toRowW d [] (λf vs=>PySem.call f vs):=
 walk_of (K:=K) (CX:=λ_=>CX) (sp:=λw=>sp (K w.params)) hn U Z hr hY F (λw H a ns h1 h2 h3=>aa (K w.params) H a ns h1 h2 h3) λ_ H s e s'=>ac H s e s'
noncomputable def Qd (s:Stmt)(j:Nat):Stmt:=match s with
 | .ClassDef _ _ _ body _ _ _ _ _ _ _=>body.getD j (.Pass ⟨(0),(0),(0),(0)⟩)
 |_=> .Pass ⟨(0),(0),(0),(0)⟩
noncomputable def Yb (s:Stmt):Arguments:=match s with
 | .FunctionDef _ a _ _ _ _ _ _ _ _=>a
 |_=>{posonlyargs:= [],args:= [],vararg:=none,kwonlyargs:= [],kw_defaults:= [],kwarg:=none,defaults:= []}
noncomputable def yz (s:Stmt):oj Stmt:=match s with
 | .FunctionDef _ _ b _ _ _ _ _ _ _=>b
 |_=> []
noncomputable def qj (s:Stmt):Scope:=match s with
 | .FunctionDef _ _ _ _ _ _ sc _ _ _=>sc
 |_=>{kind:= .function,names:= [],isGenerator:=false,isCoroutine:=false}
noncomputable abbrev CX0:CXT:=λ_ _ _ _ _ _=>False
noncomputable abbrev E0:XK:=λ_ _ _=>False
variable {X:Cx}
theorem qA:Xa CX0 X E0:=λ_ _ _ _ _ _ _ h=>h.elim
structure Fun (K:o0)(x qual:Str)(st:Stmt)(f:o3)(fd:FuncData):Prop where
 ex:∃(oc:o6) (od:om o3) (kV doc pm:o6) (an:om o3) (cdv ct:o6) (osl:Array (om o6)),
  fd=PySem.W.fnOf x qual (Yb st) (yz st) (qj st) .none kV doc pm an cdv ct/\K.lookup f=some ⟨oc,od,.func fd,osl⟩/\PySem.W.codeIn K cdv qual=true
 kp:PySem.W.keepIn K (.ref f)=true
section
variable {P:o9}{w:og}{K:o0}{mg:Str->om o6}{base:o8}
theorem Fun.ok {x qual:Str}{st:Stmt}{f:o3}{fd:FuncData}{N ps:oj Str}{k:Nat}{sp:Sp}(F:Fun K x qual st f fd)(S:qv N ps (qj st))(len:∀vs H Q E,sp vs H Q E->vs.length=ps.length)
  (O:∀(cdv:o6) (A:oh) (outer:oj Env) (s:o7) (H:Hp) (vs:oj V) (Q:VK) (E:XK),Room k (A.deeper (envOfC qual (qj st) s.heap.objs.size f cdv))->sp vs H Q E->
   ∃t,PSs (cxOf CX0 P w K mg base N qual (qj st) f cdv A outer s H E).nox (yz st) t/\t {nx:=λ_ H'=>Q .non H',rt:=Q} (ki N vs) H):FnOk P w K mg base CX0 (k+1) f fd ps sp:=by
 obtain⟨oc,od,kV,doc,pm,an,cdv,ct,osl,rfl,lk,U⟩:=F.ex;refine fn_of lk U S len λA outer s H vs Q E hr Z=> ?_;obtain⟨t,h,q⟩:=O cdv A outer s H vs Q E hr Z;exact⟨t,h.nox,q⟩
theorem Fun.binds {x qual:Str}{st:Stmt}{f:o3}{fd:FuncData}{ps:oj Str}(F:Fun K x qual st f fd)
  (h:∀(kV doc pm:o6) (an:om o3) (cdv ct:o6) (us:oj o6),us.length=ps.length->bindArgs (PySem.W.fnOf x qual (Yb st) (yz st) (qj st) .none kV doc pm an cdv ct) ⟨us,[]⟩=pure (ps.zip us)):XT K fd ps []:=by
 obtain⟨oc,od,kV,doc,pm,an,cdv,ct,osl,rfl,lk,O⟩:=F.ex;exact .all (h kV doc pm an cdv ct)
theorem fun_mk {x qual:Str}{st:Stmt}{f:o3}{oc:o6}{od an:om o3}{osl:Array (om o6)}{kV doc pm cdv ct:o6}(l:K.lookup f=some ⟨oc,od,.func (PySem.W.fnOf x qual (Yb st) (yz st) (qj st) .none kV doc pm an cdv ct),osl⟩)
  (c:PySem.W.codeIn K cdv qual=true) (k:PySem.W.keepIn K (.ref f)=true):Fun K x qual st f (PySem.W.fnOf x qual (Yb st) (yz st) (qj st) .none kV doc pm an cdv ct):=⟨⟨oc,od,kV,doc,pm,an,cdv,ct,osl,1,l,c⟩,k⟩
end
variable {A:oh}
theorem Q9 {k:Nat}(O:Room k A):A.units+1<cLine:=UG (Nat.add_le_add_left (by decide:1<=64) _) O.units
variable {n:Nat}
theorem XJ (h:n<=1000):n<sizeLine:=UG h ()
section
variable {X:Cx}
theorem pv (i:Nat){x:Str}{pos:Pos}(U:X.N[i]? =some x:=by rfl)(Z:Vis X.env.scope x:=by first|exact Or.inl rfl|exact Or.inr (Or.inl rfl)|exact Or.inr (Or.inr rfl))(hd:(x==("__debug__":Str))=false:=by decide)
  (O:(x==("__classdict__":Str))=false:=by decide):PE X (.Name x pos) (tVar i):=pe_var U Z hd O
theorem call_lenD:Y6 X (.builtin "len") (λxs H Q=>∃a kvs,xs= [V.ref a]/\H a=some (.dK kvs)/\Q (.int kvs.length) H):=by
 intro oq s σ H xs us Q I r h;obtain⟨a,kvs,rfl,ha,q⟩:=h;obtain⟨u,rfl,ru⟩:=XA r;cases ru;exact d_len I (.inl ha) λt s' O=>⟨.int kvs.length,H,O,⟨t,1⟩,q⟩
end
theorem iteF {A B:Prop}(h:B):if false=true then A else B:=by
 rw [A2 ub];exact h
theorem iteT {A B:Prop}(h:A):if true=true then A else B:=by
 rw [A3 rfl];exact h
theorem ite2 {c A B:Prop}[Decidable c](h1:c->A)(h2:¬c->B):if c then A else B:=by
 by_cases h:c
 ·rw [A3 h];exact h1 h
 ·rw [A2 h];exact h2 h
noncomputable def Same (H H':Hp):Prop:=∀b o,H b=some o->H' b=some o
theorem Same.refl (H:Hp):Same H H:=λ_ _ h=>h
variable {H H1 H2:Hp}
theorem Same.trans (a:Same H H1)(b:Same H1 H2):Same H H2:=λc o h=>b c o (a c o h)
variable {H':Hp}
theorem Same.free (e:Same H H'){l:o3}(h:H' l=Option.none):H l=Option.none:=by
 cases q:H l with
 |none=>rfl
 |some o=>
  rw [e l o q] at h;cases h
section
variable {κ:Type}[DecidableEq κ]
variable {kvs:oj (κ×V)}{v:V}
theorem valV_in {k:κ}(h:valV kvs k=some v):k∈kvs.map (·.1):=by
 have q:(kvs.any λkv=>decide (kv.1=k))=true:=by
  rw [JJ,h]
  all_goals rfl
 obtain⟨p,O,e⟩:=List.any_eq_true.mp q;exact A8.mpr ⟨p,O,uq e⟩
theorem dropK_pos {p:κ×V}{r:oj (κ×V)}{k:κ}(e:p.1=k):Y5 (p::r) k=Y5 r k:=by
 unfold Y5;rw [vq,A2 (by simp [e])]
theorem dropK_neg {p:κ×V}{r:oj (κ×V)}{k:κ}(e:¬p.1=k):Y5 (p::r) k=p::Y5 r k:=by
 unfold Y5;rw [vq,A3 (by simp [e])]
end
end L2
namespace L2
open PySem
inductive D where
 |non|bl (b:Bool)|int (i:Int)|str (z:Str)|lst|dct|tup (xs:List D)
noncomputable def QC (c:Nat):Bool:=decide (32<=c)&&decide (c<=126)&&decide (c≠37)
noncomputable def Qy (z:Str):Bool:=decide (z.length<=300)&&z.cps.toList.all QC
mutual
noncomputable def good:D->Bool
 | .str z=>Qy z
 | .tup xs=>decide (xs.length<=40)&&goodL xs
 |_=>false
noncomputable def goodL:oj D->Bool
 | []=>true
 |x::r=>good x&&goodL r
end
mutual
noncomputable def sz:D->Nat
 | .str z=>z.length+1
 | .tup xs=>1+szL xs
 |_=>0
noncomputable def szL:oj D->Nat
 | []=>0
 |x::r=>sz x+szL r
end
mutual
noncomputable def dp:D->Nat
 | .str _=>1
 | .tup xs=>1+dpL xs
 |_=>0
noncomputable def dpL:oj D->Nat
 | []=>0
 |x::r=>max (dp x) (dpL r)
end
mutual
noncomputable def nd:D->Nat
 | .tup xs=>1+ndL xs
 |_=>1
noncomputable def ndL:oj D->Nat
 | []=>0
 |x::r=>nd x+ndL r
end
noncomputable def isT (d:D):Bool:=good d&&decide (sz d<=600)&&decide (dp d<=12)
theorem XR:∀(xs ys:oj D),szL (xs++ys)=szL xs+szL ys
 | [],ys=>by simp [szL]
 |x::r,ys=>by simp only [U8,szL,XR r ys];omega
theorem X1:∀(xs ys:oj D),ndL (xs++ys)=ndL xs+ndL ys
 | [],ys=>by simp [ndL]
 |x::r,ys=>by simp only [U8,ndL,X1 r ys];omega
theorem zX {k:Nat}:∀(xs:oj D),dpL xs<=k↔∀x∈xs,dp x<=k
 | []=>by simp [dpL]
 |x::r=>by
  have U:=zX (k:=k) r;have e:dpL (x::r)=max (dp x) (dpL r):=by simp only [dpL]
  rw [e];constructor
  ·intro h y O;rcases A5.mp O with rfl|O
   ·omega
   ·exact U.mp () y O
  ·intro h;have h1:=h x uf;have h2:=U.mpr λy O=>h y (uc _ O);omega
theorem dp_pos {d:D}(h:good d=true):1<=dp d:=by
 cases d<;>simp_all [good,dp]
noncomputable def wOk (w:oj (D×Nat)):Bool:=w.all λp=>good p.1&&decide (p.2+dp p.1<=13)
noncomputable def wSz (w:oj (D×Nat)):Nat:=szL (w.map (·.1))
noncomputable def G (w:oj (D×Nat))(n:Nat):Bool:=wOk w&&decide (n+wSz w<=600)
theorem G_start (d:D):G [(d,1)] 0=isT d:=by
 simp only [G,wOk,wSz,isT,vo,List.all_nil,uh,U5,szL,vQ,Nat.zero_add,Nat.add_zero];have e:decide (1+dp d<=13)=decide (dp d<=12):=by
  rw [uX];omega
 rw [e];cases good d<;>cases decide (sz d<=600)<;>cases decide (dp d<=12)<;>rfl
variable {n:Nat}
theorem G_nil (h:n<=600):G [] n=true:=by simp [G,wOk,wSz,szL,h]
theorem G_snoc (w:oj (D×Nat))(d:D)(k n:Nat):G (w++ [(d,k)]) n=(wOk w&&(good d&&decide (k+dp d<=13))&&decide (n+(wSz w+sz d)<=600)):=by
 simp only [G,wOk,wSz,UH,vo,List.all_nil,vQ,uw,uh,U5,XR,szL,Nat.add_zero]
 rfl
theorem G_bad {w:oj (D×Nat)}{d:D}{k:Nat}(h:good d=false):G (w++ [(d,k)]) n=false:=by
 rw [G_snoc,h];simp
theorem G_deep {w:oj (D×Nat)}{d:D}{k:Nat}(h:12<k):G (w++ [(d,k)]) n=false:=by
 rw [G_snoc];cases O:good d with
 |false=>simp
 |true=>
  have:=dp_pos O;have e:decide (k+dp d<=13)=false:=ug ()
  rw [e];simp
theorem G_big {w:oj (D×Nat)}{d:D}{k:Nat}(h:600<n+sz d):G (w++ [(d,k)]) n=false:=by
 rw [G_snoc];have e:decide (n+(wSz w+sz d)<=600)=false:=ug ()
 rw [e];simp
theorem G_big1 {w:oj (D×Nat)}{xs:oj D}{k:Nat}(h:600<n+1):G (w++ [(.tup xs,k)]) n=false:=G_big (by simp only [sz];omega)
theorem wOk_map (xs:oj D)(k:Nat):wOk (xs.map λx=>(x,k+1))=(goodL xs&&xs.all λx=>decide (k+1+dp x<=13)):=by
 induction xs with
 |nil=>rfl
 |cons x r O=>
  simp only [uh,wOk,vo,goodL] at O⊢;rw [O];cases good x<;>cases decide (k+1+dp x<=13)<;>cases goodL r<;>simp
theorem wSz_map (xs:oj D)(k:Nat):wSz (xs.map λx=>(x,k+1))=szL xs:=by
 unfold wSz;rw [uN]
 congr 1
 induction xs with
 |nil=>rfl
 |cons x r O=>simp only [uh,O];rfl
theorem G_tup {w:oj (D×Nat)}{xs:oj D}{k:Nat}(U:xs.length<=40)(hk:k<=12):G (w++ [(.tup xs,k)]) n=G (w++xs.map λx=>(x,k+1)) (n+1):=by
 rw [G_snoc];unfold G;have Z:wOk (w++xs.map λx=>(x,k+1))=(wOk w&&wOk (xs.map λx=>(x,k+1))):=by unfold wOk;rw [UH]
 have e2:wSz (w++xs.map λx=>(x,k+1))=wSz w+szL xs:=by
  have:=wSz_map xs k;unfold wSz at this⊢;rw [uw,XR,this]
 have e3:decide (k+dp (.tup xs)<=13)=xs.all λx=>decide (k+1+dp x<=13):=by
  have q:=zX (k:=12-k) xs;have e0:dp (.tup xs)=1+dpL xs:=by simp only [dp]
  rw [e0,vj];constructor
  ·intro h;have h:=uq h;refine List.all_eq_true.mpr λx O=>ue ?_;have h2:=q.mp () x O
   omega
  ·intro h;refine ue ?_;have h2:=q.mpr λx O=>by
    have h3:=uq (List.all_eq_true.mp h x O);omega
   omega
 rw [Z,e2,e3,wOk_map];have e4:good (.tup xs)=goodL xs:=by simp only [good,ue U,Bool.true_and]
 have e5:decide (n+(wSz w+sz (.tup xs))<=600)=decide (n+1+(wSz w+szL xs)<=600):=by
  rw [uX];simp only [sz];omega
 rw [e4,e5]
variable {z:Str}
theorem G_str {w:oj (D×Nat)}{k:Nat}(O:Qy z=true)(hk:k<=12):G (w++ [(.str z,k)]) n=G w (n+(1+z.length)):=by
 rw [G_snoc];unfold G;have U:good (.str z)=true:=by simp only [good,O]
 have Z:decide (k+dp (.str z)<=13)=true:=ue (by simp only [dp];omega)
 have e5:decide (n+(wSz w+sz (.str z))<=600)=decide (n+(1+z.length)+wSz w<=600):=by
  rw [uX];simp only [sz];omega
 rw [U,Z,e5];simp
end L2
namespace AwZ
open PySem PyProof.Rows
open PySem.AutoSeq1 (wpAny_loadPart')
section
variable {prog:o9}{w:og}{A:oh}{E:o6->o7->Prop}{s:o7}
theorem tdraw {j t:o3}{i:Nat}{its:Array o6}{x:o6}{Q:o6->o7->Prop}(U:s.heap.IsTupleIter j t i)(gt:s.heap.IsTuple t its)(gx:its[i]? =some x)
  (q:∀h2,h2.IsTupleIter j t (i+1)->Heap.SameBut j s.heap h2->Q x {s with heap:=h2}):wpAny #[w,w] A (Builtin.SmallTypes.nextOf (.ref j)) Q E s:=by
 obtain⟨u,O,cu,du⟩:=id U;obtain⟨ut,Z,_,nt,aa⟩:=gt;unfold Builtin.SmallTypes.nextOf;refine A4 (vD (name:=Str.ofString "__next__") U.typeIs vU
  (vV vU U.typeIs F.entry_tuple_iterator_next ?_ (F.args_tuple_iterator_next_1 _)))
 show wpAny _ _ (field (.ref j) 0>>=_) _ _ s;refine A4 (vC O du (x:= .ref t) rfl ?_);show wpAny _ _ (if(Value.ref t==Value.none)=true then _ else _) _ _ s
 rw [A2 (show¬(Value.ref t==Value.none)=true from ub)]
 show wpAny _ _ (field (.ref j) 1>>=_) _ _ s;refine A4 (vC O du (x:= .int i 0) rfl ?_);show wpAny _ _ (seqItems? (.ref t)>>=_) _ _ s;refine A4 (Ua Z aa ?_);simp only [Int.toNat_natCast,gx];refine A4 (wpAny_setField O du (by simp) (uB ⟨x,1,uB (q _ ?_ (Heap.SameBut.update ..))⟩))
 exact⟨_,Heap.get?_update_self _ O (Obj.isFreed_of_fields (Obj.data_mapFields du _)),(Obj.cls_mapFields ..).trans cu,by rw [Obj.data_mapFields du];simp [rawInt]⟩
theorem tdraw_end {j t:o3}{i:Nat}{its:Array o6}{Q:o6->o7->Prop}(hh:A.handled=none)(O:s.heap.IsTupleIter j t i)(gt:s.heap.IsTuple t its)(gx:its[i]? =none)
  (q:∀h2 e,Heap.ExtBut j s.heap h2->(∃u,h2.get? e=some u/\u.cls= .type "StopIteration")->E (.ref e) {s with heap:=h2}):wpAny #[w,w] A (Builtin.SmallTypes.nextOf (.ref j)) Q E s:=by
 obtain⟨u,U,cu,du⟩:=id O;obtain⟨ut,Z,_,nt,aa⟩:=gt;unfold Builtin.SmallTypes.nextOf;refine A4 (vD (name:=Str.ofString "__next__") O.typeIs vU
  (vV vU O.typeIs F.entry_tuple_iterator_next ?_ (F.args_tuple_iterator_next_1 _)))
 show wpAny _ _ (field (.ref j) 0>>=_) _ _ s;refine A4 (vC U du (x:= .ref t) rfl ?_);show wpAny _ _ (if(Value.ref t==Value.none)=true then _ else _) _ _ s
 rw [A2 (show¬(Value.ref t==Value.none)=true from ub)]
 show wpAny _ _ (field (.ref j) 1>>=_) _ _ s;refine A4 (vC U du (x:= .int i 0) rfl ?_);show wpAny _ _ (seqItems? (.ref t)>>=_) _ _ s;refine A4 (Ua Z aa ?_);simp only [Int.toNat_natCast,gx];refine A4 (UM (A4 (wpAny_setField U du (by simp) ?_)))
 show wpAny _ _ (newExc (.type "StopIteration") []>>=_) _ _ _;refine A4 ?_;simp only [newExc,newTuple];refine A4 (vw ?_ (by size_fits))
 refine A4 (m:=firstArgMember _ _) (wpAny_of_eq (a:=Value.none) (by first|rfl|(simp only [firstArgMember];rfl)) ?_)
 refine vw ?_ (by size_fits)
 simp only [raiseNew];refine A4 (wpAny_handled ?_)
 first|rw [show A.in1.handled=none from hh]|rw [hh]
 refine A4 (uB (wpAny_throw ?_));exact q _ _ (((Heap.SameBut.update ..).extBut.push _).push _) ⟨_,uG _ rfl,1⟩
structure Apt (z p r i j a b:o3):Prop where
 pz:p≠z
 rz:r≠z
 iz:i≠z
 jz:j≠z
 pr:p≠r
 pi:p≠i
 pj:p≠j
 ri:r≠i
 rj:r≠j
 ij:i≠j
 az:a≠z
 ar:a≠r
 ai:a≠i
 aj:a≠j
 bz:b≠z
 br:b≠r
 bi:b≠i
 bj:b≠j
theorem ziptl {z p r i j a b:o3}{k:Nat}{xs ys:Array o6}{x y u v:o6}{Q:o6->o7->Prop}(D:Apt z p r i j a b)
  (Z:IsZip s.heap z p r .none) (hp:IsPair s.heap p (.ref i) (.ref j)) (hr:IsPair s.heap r u v)
  (hi:s.heap.IsTupleIter i a k) (hj:s.heap.IsListIter j b k) (ha:s.heap.IsTuple a xs) (hb:s.heap.IsList b ys) (hx:xs[k]? =some x) (hy:ys[k]? =some y)
  (q:∀h2,IsZip h2 z p r (rawInt s.heap.objs.size)->IsPair h2 r x y->h2.IsTupleIter i a (k+1)->h2.IsListIter j b (k+1)->IsPair h2 s.heap.objs.size x y->h2.objs.size=s.heap.objs.size+1->
   (∀c o,c≠z->c≠r->c≠i->c≠j->s.heap.get? c=some o->h2.get? c=some o)->Q (.ref s.heap.objs.size) {s with heap:=h2}):
  wpAny #[w,w] A (Builtin.«zip.__next__» ⟨[.ref z],[]⟩) (λfin t=>∃v,fin= .done (.ret v)/\Q v t) E s:=by
 show wpAny _ _ (field (.ref z) 2>>=_) _ _ _;refine A4 (vC Z rfl (x:= .bool false) rfl ?_);show wpAny _ _ (field (.ref z) 3>>=_) _ _ _;refine A4 (vC Z rfl (x:= .ref p) rfl ?_);refine A4 (Ua hp rfl ?_);show wpAny _ _ (Builtin.SmallTypes.ownedTupleIsFree (.ref z)>>=_) _ _ s;refine A4 ?_;unfold Builtin.SmallTypes.ownedTupleIsFree;refine A4 (vC Z rfl (x:= .none) rfl (uB ?_));simp only [if_true];refine A4 (UM ?_);refine A4 (vC Z rfl (x:= .ref r) rfl ?_);refine A4 (Ue Z (by simp) λh1 z1 s1=> ?_)
 replace z1:IsZip h1 z p r .ellipsis:=z1
 refine A4 ?_;simp only [List.zipIdx_cons,List.zipIdx_nil,Ul,List.forIn_nil];refine A4 (A4 (wpAny_onRaise ?_));show wpAny _ _ (Builtin.SmallTypes.nextOf (.ref i)>>=_) _ _ _;refine A4 (tdraw (hi.extBut s1.extBut D.iz) (ha.extBut s1.extBut D.az) hx λh2 i2 s2=>uB ?_);have r2:IsPair h2 r u v:=s2.extBut _ _ D.ri (s1.extBut _ _ D.rz hr);refine A4 (Ua r2 rfl ?_);refine A4 (wpAny_updateSeq_pair r2 λh3 r3 U=> ?_)
 replace r3:IsPair h3 r x v:=r3
 refine A4 (wpAny_letGo (uB ?_));refine A4 (A4 (wpAny_onRaise ?_));show wpAny _ _ (Builtin.SmallTypes.nextOf (.ref j)>>=_) _ _ _;refine A4 (wpAny_nextOf_list_item (((hj.extBut s1.extBut D.jz).extBut s2.extBut D.ij.symm).extBut U.extBut D.rj.symm)
  (((hb.extBut s1.extBut D.bz).extBut s2.extBut D.bi).extBut U.extBut D.br) hy λh4 j4 s4=>uB ?_)
 have r4:IsPair h4 r x v:=s4.extBut _ _ D.rj r3;refine A4 (Ua r4 rfl ?_);refine A4 (wpAny_updateSeq_pair r4 λh5 r5 s5=> ?_)
 replace r5:IsPair h5 r x y:=r5
 refine A4 (wpAny_letGo (uB (uB ?_)));refine A4 (Ua r5 rfl ?_);refine A4 (wpAny_newTuple ?_);have sz:h5.objs.size=s.heap.objs.size:=by rw [s5.1,s4.1,U.1,s2.1,s1.1]
 have z5:IsZip h5 z p r .ellipsis:=s5.extBut _ _ D.rz.symm (s4.extBut _ _ D.jz.symm (U.extBut _ _ D.rz.symm (s2.extBut _ _ D.iz.symm z1)));have k5:∀c o,c≠z->c≠r->c≠i->c≠j->s.heap.get? c=some o->h5.get? c=some o:=λc o O c2 c3 c4 e=>
  s5.extBut _ _ c2 (s4.extBut _ _ c4 (U.extBut _ _ c2 (s2.extBut _ _ c3 (s1.extBut _ _ O e))))
 have i5:h5.IsTupleIter i a (k+1):=((i2.extBut U.extBut D.ri.symm).extBut s4.extBut D.ij).extBut s5.extBut D.ri.symm;have j5:h5.IsListIter j b (k+1):=j4.extBut s5.extBut D.rj.symm;have aa:z<h5.objs.size:=uF z5;show wpAny _ _ (Builtin.SmallTypes.ownedTupleHandOut (.ref z) (.ref h5.objs.size)>>=_) _ _ _;refine A4 ?_;unfold Builtin.SmallTypes.ownedTupleHandOut;have z6:IsZip (h5.push {cls:= .type "tuple",data:= .seq #[x,y]}) z p r .ellipsis:=ud _ z5;refine A4 (Ue z6 (by simp) λh7 z7 s7=> ?_)
 replace z7:IsZip h7 z p r (rawInt h5.objs.size):=z7
 refine Ue z7 (by simp) λh8 z8 s8=> ?_
 replace z8:IsZip h8 z p r (rawInt h5.objs.size):=z8
 have up:∀c o,c≠z->h5.get? c=some o->h8.get? c=some o:=λc o O e=>s8.extBut _ _ O (s7.extBut _ _ O (ud _ e));have t8:IsPair h8 h5.objs.size x y:=s8.extBut _ _ (Uk aa) (s7.extBut _ _ (Uk aa) (uG _ rfl));have n8:h8.objs.size=h5.objs.size+1:=by rw [s8.1,s7.1,vi]
 rw [sz] at z8 t8 n8;refine uB ⟨0,?_⟩;show Q (.ref h5.objs.size) _;rw [sz];exact q h8 z8 (up _ _ D.rz r5) (by obtain⟨o,e,g⟩:=i5;exact⟨o,up _ o D.iz e,g⟩) (j5.at λo e=>up _ o D.jz e) t8 n8 λc o O c2 c3 c4 e=>up c o O (k5 c o O c2 c3 c4 e)
theorem zip_go {z p r i j a b:o3}{k:Nat}{xs ys:Array o6}{x y u v:o6}{Q:om o6->o7->Prop}(D:Apt z p r i j a b)
  (O:IsZip s.heap z p r .none) (Z:IsPair s.heap p (.ref i) (.ref j)) (hr:IsPair s.heap r u v)
  (hi:s.heap.IsTupleIter i a k) (hj:s.heap.IsListIter j b k) (ha:s.heap.IsTuple a xs) (hb:s.heap.IsList b ys) (hx:xs[k]? =some x) (hy:ys[k]? =some y)
  (q:∀h2,IsZip h2 z p r (rawInt s.heap.objs.size)->IsPair h2 r x y->h2.IsTupleIter i a (k+1)->h2.IsListIter j b (k+1)->IsPair h2 s.heap.objs.size x y->h2.objs.size=s.heap.objs.size+1->
   (∀c o,c≠z->c≠r->c≠i->c≠j->s.heap.get? c=some o->h2.get? c=some o)->Q (some (.ref s.heap.objs.size)) {s with heap:=h2}):
  wpAny #[w,w] A (pyNext (.ref z)) Q E s:=by
 have U:s.TypeIs (.ref z) "zip":=⟨_,O,1⟩;unfold pyNext;exact A4 (wpAny_attempt (vD (name:=Str.ofString "__next__") U F.slot_zip_next
  (vV F.slot_zip_next U F.entry_zip_next (ziptl D O Z hr hi hj ha hb hx hy λh2 b1 b2 b3 b4 b5 b6 b7=>uB (q h2 b1 b2 b3 b4 b5 b6 b7)) (F.args_zip_next_1 _))))
theorem zip_stop {z p r i j a b:o3}{k:Nat}{xs:Array o6}{Q:om o6->o7->Prop}(hh:A.handled=none)(D:Apt z p r i j a b)
  (O:IsZip s.heap z p r .none) (hp:IsPair s.heap p (.ref i) (.ref j)) (hi:s.heap.IsTupleIter i a k) (ha:s.heap.IsTuple a xs) (hx:xs[k]? =none)
  (q:∀h2,(∀c o,c≠z->c≠r->c≠i->c≠j->s.heap.get? c=some o->h2.get? c=some o)->Q none {s with heap:=h2}):wpAny #[w,w] A (pyNext (.ref z)) Q E s:=by
 have tz:s.TypeIs (.ref z) "zip":=⟨_,O,1⟩;unfold pyNext;refine A4 (wpAny_attempt (vD (name:=Str.ofString "__next__") tz F.slot_zip_next
  (vV F.slot_zip_next tz F.entry_zip_next ?_ (F.args_zip_next_1 _))))
 show wpAny _ _ (field (.ref z) 2>>=_) _ _ _;refine A4 (vC O rfl (x:= .bool false) rfl ?_);show wpAny _ _ (field (.ref z) 3>>=_) _ _ _;refine A4 (vC O rfl (x:= .ref p) rfl ?_);refine A4 (Ua hp rfl ?_);show wpAny _ _ (Builtin.SmallTypes.ownedTupleIsFree (.ref z)>>=_) _ _ s;refine A4 ?_;unfold Builtin.SmallTypes.ownedTupleIsFree;refine A4 (vC O rfl (x:= .none) rfl (uB ?_));simp only [if_true];refine A4 (UM ?_);refine A4 (vC O rfl (x:= .ref r) rfl ?_);refine A4 (Ue O (by simp) λh1 U s1=> ?_)
 replace U:IsZip h1 z p r .ellipsis:=U
 refine A4 ?_;simp only [List.zipIdx_cons,List.zipIdx_nil,Ul,List.forIn_nil];refine A4 (A4 (wpAny_onRaise ?_));show wpAny _ _ (Builtin.SmallTypes.nextOf (.ref i)>>=_) _ _ _;refine A4 (tdraw_end hh (hi.extBut s1.extBut D.iz) (ha.extBut s1.extBut D.az) hx λh2 e s2 he=> ?_);obtain⟨oe,Z,ce⟩:=he;have z2:IsZip h2 z p r .ellipsis:=s2 _ _ D.iz.symm U;have ez:e≠z:=λx=>by subst x;rw [z2] at Z;cases Z;simp at ce
 refine Ue z2 (by simp) λh3 _ s3=> ?_
 refine A4 (UT (T:="StopIteration") (b:=true) ⟨oe,s3.extBut _ _ ez Z,ce⟩ isSubtype_stop ?_);exact uB (q _ λc o c1 _ c3 _ x=>s3.extBut _ _ c1 (s2 _ _ c3 (s1.extBut _ _ c1 x)))
noncomputable abbrev q1 (h:o8)(a:o3):o8:=h.push {cls:= .type "tuple_iterator",data:= .fields #[.ref a,.int 0 0]}
noncomputable abbrev q2 (h:o8)(a b:o3):o8:=(q1 h a).push {cls:= .type "list_iterator",data:= .fields #[.ref b,.int 0 0]}
noncomputable abbrev q3 (h:o8)(a b:o3):o8:=(q2 h a b).push {cls:= .type "tuple",data:= .seq #[.ref h.objs.size,.ref (q1 h a).objs.size]}
noncomputable abbrev q4 (h:o8)(a b:o3):o8:=(q3 h a b).push {cls:= .type "tuple",data:= .seq #[.none,.none]}
noncomputable abbrev q5 (h:o8)(a b:o3):o8:=(q4 h a b).push {cls:= .type "zip",data:= .fields #[.none,.bool false,.bool false,.ref (q2 h a b).objs.size,.ref (q3 h a b).objs.size]}
theorem zip_made (a b:o3)(xs ys:Array o6):Meets (Builtin.«zip.__new__» ⟨[.type "zip",.ref a,.ref b],[]⟩) (λ_ R s=>s.heap.IsTuple a xs/\s.heap.IsList b ys/\R (.ok (.ret (.ref (q4 s.heap a b).objs.size))) {s with heap:=q5 s.heap a b}):=
 .of_wp λprog w A R s h=>by
  obtain⟨O,g,d,tk,os⟩:=s;obtain⟨ha,U,h⟩:=h;have sub:=sub_zip;have h1:Heap.IsTuple (Shared.heap ⟨O,g,d,tk,os⟩) a xs:=ha;have h2:Heap.IsList (Shared.heap ⟨O.push {cls:= .type "tuple_iterator",data:= .fields #[.ref a,.int 0 0]},g,d,tk,os⟩) b ys:=Heap.IsList.push U _
  wp_walk using wpAny_pyIter_tuple h1,UL h2
  exact⟨0,h⟩
theorem zip_call {a b:o3}{xs ys:Array o6}{Q:o6->o7->Prop}(ha:s.heap.IsTuple a xs)(hb:s.heap.IsList b ys)
  (h:∀h2,IsZip h2 (s.heap.objs.size+4) (s.heap.objs.size+2) (s.heap.objs.size+3) .none->IsPair h2 (s.heap.objs.size+2) (.ref s.heap.objs.size) (.ref (s.heap.objs.size+1))->
   IsPair h2 (s.heap.objs.size+3) .none .none->h2.IsTupleIter s.heap.objs.size a 0->h2.IsListIter (s.heap.objs.size+1) b 0->h2.objs.size=s.heap.objs.size+5->
   (∀c o,s.heap.get? c=some o->h2.get? c=some o)->Q (.ref (s.heap.objs.size+4)) {s with heap:=h2}):wpAny #[w,w] A (call (.type "zip") [.ref a,.ref b]) Q E s:=by
 refine callType_new F.called_zip () (F.typeCall_zip_2 _ _) (F.newCall_zip_2 _ _) (λobj=>F.args_object_init_3 obj _ _) F.entry_zip_new (zip_made a b xs ys) ⟨ha,hb,?_⟩
 have O:(q1 s.heap a).objs.size=s.heap.objs.size+1:=vi ..;have U:(q2 s.heap a b).objs.size=s.heap.objs.size+2:=by rw [vi,O]
 have Z:(q3 s.heap a b).objs.size=s.heap.objs.size+3:=by rw [vi,U]
 have z4:(q4 s.heap a b).objs.size=s.heap.objs.size+4:=by rw [vi,Z]
 have z5:(q5 s.heap a b).objs.size=s.heap.objs.size+5:=by rw [vi,z4]
 have g5:(q5 s.heap a b).get? (q4 s.heap a b).objs.size=some _:=uG _ rfl;have g4:(q5 s.heap a b).get? (q3 s.heap a b).objs.size=some _:=ud _ (uG _ rfl);have g3:(q5 s.heap a b).get? (q2 s.heap a b).objs.size=some _:=ud _ (ud _ (uG _ rfl));have g2:(q5 s.heap a b).get? (q1 s.heap a).objs.size=some _:=ud _ (ud _ (ud _ (uG _ rfl)));have g1:(q5 s.heap a b).get? s.heap.objs.size=some _:=ud _ (ud _ (ud _ (ud _ (uG _ rfl))));show _/\_;rw [U,Z,z4] at g5;rw [O,U] at g3;rw [Z] at g4;rw [O] at g2;rw [z4];exact⟨⟨_,g5,1⟩,h _ g5 g3 g4 ⟨_,g1,1,1⟩ ⟨_,g2,1,1⟩ z5 λc o x=>ud _ (ud _ (ud _ (ud _ (ud _ x))))⟩
end
end AwZ
namespace L2
open PySem PySem.Spec PyProof.Rows
noncomputable def Its (x:Str):It:=⟨λi _=>i<x.cps.size,λi H v H'=>H'=H/\∃c,x.cps[i]? =some c/\v= .str ⟨#[c]⟩,λi _=>i=x.cps.size⟩
variable {w:og}{K:o0}{tg:Expr}{x:Str}
theorem turn_str {P:o9}{t:Tok}{it:o3}(ty:String)(O:ty="str_ascii_iterator"∨ty="str_iterator"):
  Turn P w K tg (Its x) [it] it (λi h=>h.IsStrIter it ty x t i) where
 mem:=by simp
 obj:=λi h st b U=>by
  have e:b=it:=by simpa using U
  subst e;obtain⟨o,e,c,d⟩:=st;exact⟨o,e,λv z=>by rw [d] at z;cases z⟩
 keep:=λi h h' st k=>by
  obtain⟨o,e,r⟩:=st;exact⟨o,k it (by simp) o e,r⟩
 item:=by
  intro X hP hw hK Z i oq s σ H E I hf st hg;subst hP hw hK;obtain⟨f0,f1,f2,f3,f4,f5⟩:=hf it (by simp)
  have W:Walks X.prog X.w X.A it [it] [it] x.cps.size (SignAt x) (λi h=>h.IsStrIter it ty x t i):=by
   rcases O with rfl|rfl
   ·exact Walks.strAscii (I.ok.hd Z) it x t
   ·exact Walks.strWide (I.ok.hd Z) it x t
  refine vb (n:=1) I.tk (W.item i s _ _ hg st λv h' tk hv aa kk=> ?_);intro htk;obtain⟨c,u,hx,rfl⟩:=hv;have I1:Inv X oq σ H {s with heap:=h',toks:=tk}:=I.turned (λb o U e=>kk b o (by simpa using U) e) f0 f1 f3 f4 f5
  obtain⟨o,e,c',d⟩:=id aa;refine⟨0,go_of (s:={s with heap:=h',toks:=tk}) e c' d (by rcases O with rfl|rfl<;>decide) ⟨.str ⟨#[c]⟩,H,I1,⟨u,1⟩,⟨1,c,hx,1⟩,aa,λb U=>(hf b U).1⟩⟩
 done:=by
  intro X hP hw hK Z i oq s σ H E I hf st hg;subst hP hw hK;have ac:i=x.cps.size:=hg;subst ac;obtain⟨f0,f1,f2,f3,f4,f5⟩:=hf it (by simp)
  have W:Walks X.prog X.w X.A it [it] [it] x.cps.size (SignAt x) (λi h=>h.IsStrIter it ty x t i):=by
   rcases O with rfl|rfl
   ·exact Walks.strAscii (I.ok.hd Z) it x t
   ·exact Walks.strWide (I.ok.hd Z) it x t
  exact vb (n:=1) I.tk (W.done s _ _ st λh' tk kk htk=>⟨1,I.turned (λb o U e=>kk b o (by simpa using U) e) f0 f1 f3 f4 f5⟩)
 self:=λ_ _ _ _ _ st h=>by
  rcases O with rfl|rfl
  ·exact wpAny_pyIter_striter_ascii st h
  ·exact wpAny_pyIter_striter_wide st h
section
variable {X:Cx}{tg:Expr}
inductive IiStr (R:(It->Hp->Prop)) (x:V) (H1:Hp):Prop
 |mk (z:_) (_:x= .str z) (_:R (Its z) H1)
noncomputable def iStr (tl:TE):TI:=λσ H R=>tl σ H λx H1=>IiStr R x H1
theorem pi_str {l:Expr}{tl:TE}(U:PE X l tl):PI X tg l (iStr tl):=by
 intro oq s σ H R I h;refine thn (U oq s σ H _ I h) λv s1 ⟨x,H1,O,Z,q1⟩=> ?_;obtain⟨z,e,q⟩:=q1;subst e;obtain⟨t,rfl⟩:=Z;have fp:∀(o:Obj),∀b∈ [s1.heap.objs.size],FpOk X oq H1 b:=λo b hb=>by
  have e:b=s1.heap.objs.size:=by simpa using hb
  subst e;exact O.fpOk (ui _) (O.hok.fresh (ui _))
 cases ha:z.cps.all (·<128)
 ·refine wpAny_pyIter_wide ha ?_;exact⟨s1.heap.objs.size,[s1.heap.objs.size],_,_,H1,1,O.kept (t':=s1.toks) λb o e=>ud _ e,turn_str "str_iterator" (.inr rfl),⟨_,uG _ rfl,1,1⟩,fp default,q⟩
 ·refine wpAny_pyIter_ascii ha ?_;exact⟨s1.heap.objs.size,[s1.heap.objs.size],_,_,H1,1,O.kept (t':=s1.toks) λb o e=>ud _ e,turn_str "str_ascii_iterator" (.inl rfl),⟨_,uG _ rfl,1,1⟩,fp default,q⟩
inductive rSlS (x:V) (lo:Option Int) (hi:Option Int) (H:Hp) (Q:VK):Prop
 |mk (z:_) (_:x= .str z) (_:z.length<=sizeLine) (_:Q (.str (Txt.slice z lo hi)) H)
noncomputable def tokOf:o6->om (Int×Tok)
 | .int i t=>some (i,t)
 |_=>none
theorem sl_str:SlR X rSlS:=by
 intro oq s σ H x v O U lo hi sl Q I rx hs pl pu h;obtain⟨z,rfl,hz,q⟩:=h;obtain⟨t,rfl⟩:=rx;exists "str",_,F.slot_str_getitem.lookup,vN _ _ _;have Z:O=partValue (tokOf O)/\lo=(tokOf O).map (·.1):=by cases pl<;>exact⟨1,1⟩
 have hu:U=partValue (tokOf U)/\hi=(tokOf U).map (·.1):=by cases pu<;>exact⟨1,1⟩
 obtain⟨o,e1,e2,e3⟩:=hs;refine vb (n:=1) I.tk ?_;refine wpAny_getItem_str_slice (l:=tokOf O) (u:=tokOf U) (st:=none) ⟨o,e1,e2,by rw [e3,<-Z.1,<-hu.1];rfl⟩ rfl ?_
 refine post_val_or_str ⟨?_,λt' k=> ?_⟩
 ·exact uL (Txt.slice_le z _ _) hz
 ·intro htk;exact⟨.str (Txt.slice z lo hi),H,I.tok k,⟨t',by rw [Z.2,hu.2];rfl⟩,q⟩
theorem qT {K:o0}(U:X.K=K):Y6 X (.builtin "isinstance") (λxs H Q=>∃x T t b,xs= [x,.ty T]/\TyOf K H x t/\PySem.W.kitOne K t (.type T)=some b/\Q (.bl b) H):=by
 intro oq s σ H xs us Q I r h;obtain⟨x,T,t,b,rfl,ty,e,q⟩:=h;obtain⟨u,Z,rfl,ru,O⟩:=vals2 r;cases O;subst U;exact vb (n:=1) I.tk (isinst_ok I ru ty e λtk htk=>⟨.bl b,H,I.tok tk,1,q⟩)
theorem all_range:∀bs:oj Bool,(List.range bs.length).all (λi=>bs.getD i true)=bs.all id
 | []=>rfl
 |b::r=>by
  rw [um,List.range_succ_eq_map,vo,Uy,vo];have e:(List.range r.length).all ((λi=>(b::r).getD i true)∘Nat.succ)=(List.range r.length).all λi=>r.getD i true:=by
   congr 1
  rw [e,all_range r]
  rfl
theorem Z3 (hc:X.calm=true):Y6 X (.builtin "all") (λxs H Q=>∃(p:o3) (bs:oj Bool),xs= [.ref p]/\SqL X.K H p (bs.map V.bl)/\Q (.bl (bs.all id)) H):=by
 intro oq s σ H xs us Q I r h;obtain⟨p,bs,rfl,hp,q⟩:=h;obtain⟨u,rfl,ru⟩:=XA r;cases ru;obtain⟨its,rv,pl,hz⟩:=I.list hp;have aa:p<s.heap.objs.size:=by obtain⟨o,n,e,_⟩:=pl;exact uF e
 refine vb (n:=1) I.tk ?_;refine call_all_walk (UL pl.isList ?_);have up:∀b o,s.heap.get? b=some o->(s.heap.push {cls:= .type "list_iterator",data:= .fields #[.ref p,.int 0 0]}).get? b=some o:=λb o e=>ud _ e;have hl:its.length=bs.length:=by have:=rv.length;simpa using this.symm
 refine⟨s.heap.objs.size,_,_,_,_,_,λi=>bs.getD i true,1,Walks.list (show X.A.in1.handled=none from I.ok.hd hc) s.heap.objs.size p (uP aa) its.toArray,⟨⟨_,uG _ rfl,1,1⟩,pl.isList.push _⟩,?_,?_⟩
 ·intro i v s' Q' E' hv hQ;have O:its[i]? =some v:=by simpa using hv
  have hi:i<its.length:=(Aa.mp O).1;obtain⟨u,e1,e2⟩:=rv.get (i:=i) (x:= .bl (bs[i]'())) (by simp [show i<bs.length by omega])
  rw [O] at e1;cases e1;cases e2;have:bs.getD i true=bs[i]'():=by simp [List.getD,show i<bs.length by omega]
  have U:Q' (bs.getD i true) s':=hQ;rw [this] at U;exact vv U
 ·intro h' tk kk htk;have Z:(List.range its.toArray.size).all (λi=>bs.getD i true)=bs.all id:=by
   rw [uu,hl];exact all_range bs
  rw [Z];have I1:=I.kept (t':=s.toks) (h':=s.heap.push {cls:= .type "list_iterator",data:= .fields #[.ref p,.int 0 0]}) up;have ac:=I.fpOk (ui _) (I.hok.fresh (ui s.heap.objs.size));obtain⟨f0,f1,f2,f3,f4,f5⟩:=ac;exact⟨.bl (bs.all id),H,I1.turned (it:=s.heap.objs.size) (λb o hb e=>kk b o (by simpa using hb) e) f0 f1 f3 f4 f5,1,q⟩
end
section
variable {X:Cx}
theorem kj {x:Str}{i:Int}{pos:Pos}(O:Gl X x)(hm:∃t,X.mg x=some (.int i t))(hd:(x==("__debug__":Str))=false):PE X (.Name x pos) (tC (.int i)):=by
 obtain⟨t,hm⟩:=hm;exact pe_glob O hm ⟨t,1⟩ hd
theorem pe_gS {x z:Str}{pos:Pos}(O:Gl X x)(hm:∃t,X.mg x=some (.str z t))(hd:(x==("__debug__":Str))=false):PE X (.Name x pos) (tC (.str z)):=by
 obtain⟨t,hm⟩:=hm;exact pe_glob O hm ⟨t,1⟩ hd
theorem pe_gR {x:Str}{a:o3}{pos:Pos}(O:Gl X x)(hm:X.mg x=some (.ref a))(hd:(x==("__debug__":Str))=false):PE X (.Name x pos) (tC (.ref a)):=pe_glob O hm rfl hd
end
variable {H:Hp}{p:o3}
theorem qf (h:H p=none)(o:HO):Same H (upd H p o):=λb u q=>by rw [qh (qk q h)];exact q
noncomputable def Kept (p:o3)(H H':Hp):Prop:=∀b o,H b=some o->b≠p->H' b=some o
theorem Kept.refl (p:o3)(H:Hp):Kept p H H:=λ_ _ h _=>h
variable {H1 H2:Hp}
theorem Kept.trans (a:Kept p H H1)(b:Kept p H1 H2):Kept p H H2:=λc o h n=>b c o (a c o h n) n
theorem Kept.upd (p:o3)(H:Hp)(o:HO):Kept p H (L2.upd H p o):=λb u h n=>by rw [qh n];exact h
variable {H':Hp}
theorem Kept.same (k:Kept p H1 H')(s:Same H H1)(n:H p=none):Same H H':=λb o h=>k b o (s b o h) (qk h n)
variable {i:Int}
theorem Yk {α:Type}{xs:oj α}(h0:0<=i)(h1:i<xs.length):∃c,atI xs i=some c:=by
 obtain⟨n,rfl⟩:∃n:Nat,i=(n:Int):=⟨i.toNat,()⟩
 have hn:n<xs.length:=by omega
 exact⟨xs[n],QF (uj hn)⟩
noncomputable def clOf (cells:oj (Str×o3)):oj (Str×NameKind)->oj (Str×o3)->oj (Str×o3)
 | [],cs=>cs
 |(n,k)::r,cs=>clOf cells r (if k== .free then(match cells.lookup n with|some a=>(n,a)::cs|none=>cs) else cs)
theorem kt {cells:oj (Str×o3)}:∀{names:oj (Str×NameKind)}{cs:oj (Str×o3)},(∀y c,cs.lookup y=some c->cells.lookup y=some c)->∀y c,(clOf cells names cs).lookup y=some c->cells.lookup y=some c
 | [],_,h=>h
 |(n,k)::r,cs,h=>by
  unfold clOf;refine kt λy c e=> ?_;split at e
  ·split at e
   ·rename_i a ha
    rw [ve] at e;split at e
    ·rename_i U
     have O:y=n:=beq_iff_eq.mp U;subst O;cases e;exact ha
    ·exact h y c e
   ·exact h y c e
  ·exact h y c e
theorem clOf_keep {cells:oj (Str×o3)}:∀{names:oj (Str×NameKind)}{cs:oj (Str×o3)}{y:Str},(∃c,cs.lookup y=some c)->∃c,(clOf cells names cs).lookup y=some c
 | [],_,_,h=>h
 |(n,k)::r,cs,y,h=>by
  unfold clOf;refine clOf_keep ?_;split
  ·split
   ·rw [ve];split
    ·exact⟨0⟩
    ·exact h
   ·exact h
  ·exact h
theorem kZ {cells:oj (Str×o3)}:∀{names:oj (Str×NameKind)}{cs:oj (Str×o3)}{y:Str},(y,NameKind.free)∈names->(∃c,cells.lookup y=some c)->∃c,(clOf cells names cs).lookup y=some c
 | [],_,_,h,_=>nomatch h
 |(n,k)::r,cs,y,h,O=>by
  unfold clOf;rcases A5.mp h with e|h
  ·cases e;refine clOf_keep ?_;obtain⟨c,O⟩:=O;rw [A3 (),O]
   exact⟨c,by simp [ve]⟩
  ·exact kZ h O
theorem X9 {env:Env}:∀{names:oj (Str×NameKind)}{cs:oj (Str×o3)},(∀y,(y,NameKind.free)∈names->∃c,env.cells.lookup y=some c)->
  (forIn names cs λx r=>(do
   if x.2== .free then
    let a<-cellOf env x.1
    pure (ForInStep.yield ((x.1,a)::r))
   else pure (ForInStep.yield r):Sem (ForInStep (oj (Str×o3)))))=(pure (clOf env.cells names cs):Sem (oj (Str×o3)))
 | [],cs,_=>rfl
 |(n,k)::r,cs,h=>by
  rw [Ul];have Z:∀y,(y,NameKind.free)∈r->∃c,env.cells.lookup y=some c:=λy hy=>h y (uc _ hy);unfold clOf;by_cases O:(k==NameKind.free)=true
  ·have U:k= .free:=by simpa using O
   subst U;obtain⟨c,hc⟩:=h n uf;have e:cellOf env n=pure c:=by unfold cellOf;rw [hc]
   simp only [O,if_true,e,hc,pure_bind];exact X9 Z
  ·simp only [A2 O,pure_bind];exact X9 Z
theorem WN {scope:Scope}{env:Env}(h:∀y,(y,NameKind.free)∈scope.names->∃c,env.cells.lookup y=some c):closureFor scope env=pure (clOf env.cells scope.names []):=by
 unfold closureFor;have q:=X9 (cs:= []) h;show(forIn scope.names ([]:oj (Str×o3)) (λx r=>(do
   if x.2== .free then
    let a<-cellOf env x.1
    pure (ForInStep.yield ((x.1,a)::r))
   else pure (ForInStep.yield r):Sem (ForInStep (oj (Str×o3)))))>>=λcs=>pure cs)=_
 rw [q,pure_bind]
theorem zG {env:Env}(hf:env.scope.kind= .function):∀{names:oj (Str×NameKind)}{x:Str},names.lookup x=some .free->env.kindOf x=some .cell->
  (names.map λ(n,k)=>if(k==NameKind.free&&env.scope.kind== .function&&env.kindOf n==some .cell) then(n,NameKind.cell) else(n,k)).lookup x=some .cell
 | [],_,h,_=>by simp at h
 |(n,k)::r,x,h,hc=>by
  have ih:= @zG env hf r x;show List.lookup x ((if(k==NameKind.free&&env.scope.kind== .function&&env.kindOf n==some .cell)=true then(n,NameKind.cell) else(n,k))::_)=_
  cases O:x==n with
  |true=>
   simp only [ve,O] at h;cases h;have Z:x=n:=beq_iff_eq.mp O;subst Z;rw [A3 (by rw [hf,hc];rfl)]
   simp [ve]
  |false=>
   simp only [ve,O] at h;by_cases U:(k==NameKind.free&&env.scope.kind== .function&&env.kindOf n==some .cell)=true
   ·rw [A3 U];simp only [ve,O];exact ih h hc
   ·rw [A2 U];simp only [ve,O];exact ih h hc
theorem ZI {env:Env}:∀{names:oj (Str×NameKind)}{x:Str},(∀y∈names,y.2≠ .cell)->
  ((names.map λ(n,k)=>if(k==NameKind.free&&env.scope.kind== .function&&env.kindOf n==some .cell) then(n,NameKind.cell) else(n,k)).lookup x=some .cell∨
   (names.map λ(n,k)=>if(k==NameKind.free&&env.scope.kind== .function&&env.kindOf n==some .cell) then(n,NameKind.cell) else(n,k)).lookup x=some .free)->(x,NameKind.free)∈names
 | [],_,_,h=>by simp at h
 |(n,k)::r,x,hn,h=>by
  have ih:= @ZI env r x (λy hy=>hn y (uc _ hy));have g:List.lookup x ((if(k==NameKind.free&&env.scope.kind== .function&&env.kindOf n==some .cell)=true then(n,NameKind.cell) else(n,k))::(r.map λ(n,k)=>if(k==NameKind.free&&env.scope.kind== .function&&env.kindOf n==some .cell) then(n,NameKind.cell) else(n,k)))=some .cell∨
   List.lookup x ((if(k==NameKind.free&&env.scope.kind== .function&&env.kindOf n==some .cell)=true then(n,NameKind.cell) else(n,k))::(r.map λ(n,k)=>if(k==NameKind.free&&env.scope.kind== .function&&env.kindOf n==some .cell) then(n,NameKind.cell) else(n,k)))=some .free:=h
  have aa:k≠ .cell:=hn (n,k) uf;by_cases Z:(k==NameKind.free&&env.scope.kind== .function&&env.kindOf n==some .cell)=true
  ·rw [A3 Z] at g;have hk:k= .free:=by
    rw [uz,uz] at Z
    simpa using Z.1.1
   subst hk;cases U:x==n with
   |true=>
    have O:x=n:=beq_iff_eq.mp U;subst O;exact uf
   |false=>
    simp only [ve,U] at g;exact uc _ (ih g)
  ·rw [A2 Z] at g;cases U:x==n with
   |true=>
    have O:x=n:=beq_iff_eq.mp U;subst O;simp only [ve,U] at g;rcases g with g|g
    ·exact absurd (uI g) aa
    ·rw [show k=NameKind.free from uI g]
     exact uf
   |false=>
    simp only [ve,U] at g;exact uc _ (ih g)
noncomputable abbrev blk (X:Cx)(scope:Scope)(Nb:oj Str)(cl:oj (Str×o3))(C:o3)(s₀:o7)(H₀:Hp)(fp:oj o3)(pn:oj (o3×Obj)):Cx:=
 {X with N:=Nb,s₀:=s₀,H₀:=H₀,env:=compEnvC scope cl C X.env,outer:=X.stack,ex:=fp,fn:=λ_=>false,pn:=pn,xe:=λ_ _=>False}
structure LcS (X:Cx)(scope:Scope)(Nb:oj Str)(nt:Nat)(fr:oj Nat):Prop where
 kind:scope.kind= .function
 cell:∀y∈scope.names,y.2≠ .cell
 names:∀y∈scope.names,y.2= .local->scope.names.lookup y.1=some .local
 free:∀y∈scope.names,y.2= .free->X.env.kindOf y.1=some .cell
 len:Nb.length=nt+fr.length
 fr:∀(k j:Nat) (x:Str),fr[k]? =some j->Nb[nt+k]? =some x->X.N[j]? =some x/\scope.names.lookup x=some .free
noncomputable def sigB (nt:Nat)(fr:oj Nat)(σ:St):St:=List.replicate nt none++fr.map λj=>(σ[j]?).join
section
variable {pr:o9}{wo:og}{ar:oh}{RR:Result->o7->Prop}{st:o7}
noncomputable abbrev nb (pr:o9)(wo:og)(ar:oh)(en:Env)(RR:Result->o7->Prop):o6->o7->Prop:=notedBy (model pr wo) ar en λx t=>RR (.error x) t
noncomputable abbrev tsts (en:Env)(cs:oj Expr):Sem Bool:=forIn cs true λc b=>if b=true then do let y<-isTrue c en (eval c en);pure (ForInStep.yield y) else pure (ForInStep.yield b)
theorem compLoop_by {el tg Z:Expr}{cs:oj Expr}{sc:Scope}{ps:Pos}{O U:o6}{en:Env}(J:Nat->o7->Prop)
  (turn:∀k t,J k t->wpAny (model pr wo) ar (pyNext O) (λr t1=>match r with
   |none=>RR (.ok .next) t1
   |some v=>wpAny (model pr wo) ar (letOwnedTupleGo tg O v) (λ_ t2=>wpAny (model pr wo) ar (assign tg en v) (λ_ t3=>wpAny (model pr wo) ar (tsts en cs) (λb t4=>
     if b=true then wpAny (model pr wo) ar (eval el en) (λx t5=>wpAny (model pr wo) ar (call (.builtin "list.append") [U,x]) (λ_ t6=>∃m,m<k/\J m t6) (nb pr wo ar en RR) t5) (nb pr wo ar en RR) t4
     else∃m,m<k/\J m t4) (nb pr wo ar en RR) t3) (nb pr wo ar en RR) t2) (nb pr wo ar en RR) t1) (nb pr wo ar en RR) t)
  (k:Nat) (h0:J k st):codeAny (model pr wo) ar (.compLoop (.ListComp el [⟨tg,Z,cs,(0)⟩] sc ps) 0 O U en) RR st:=by
 refine codeAny_loop rfl J (λk t hJ=> ?_) k h0;show wpAny _ ar ((compTurn (.ListComp el [⟨tg,Z,cs,(0)⟩] sc ps) 0 O U en).onRaise λx=>do noteFrame x en;theTreesLotGoes x) _ _ t
 rw [compTurn_list];refine wpAny_noted (A4 (wpAny_standAt (A4 (thn (turn k t hJ) λr t1 q1=> ?_))));cases r with
 |none=>exact uB q1
 |some v=>
  refine A4 (thn q1 λ_ t2 q2=>A4 (thn q2 λ_ t3 q3=>A4 (thn q3 λb t4 q4=> ?_)));cases b with
  |false=>exact uB ⟨1,q4⟩
  |true=>exact A4 (A4 (thn q4 λx t5 q5=>A4 (thn q5 λ_ t6 q6=>uB (uB ⟨1,q6⟩))))
end
noncomputable def PIfs (X:Cx)(ifs:oj Expr)(t:TT):Prop:=
 ∀(oq:oj (o3×Obj)) (s:o7) (σ:St) (H:Hp) (Q:Bool->Hp->Prop),Inv X oq σ H s->t σ H Q->wpAny #[X,X] X.A (tsts X.env ifs) (TP X oq σ Q) X.xe s
noncomputable def tYes:TT:=λ_ H Q=>Q true H
theorem Yo {X:Cx}:PIfs X [] tYes:=λ_ _ _ H _ I h=>wpAny_tests_nil ⟨H,I,h⟩
theorem pif_one {X:Cx}{c:Expr}{t:TT}(h:PT X c t):PIfs X [c] t:=λoq s σ H Q I O=>wpAny_tests_one (h oq s σ H Q I O)
noncomputable def lcGo (D:o3)(J:It)(g:TG)(tc:TT)(te:TE)(σb:St)(H1:Hp)(Q:VK):Prop:=
 ∃(n:Nat) (W:Nat->St->oj V->Hp->Prop),n<=sizeLine/\W 0 σb [] (upd H1 D (.lst []))/\
  (∀i σ ys H,i<n->W i σ ys H->H D=some (.lst ys)->ys.length<=i->J.go i H/\∀x H',J.yld i H x H'->g x σ H' λσ2 H2=>tc σ2 H2 λb H3=>
   if b=true then te σ2 H3 λy H4=>H4 D=some (.lst ys)/\W (i+1) σ2 (ys++ [y]) (upd H4 D (.lst (ys++ [y]))) else H3 D=some (.lst ys)/\W (i+1) σ2 ys H3)/\
  ∀σ ys H,W n σ ys H->H D=some (.lst ys)->J.stop n H/\Q (.ref D) H
noncomputable def tLC (nt:Nat)(fr:oj Nat)(wi:TI)(g:TG)(tc:TT)(te:TE):TE:=λσ H Q=>wi σ H λJ H1=>∀D,H1 D=none->lcGo D J g tc te (sigB nt fr σ) H1 Q
section
variable {X:Cx}{scope:Scope}{Nb:oj Str}{nt:Nat}{fr:oj Nat}
theorem inv_blk {oq:oj (o3×Obj)}{σ:St}{H:Hp}{s:o7}{fp:oj o3}{C:o3}{h4:o8}{tk:Nat}(S:LcS X scope Nb nt fr)(I:Inv X oq σ H s)(hC:C=s.heap.objs.size)
  (ag:h4.Ns C λ_=>none) (U:∀b o,s.heap.get? b=some o->h4.get? b=some o) (hf:∀b∈fp,FpOk X oq H b) (ho:∀b∈fp,∃o,s.heap.get? b=some o) (ht:0<tk:=by ac_rfl):
  Inv (blk X scope Nb (clOf X.env.cells scope.names []) C s H fp (X.pn++oq)) [] (sigB nt fr σ) H {s with heap:=h4,toks:=tk}:=by
 subst hC;have sub:∀y c,(clOf X.env.cells scope.names []).lookup y=some c->X.env.cells.lookup y=some c:=kt λy c e=>by simp at e
 have Z:∀y,(y,NameKind.free)∈scope.names->X.env.kindOf y=some .cell:=λy hy=>S.free _ hy rfl;have ad:∀b o,s.heap.get? b=some o->b≠s.heap.objs.size:=λb o e z=>by rw [z] at e;exact absurd (uF e) (vA _)
 have O:∀b,b≠X.env.locals->b∉X.fs->b∉frs X.stack:=λb h1 h2 z=>(A5.mp (I.stkSub b z)).elim h1 h2;refine⟨⟨I.ok.mod,S.kind,I.ok.glob,I.ok.blt,ui _,λx y c h1 h2=>I.ok.inj x y c (sub x c h1) (sub y c h2),λx hx=> ?_,λx c z=>(by cases z),I.ok.hd,I.ok.frames,.inl rfl,λb hb=> ?_,I.bs,uL I.ok.bsz I.sz,λb o e hb=> ?_,λb hb=> ?_,I.stack,I.stkFree⟩,1,I.bare,Un.kept U,⟨_,ag,λi x v e1 e2 e3=> ?_⟩,λx c e=> ?_,I.hok.fresh (ui _),λx c e=>I.freeC x c (sub x c e),λp hp=> ?_,I.hok.kept U,?_,ht⟩
 ·have hm:=ZI (env:=X.env) S.cell hx;exact kZ hm (I.ok.has x (.inl (Z x hm)))
 ·obtain⟨o,e⟩:=ho b hb;exact⟨ad b o e,λx c e'=>(hf b hb).2.2.2.2.1 x c (sub x c e')⟩
 ·rcases(hf b hb).2.2.2.1 with z|z
  ·exact I.ok.noex b o e z
  ·exact absurd (Nat.lt_of_lt_of_le (uF e) (uL I.ok.bsz z)) (vA _)
 ·exact O b (hf b hb).2.1 (hf b hb).2.2.1
 ·
  have hi:nt<=i:=by
   rcases US i nt with z|z
   ·unfold sigB at e2;rw [Uv (by simpa using z),List.getElem?_replicate] at e2
    split at e2<;>cases e2
   ·exact z
  obtain⟨k,rfl⟩:∃k,i=nt+k:=⟨i-nt,()⟩
  unfold sigB at e2;rw [Ut (by simp)] at e2
  simp only [List.length_replicate,Nat.add_sub_cancel_left,uH] at e2;cases ej:fr[k]? with
  |none=>rw [ej] at e2;cases e2
  |some j=>
   rw [ej] at e2;have aa:(σ[j]?).join=some v:=uI e2;have ae:σ[j]? =some (some v):=by
    cases q:σ[j]? with
    |none=>rw [q] at aa;cases aa
    |some z=>rw [q] at aa;exact congrArg some aa
   obtain⟨n1,n2⟩:=S.fr k j x ej e1;have kx:X.env.kindOf x=some .cell:=Z x (vI n2);obtain⟨m,hn,hl⟩:=I.loc;obtain⟨u,r,l⟩:=hl j x v n1 ae (.inr (.inl kx));refine⟨u,r,.inr ⟨.inl (zG I.ok.kind n2 kx),?_⟩⟩;rcases l with⟨z,_⟩|⟨_,c,ec,ac⟩
   ·rw [kx] at z;cases z
   ·obtain⟨c',af⟩:=kZ (cells:=X.env.cells) (cs:= []) (vI n2) ⟨c,ec⟩;have:=sub x c' af;rw [ec] at this;cases this;obtain⟨o,q,d⟩:=ac;exact⟨c,af,o,U c o q,d⟩
 ·obtain⟨v,o,q,d⟩:=I.cell x c (sub x c e);exact⟨v,o,U c o q,d⟩
 ·have ah:p∈X.pn++oq:=by simpa using hp
  obtain⟨e,n,ne,nf,d⟩:=I.pin p ah;exact⟨U _ _ e,n,ad _ _ e,O _ ne nf,d⟩
 ·show(sigB nt fr σ).length=Nb.length;unfold sigB;rw [S.len];simp
theorem lc_core {tg aa al:Expr}{am:oj Expr}{wi:TI}{g:TG}{tc:TT}{te:TE}{pos:Pos}{R:o6->o3->Result->o7->Prop}{oq:oj (o3×Obj)}{s:o7}{σ:St}{H:Hp}{Q:VK}(S:LcS X scope Nb nt fr)(ao:X.calm=true)(hi:PI X tg aa wi)
  (hg:∀cl C s₀ H₀ fp pn,PG (blk X scope Nb cl C s₀ H₀ fp pn) tg g) (hc:∀cl C s₀ H₀ fp pn,PIfs (blk X scope Nb cl C s₀ H₀ fp pn) am tc) (he:∀cl C s₀ H₀ fp pn,PE (blk X scope Nb cl C s₀ H₀ fp pn) al te)
  (I:Inv X oq σ H s) (h:tLC nt fr wi g tc te σ H Q)
  (hR:∀(D C:o3) (H':Hp) (s1:o7) (m:Str->om o6),Inv X oq σ H' s1->s1.heap.Ns C m->FpOk X oq H' C->Q (.ref D) H'->R (.ref D) C (.ok .next) s1):
  wpAny #[X,X] X.A (eval aa X.env) (λx s₁=>wpAny #[X,X] X.A (pyIter x) (λit s₂=>wpAny #[X,X] X.A (newList []) (λax s₃=>
   wpAny #[X,X] X.A (newFunctionEnv scope X.env.globals (clOf X.env.cells scope.names []) [] X.env.qual none .none (some X.env)) (λag s₄=>
    codeAny #[X,X] X.A (.compStart (.ListComp al [⟨tg,aa,am,(0)⟩] scope pos) 0 it ax {ag with scope:=relabel scope X.env}) (R ax ag.locals) s₄) X.xe s₃) X.xe s₂) X.xe s₁) X.xe s:=by
 refine thn (hi oq s σ H _ I h) λv s1 h1=>thn h1 λaS s2 h2=> ?_;obtain⟨it,fp,tn,J,H2,e,I2,T,ap,f2,q2⟩:=h2;subst e;have ay:H2 s2.heap.objs.size=none:=I2.hok.fresh (ui _);obtain⟨n,W,hn,w0,step,fin⟩:=q2 _ ay;generalize hD:s2.heap.objs.size=D at*;refine vw ?_;rw [hD];have I3:Inv X oq σ (upd H2 D (.lst [])) {s2 with heap:=s2.heap.push {cls:= .type "list",data:= .seq ([]:oj o6).toArray}}:=by
  have:=I2.lnew (ys:= []) (its:= []) (t':=s2.toks) .nil (v7 _);rwa [hD] at this
 refine wpAny_newFunctionEnv S.cell (by intro y hy;simp at hy) (λh4 ad aq=> ?_) S.kind
 dsimp only at ad aq⊢;generalize aA:s2.heap.push {cls:= .type "list",dict:=none,data:= .seq ([]:oj o6).toArray}=h3 at ad aq I3⊢;have hC:h3.objs.size=D+1:=by rw [<-aA,vi,hD]
 have ae:∀b o,h3.get? b=some o->h4.get? b=some o:=λb o e=>aq.extBut b o (uP (uF e)) (ud _ e);have Z:∀b o,s2.heap.get? b=some o->h3.get? b=some o:=λb o e=>by rw [<-aA];exact ud _ e
 have au:∀b∈fp,∃o,s2.heap.get? b=some o:=λb O=>let⟨o,e,_⟩:=T.obj _ _ ap b O;⟨o,e⟩;have aG:∀b∈fp,b≠D:=λb O z=>by
  obtain⟨o,e⟩:=au b O;have q:=uF e;rw [z,hD] at q;exact vA _ q
 have f3:∀b∈fp,FpOk X oq (upd H2 D (.lst [])) b:=λb O=>⟨by rw [qh (aG b O)];exact(f2 b O).1,(f2 b O).2⟩
 have IB:=inv_blk (C:=h3.objs.size) (h4:=h4) (tk:=s2.toks+([]:oj (Str×o6)).length) (fp:=fp) S I3 rfl ad ae f3 λb O=>let⟨o,e⟩:=au b O;⟨o,Z b o e⟩;generalize U:blk X scope Nb (clOf X.env.cells scope.names []) h3.objs.size {s2 with heap:=h3} (upd H2 D (.lst [])) fp (X.pn++oq)=Xb at IB
 have gB:=hg (clOf X.env.cells scope.names []) h3.objs.size {s2 with heap:=h3} (upd H2 D (.lst [])) fp (X.pn++oq)
 have cB:=hc (clOf X.env.cells scope.names []) h3.objs.size {s2 with heap:=h3} (upd H2 D (.lst [])) fp (X.pn++oq)
 have eB:=he (clOf X.env.cells scope.names []) h3.objs.size {s2 with heap:=h3} (upd H2 D (.lst [])) fp (X.pn++oq)
 rw [U] at gB cB eB;have xP:Xb.prog=X.prog:=by rw [<-U]
 have xW:Xb.w=X.w:=by rw [<-U]
 have xK:Xb.K=X.K:=by rw [<-U]
 have xA:Xb.A=X.A:=by rw [<-U]
 have xC:Xb.calm=true:=by rwa [<-U]
 have xE:Xb.env=compEnvC scope (clOf X.env.cells scope.names []) h3.objs.size X.env:=by rw [<-U]
 have xX:Xb.xe=λ_ _=>False:=by rw [<-U]
 have af:∀{H':Hp},(∀b∈fp,H' b=none)->∀b∈fp,FpOk Xb [] H' b:=λhn b O=>by
  obtain⟨g1,g2,g3,g4,g5,g6⟩:=f2 b O;obtain⟨o,e⟩:=au b O;subst U;refine⟨hn b O,λz=> ?_,λz=>(A5.mp (I2.stkSub b z)).elim g2 g3,.inl O,λx c ec=>g5 x c (kt (λy c e=>by simp at e) x c ec),λp hp=>g6 p (by simpa using hp)⟩
  have ac:=uF (Z b o e);have z':b=h3.objs.size:=z;rw [z'] at ac;exact vA _ ac
 have ah:∀s5:o7,s5={s2 with heap:=h4,toks:=s2.toks+([]:oj (Str×o6)).length}->
   codeAny #[X,X] X.A (.compLoop (.ListComp al [⟨tg,aa,am,(0)⟩] scope pos) 0 (.ref it) (.ref D) (compEnvC scope (clOf X.env.cells scope.names []) h3.objs.size X.env))
    (R (.ref D) h3.objs.size) s5:=by
  rintro s5 rfl;refine compLoop_by (λk s'=>∃i σ' ys H',Inv Xb [] σ' H' s'/\tn i s'.heap/\(∀b∈fp,H' b=none)/\H' D=some (.lst ys)/\i<=n/\k=n-i/\ys.length<=i/\W i σ' ys H') ?_ n
   ⟨(0),sigB nt fr σ,[],_,IB,T.keep _ _ _ ap λb O o e=>ae b o (Z b o e),λb O=>(f3 b O).1,qg,v7 _,1,ui _,w0⟩
  rintro k s' ⟨i,σ',ys,H',I',aB,aC,aD,aH,rfl,aI,w'⟩;rcases US i n with ac|aJ
  ·obtain⟨go,next⟩:=step i σ' ys H' ac w' aD aI;have ti:=T.item Xb xP xW xK xC i [] s' σ' H' (λ_ _=>False) I' (af aC) aB go;rw [xA] at ti;refine vM ti (λr s1 h1=> ?_) λ_ _ z=>z.elim;obtain⟨u,rfl,h1⟩:=h1;refine vM h1 (λ_ aE aK=> ?_) λ_ _ z=>z.elim;obtain⟨x,H5,I5,r5,y5,aw,aL⟩:=aK;have aM:=I5.pinned (af aL) (T.obj _ _ aw);have ga:=gB _ aE σ' H5 x u _ aM r5 (next x H5 y5);rw [xP,xW,xA,xE,xX] at ga;refine vM ga (λ_ s3 aN=> ?_) λ_ _ z=>z.elim;obtain⟨σ6,H6,I6,q6⟩:=aN;have ca:=cB _ s3 σ6 H6 _ I6 q6;rw [xP,xW,xA,xE,xX] at ca;refine vM ca (λok s4 aO=> ?_) λ_ _ z=>z.elim;obtain⟨H7,I7,q7⟩:=aO;have ak:∀{σ8:St}{H8:Hp}{s8:o7},Inv Xb ([]++pinsAt fp aE.heap) σ8 H8 s8->Inv Xb [] σ8 H8 s8/\tn (i+1) s8.heap/\∀b∈fp,H8 b=none:=λ{σ8 H8 s8} I8=>by
    refine⟨I8.unpinned,T.keep _ _ _ aw λb O o e=>(I8.pin (b,o) (uK _ (uK _ (JH O e)))).1,λb O=> ?_⟩;obtain⟨o,e,d⟩:=T.obj _ _ aw b O;exact(I8.pin (b,o) (uK _ (uK _ (JH O e)))).2.1
   cases ok with
   |false=>
    rw [A2 ub] at q7⊢;obtain⟨b1,b2,b3⟩:=ak I7;exact⟨n-(i+1),(),i+1,σ6,ys,H7,b1,b2,b3,q7.1,ac,1,(),q7.2⟩
   |true=>
    rw [A3 rfl] at q7⊢;have ea:=eB _ s4 σ6 H7 _ I7 q7;rw [xP,xW,xA,xE,xX] at ea;refine vM ea (λy s5 h5=> ?_) λ_ _ z=>z.elim;obtain⟨yv,H8,I8,r8,aP,q8⟩:=h5;have ma:=Yv (X:=Xb) _ s5 σ6 H8 (.ref D) [yv] (.ref D) [y] (λ_ H9=>H9=upd H8 D (.lst (ys++ [yv]))) I8 rfl (.cons r8 .nil) ⟨D,ys,yv,1,1,aP,(),1⟩
    rw [xP,xW,xA,xX] at ma;refine vM ma (λ_ s6 h6=> ?_) λ_ _ z=>z.elim;obtain⟨_,H9,I9,_,rfl⟩:=h6;obtain⟨b1,b2,b3⟩:=ak I9;exact⟨n-(i+1),(),i+1,σ6,ys++ [yv],_,b1,b2,b3,qg,ac,1,by rw [uA,vL];omega,q8⟩
  ·have aF:i=n:=Nat.le_antisymm aH aJ;subst aF;obtain⟨stop,hq⟩:=fin σ' ys H' w' aD;have td:=T.done Xb xP xW xK xC i [] s' σ' H' (λ_ _=>False) I' (af aC) aB stop;rw [xA] at td;refine vM td (λr s1 h1=> ?_) λ_ _ z=>z.elim;obtain⟨rfl,I6⟩:=h1;obtain⟨m,hm,_⟩:=id I6.loc;rw [xE] at hm;have aQ:H' h3.objs.size=none:=by have:=I6.free;rwa [xE] at this
   have u6:Un (frs X.stack) fp (upd H2 D (.lst [])) H' h3 s1.heap:=by have:=I6.base;subst U;exact this
   have u2:Un (frs X.stack) fp H2 (upd H2 D (.lst [])) s2.heap h3:=Un.laid (λb o e=>Z b o e) (by rw [hD];exact ui _) ay
   have aR:s1.os=s2.os:=by have:=I6.os;subst U;exact this
   have hok:HOk X.prog X.w H' s1.heap:=by
    have:=I6.hok;subst U;exact this
   refine hR D h3.objs.size H' s1 m (I2.call' (s':=s1) (ch:=fp) aR (u2.trans u6) hok I6.bare λb O=> ?_) hm (I2.fpOk () aQ) hq
   obtain⟨g1,g2,g3,g4,g5,g6⟩:=f2 b O;exact⟨g4,g2,g5,g6⟩
 exact codeAny_compStart_list (ah _ rfl) (T.self _ 0 _ _ _ (T.keep _ _ _ ap λb O o e=>ae b o (Z b o e)) (ah _ rfl))
theorem ZJ {tg O aa:Expr}{ac:oj Expr}{wi:TI}{g:TG}{tc:TT}{te:TE}{pos:Pos}(S:LcS X scope Nb nt fr)(U:X.calm=true)(hi:PI X tg O wi)
  (hg:∀cl C s₀ H₀ fp pn,PG (blk X scope Nb cl C s₀ H₀ fp pn) tg g) (hc:∀cl C s₀ H₀ fp pn,PIfs (blk X scope Nb cl C s₀ H₀ fp pn) ac tc) (he:∀cl C s₀ H₀ fp pn,PE (blk X scope Nb cl C s₀ H₀ fp pn) aa te)
  (hs:∀x,foldedSetIterable O X.env x=pure x):PE X (.ListComp aa [⟨tg,O,ac,(0)⟩] scope pos) (tLC nt fr wi g tc te):=by
 intro oq s σ H Q I h;have Z:closureFor scope X.env=pure (clOf X.env.cells scope.names []):=WN λy hy=>I.ok.has y (.inl (S.free _ hy rfl));rw [eval_ListComp];refine wpAny_comprehension_free (use:=none) rfl hs Z S.kind S.names ?_;refine lc_core (R:=λad C=>compPost #[X,X] X.A X.xe none (EP X oq σ Q) ad C) S U hi hg hc he I h λD C H' s1 m I1 hm fc q=> ?_;obtain⟨f0,f1,f2,f3,f4,f5⟩:=fc;exact⟨m,hm,λh' ae=>⟨.ref D,H',I1.turned (t':=s1.toks) (it:=C) (λb o hb e=>(ae.2 b hb).trans e) f0 f1 f3 f4 f5,1,q⟩⟩
theorem ps_setLC {i:Nat}{y:Str}{tg O U:Expr}{Z:oj Expr}{wi:TI}{g:TG}{tc:TT}{te:TE}{pos aa py:Pos}(hN:X.N.Nodup)(ae:X.N[i]? =some y)(hy:Loc X.env.scope y)(S:LcS X scope Nb nt fr)(ac:X.calm=true)(hi:PI X tg O wi)
  (hg:∀cl C s₀ H₀ fp pn,PG (blk X scope Nb cl C s₀ H₀ fp pn) tg g) (hc:∀cl C s₀ H₀ fp pn,PIfs (blk X scope Nb cl C s₀ H₀ fp pn) Z tc) (he:∀cl C s₀ H₀ fp pn,PE (blk X scope Nb cl C s₀ H₀ fp pn) U te)
  (hs:∀x,foldedSetIterable O X.env x=pure x) (af:swapsWith (.ListComp U [⟨tg,O,Z,(0)⟩] scope pos) (some (.Name y py)) aa.line X.env=pure true)
  (hf:X.fn y=true∨X.env.scope.names.lookup y=some .local):
  PS X (.Assign [.Name y py] (.ListComp U [⟨tg,O,Z,(0)⟩] scope pos) aa) (tAsg (tLC nt fr wi g tc te) (Jn i)):=by
 intro oq s σ H D I h;have ad:closureFor scope X.env=pure (clOf X.env.cells scope.names []):=WN λy hy=>I.ok.has y (.inl (S.free _ hy rfl));rw [exec_Assign_Name_used _ _ _ _ af];refine A4 (wpAny_standAt (A4 ?_));show wpAny _ X.A (do let _<-comprehension (.ListComp U [⟨tg,O,Z,(0)⟩] scope pos) scope X.env _ (newList []) false (eval O X.env) (some (assign (.Name y py) X.env))) _ _ s
 refine A4 (vM (wpAny_comprehension_free (use:=some (assign (.Name y py) X.env)) (Q:=λ_ s'=>SP X oq D .next s') rfl hs ad S.kind S.names ?_) (λ_ s' hq=>uB (uB hq)) λ_ _ e=>e);refine lc_core (R:=λag C=>compPost #[X,X] X.A X.xe (some (assign (.Name y py) X.env)) (λ_ s'=>SP X oq D .next s') ag C) S ac hi hg hc he I h λA C H' s1 m I1 hm fc q=> ?_;obtain⟨f0,f1,f2,f3,f4,f5⟩:=fc;show wpAny _ X.A (assign (.Name y py) X.env (.ref A)) _ _ s1;refine wpAny_assign_Name (store_ok2 (v:= .ref A) I1 hN ae hy (show RelV (.ref A) (.ref A) from rfl) (λs' I' ⟨a,sb,ha⟩=> ?_) hf)
 have ah:C≠a:=by
  rcases ha with rfl|ha
  ·exact f1
  ·exact λz=>f4 y a ha z.symm
 refine⟨m,hm.sameBut sb ah,λh' ak=>⟨_,H',I'.turned (t':=s'.toks) (it:=C) (λb o hb e=>(ak.2 b hb).trans e) f0 f1 f3 f4 f5,q⟩⟩
end
theorem lcs0 {X:Cx}{sc:Scope}{x:Str}(O:sc.kind= .function:=by rfl)(U:∀y∈sc.names,y.2≠ .cell:=by decide+kernel)(hn:∀y∈sc.names,y.2= .local->sc.names.lookup y.1=some .local:=by decide+kernel)
  (Z:∀y∈sc.names,y.2≠ .free:=by decide+kernel):LcS X sc [x] 1 []:=⟨O,U,hn,λy hy e=>absurd e (Z y hy),1,λk j x h=>by simp at h⟩
theorem lcsN {X:Cx}{sc:Scope}{Nb:oj Str}{nt:Nat}{fr:oj Nat}(O:Scope)(U:oj Str)(Z:X.env.scope=O:=by rfl)(hN:X.N=U:=by rfl)(hk:sc.kind= .function:=by rfl)(hc:∀y∈sc.names,y.2≠ .cell:=by decide+kernel)
  (hn:∀y∈sc.names,y.2= .local->sc.names.lookup y.1=some .local:=by decide+kernel) (hf:∀y∈sc.names,y.2= .free->O.names.lookup y.1=some .cell:=by decide+kernel) (hl:Nb.length=nt+fr.length:=by rfl)
  (hz:((fr.zip (Nb.drop nt)).all λp=>decide (U[p.1]? =some p.2)&&decide (sc.names.lookup p.2=some .free))=true:=by decide+kernel):LcS X sc Nb nt fr:=by
 subst Z hN;refine⟨hk,hc,hn,hf,hl,λk j x h1 h2=> ?_⟩;have hm:(fr.zip (Nb.drop nt))[k]? =some (j,x):=by
  rw [List.getElem?_zip_eq_some];exact⟨h1,by rwa [List.getElem?_drop]⟩
 have q:=List.all_eq_true.mp hz _ (uZ hm);rw [uz] at q;exact⟨uq q.1,uq q.2⟩
theorem lc_str {z:Str}{D:o3}{H1:Hp}{te:TE}{tl:St}{Q:VK}(f:Nat->V)(hz:z.length<=sizeLine)(Z:H1 D=none)
  (O:∀(i c:Nat) H (R:VK),z.cps[i]? =some c->Same H1 H->R (f c) H->te (some (.str ⟨#[c]⟩)::tl) H R)
  (hQ:∀H',Same H1 H'->H' D=some (.lst (z.cps.toList.map f))->Q (.ref D) H'):lcGo D (Its z) (Jn 0) tYes te (none::tl) H1 Q:=by
 refine⟨z.cps.size,λi σ ys H=>(∃w,σ=w::tl)/\ys=(z.cps.toList.take i).map f/\Same H1 H,hz,⟨⟨none,1⟩,1,qf Z _⟩,?_,?_⟩
 ·rintro i σ ys H hi ⟨⟨w,rfl⟩,rfl,sm⟩ U hy;exists hi;rintro x H' ⟨rfl,c,hc,rfl⟩;dsimp only [Jn,tYes,List.set];rw [A3 rfl];refine O i c H' _ hc sm ⟨U,⟨some (.str ⟨#[c]⟩),1⟩,?_,?_⟩
  ·rw [vS,show z.cps.toList[i]? =some c by simpa using hc]
   simp
  ·intro b o e;rw [qh (qk e Z)];exact sm b o e
 ·rintro σ ys H ⟨_,rfl,sm⟩ U;refine⟨1,hQ H sm ?_⟩;rw [U,uR (by simp)]
mutual
noncomputable def Is (H:Hp):D->V->Prop
 | .non,v=>v= .non
 | .bl b,v=>v= .bl b
 | .int i,v=>v= .int i
 | .str z,v=>v= .str z/\z.length<=sizeLine
 | .lst,v=>∃a xs,v= .ref a/\H a=some (.lst xs)
 | .dct,v=>∃a kvs,v= .ref a/\H a=some (.dK kvs)
 | .tup xs,v=>∃a vs,v= .ref a/\H a=some (.tup vs)/\IsL H xs vs
noncomputable def IsL (H:Hp):oj D->oj V->Prop
 | [],vs=>vs= []
 |x::xs,vs=>∃v r,vs=v::r/\Is H x v/\IsL H xs r
end
structure Tk (H H':Hp):Prop where
 tup:∀b xs,H b=some (.tup xs)->H' b=some (.tup xs)
 lst:∀b xs,H b=some (.lst xs)->∃ys,H' b=some (.lst ys)
 dct:∀b xs,H b=some (.dK xs)->∃ys,H' b=some (.dK ys)
theorem Same.tk (s:Same H H'):Tk H H':=⟨λb xs e=>s b _ e,λb xs e=>⟨xs,s b _ e⟩,λb xs e=>⟨xs,s b _ e⟩⟩
theorem Tk.refl (H:Hp):Tk H H:=(Same.refl H).tk
theorem Tk.trans (a:Tk H H1)(b:Tk H1 H2):Tk H H2:=⟨λc xs e=>b.tup c xs (a.tup c xs e),λc xs e=>let⟨ys,e1⟩:=a.lst c xs e;b.lst c ys e1,λc xs e=>let⟨ys,e1⟩:=a.dct c xs e;b.dct c ys e1⟩
variable {xs ys:oj V}
theorem Kept.tk (k:Kept p H H')(h:H p=some (.lst xs))(h':H' p=some (.lst ys)):Tk H H':=by
 refine⟨λb zs e=>k b _ e λz=> ?_,λb zs e=> ?_,λb zs e=>⟨zs,k b _ e λz=> ?_⟩⟩
 ·rw [z,h] at e;cases e
 ·by_cases z:b=p
  ·exact⟨ys,z▸h'⟩
  ·exact⟨zs,k b _ e z⟩
 ·rw [z,h] at e;cases e
mutual
theorem Is.mono {H H':Hp}(t:Tk H H'):∀{d:D}{v:V},Is H d v->Is H' d v
 | .non,_,h=>h
 | .bl _,_,h=>h
 | .int _,_,h=>h
 | .str _,_,h=>h
 | .lst,_,h=>by
  obtain⟨a,vs,e,ha⟩:=h;obtain⟨ys,q⟩:=t.lst a vs ha;exact⟨a,ys,e,q⟩
 | .dct,_,h=>by
  obtain⟨a,vs,e,ha⟩:=h;obtain⟨ys,q⟩:=t.dct a vs ha;exact⟨a,ys,e,q⟩
 | .tup xs,_,h=>by
  obtain⟨a,vs,e,ha,O⟩:=h;exact⟨a,vs,e,t.tup a vs ha,IsL.mono t O⟩
theorem IsL.mono {H H':Hp}(t:Tk H H'):∀{ds:oj D}{vs:oj V},IsL H ds vs->IsL H' ds vs
 | [],_,h=>h
 |_::_,_,h=>by
  obtain⟨v,r,e,h1,h2⟩:=h;exact⟨v,r,e,Is.mono t h1,IsL.mono t h2⟩
end
theorem IsL.length {H:Hp}:∀{ds:oj D}{vs:oj V},IsL H ds vs->vs.length=ds.length
 | [],_,h=>by cases(show _= [] from h);rfl
 |_::_,_,h=>by
  obtain⟨v,r,rfl,_,h2⟩:=h;rw [um,um,IsL.length h2]
theorem IsL.get {H:Hp}:∀{ds:oj D}{vs:oj V}{i:Nat}{d:D},IsL H ds vs->ds[i]? =some d->∃v,vs[i]? =some v/\Is H d v
 | [],_,_,_,_,e=>by simp at e
 |x::_,_,0,d,h,e=>by
  obtain⟨v,r,rfl,h1,_⟩:=h;have:x=d:=by simpa using e
  exact⟨v,1,this▸h1⟩
 |_::_,_,i+1,d,h,e=>by
  obtain⟨v,r,rfl,_,h2⟩:=h;obtain⟨u,O,U⟩:=IsL.get (i:=i) (d:=d) h2 (by simpa using e)
  exact⟨u,by simpa using O,U⟩
theorem IsL.append {H:Hp}:∀{ds es:oj D}{vs us:oj V},IsL H ds vs->IsL H es us->IsL H (ds++es) (vs++us)
 | [],_,_,_,h,k=>by cases(show _= [] from h);exact k
 |_::_,_,_,_,h,k=>by
  obtain⟨v,r,rfl,h1,h2⟩:=h;exact⟨v,0,h1,IsL.append h2 k⟩
theorem IsL.take {H:Hp}:∀{ds:oj D}{vs:oj V} (n:Nat),IsL H ds vs->IsL H (ds.take n) (vs.take n)
 |_,_,0,_=>by simp [IsL]
 | [],_,n+1,h=>by cases(show _= [] from h);simp [IsL]
 |_::_,_,n+1,h=>by
  obtain⟨v,r,rfl,h1,h2⟩:=h;exact⟨v,0,h1,IsL.take n h2⟩
theorem IsL.drop {H:Hp}:∀{ds:oj D}{vs:oj V} (n:Nat),IsL H ds vs->IsL H (ds.drop n) (vs.drop n)
 |_,_,0,h=>h
 | [],_,n+1,h=>by cases(show _= [] from h);simp [IsL]
 |_::_,_,n+1,h=>by
  obtain⟨v,r,rfl,h1,h2⟩:=h;exact IsL.drop n h2
variable {v:V}
theorem IsL.one {d:D}(h:Is H d v):IsL H [d] [v]:=⟨v,[],1,h,1⟩
variable {ds:oj D}
theorem Is.new {vs:oj V}(h:IsL H ds vs)(O:H p=none):Is (upd H p (.tup vs)) (.tup ds) (.ref p):=
 ⟨p,vs,1,qg,h.mono (qf O _).tk⟩
noncomputable def tyD:D->o6
 | .non=> .type "NoneType"
 | .bl _=> .type "bool"
 | .int _=> .type "int"
 | .str _=> .type "str"
 | .lst=> .type "list"
 | .dct=> .type "dict"
 | .tup _=> .type "tuple"
theorem Is.ty {d:D}(h:Is H d v):TyOf K H v (tyD d):=by
 cases d with
 |non=>cases(show v= .non from h);exact .non
 |bl b=>cases(show v= .bl b from h);exact .bl b
 |int i=>cases(show v= .int i from h);exact .int i
 |str z=>
  obtain⟨rfl,_⟩:=h;exact .str z
 |lst=>
  obtain⟨a,vs,rfl,ha⟩:=h;exact .lst ha
 |dct=>
  obtain⟨a,vs,rfl,ha⟩:=h;exact .dK ha
 |tup xs=>
  obtain⟨a,vs,rfl,ha,_⟩:=h;exact .tup ha
section
variable {X:Cx}
theorem op_gt_str:OpR X (compareOp .Gt) (λx y H Q=>∃i j,x= .str i/\y= .str j/\Q (.bl (decide (j.cps.toList<i.cps.toList))) H):=by
 intro oq s σ H x y v u Q I O U h;obtain⟨i,j,rfl,rfl,q⟩:=h;obtain⟨t,rfl⟩:=O;obtain⟨t',rfl⟩:=U;exact PySem.P.gt_str (Qg I q rfl)
theorem call_sumL (Z:X.calm=true):Y6 X (.builtin "sum") (λxs H Q=>∃(p:o3) (ns:oj Int),xs= [.ref p]/\SqL X.K H p (ns.map V.int)/\Q (.int ns.sum) H):=by
 intro oq s σ H xs us Q I r h;obtain⟨p,ns,rfl,hp,q⟩:=h;obtain⟨u,rfl,ru⟩:=XA r;cases ru;obtain⟨its,rv,pl,hz⟩:=I.list hp;have hi:IntsAre its ns:=intsAre_of rv;obtain⟨ys,U⟩:=hi.allInts.items;have O:s.heap.IsList p (intItems ys):=U▸pl.isList;refine vb (n:=1) I.tk (sum_intListG (I.ok.hd Z) O λh' tk t' hk=> ?_);intro htk;have e1:ns=ys.toList.map (·.1):=by
  have q1:=hi.numsOf;rw [<-nums_intItems,<-U];exact(show numsOf its.toArray.toList=ns from q1).symm
 have e2:preSum (numAt ys) ys.size=ns.sum:=by
  rw [preSum_eq,uR (by simp),e1]
 rw [e2];exact⟨.int ns.sum,H,I.kept hk,⟨t',1⟩,q⟩
inductive rCatG (K:PySem.W.Frag) (x:V) (y:V) (H:Hp) (Q:VK):Prop
 |mk (a:_) (b:_) (xs:_) (ys:_) (_:x= .ref a) (_:y= .ref b) (_:SqT K H a xs) (_:SqT K H b ys) (_:xs.length+ys.length<=sizeLine) (_:(xs= []->Q (.ref b) H)) (_:(xs≠ []->ys= []->Q (.ref a) H)) (_:(xs≠ []->ys≠ []->∀p,H p=none->Q (.ref p) (upd H p (.tup (xs++ys)))))
theorem yi:OpR X (binaryOp .Add) (rCatG X.K):=by
 intro oq s σ H x y v u Q I U Z h;obtain⟨a,b,xs,ys,rfl,rfl,ha,hb,hz,q0,q1,q2⟩:=h;by_cases O:xs= []
 ·cases U;cases Z;obtain⟨its,r1,p1,_⟩:=I.tuple ha;obtain⟨aa,r2,p2,_⟩:=I.tuple hb;subst O;cases r1;obtain⟨⟨c1,d1,t1,l1⟩,o1,e1,n1,f1⟩:=id p1;obtain⟨⟨c2,d2,t2,l2⟩,o2,e2,n2,f2⟩:=id p2;simp only at e1 f1 e2 f2;subst e1 f1 e2 f2;exact concat_meets p1.typeIs p2.typeIs noFill_tuple_add seq_tuple_add PySem.F.slot_tuple_add UE (Ux _ _) (tuple_addW0 a b _ _ n1 n2 d1 d2 l1 l2 rfl) ⟨o1,o2,⟨.ref b,H,I,1,q0 rfl⟩⟩
 ·exact op_catT oq s σ H (.ref a) (.ref b) v u Q I U Z ⟨a,b,xs,ys,1,1,ha,hb,O,hz,q1 O,q2 O⟩
end
theorem Tk.updL (h:H p=some (.lst xs)):Tk H (upd H p (.lst ys)):=by
 refine⟨λb zs e=> ?_,λb zs e=> ?_,λb zs e=>⟨zs,?_⟩⟩
 ·rw [qh (λz=>by rw [z,h] at e;cases e)];exact e
 ·by_cases z:b=p
  ·exact⟨ys,by rw [z];exact qg⟩
  ·exact⟨zs,by rwa [qh z]⟩
 ·rw [qh (λz=>by rw [z,h] at e;cases e)];exact e
theorem lc_data {J:It}{A:o3}{H1:Hp}{te:TE}{tl:St}{Q:VK}{ds:oj D}(f:D->D)(hn:ds.length<=sizeLine)(hA:H1 A=none)
  (aa:∀i H,Same H1 H->i<ds.length->J.go i H) (hy:∀i H x H' d,Same H1 H->ds[i]? =some d->J.yld i H x H'->H'=H/\Is H d x) (U:∀H,Same H1 H->J.stop ds.length H)
  (ac:∀d x H (R:VK),d∈ds->Same H1 H->Is H d x->(∀y H',Same H H'->Is H' (f d) y->R y H')->te (some x::tl) H R)
  (hQ:∀H' ys,Same H1 H'->H' A=some (.lst ys)->IsL H' (ds.map f) ys->Q (.ref A) H'):lcGo A J (Jn 0) tYes te (none::tl) H1 Q:=by
 refine⟨ds.length,λi σ ys H=>(∃w,σ=w::tl)/\IsL H ((ds.take i).map f) ys/\Same H1 H,hn,⟨⟨none,1⟩,1,qf hA _⟩,?_,?_⟩
 ·rintro i σ ys H hi ⟨⟨w,rfl⟩,Z,sm⟩ O ae;refine⟨aa i H sm hi,λx H' y=> ?_⟩;obtain⟨rfl,hx⟩:=hy i H x H' ds[i] sm (uj hi) y;dsimp only [Jn,tYes,List.set];rw [A3 rfl];refine ac ds[i] x H' _ (vd hi) sm hx λy' H4 s4 ad=>⟨s4 _ _ O,⟨some x,1⟩,?_,λb o e=> ?_⟩
  ·have t:Tk H4 (upd H4 A (.lst (ys++ [y']))):=Tk.updL (s4 _ _ O);have e:(ds.take (i+1)).map f=(ds.take i).map f++ [f ds[i]]:=by
    rw [vS,uj hi,uw]
    rfl
   rw [e];exact((Z.mono s4.tk).mono t).append (IsL.one (ad.mono t))
  ·rw [qh (qk e hA)];exact s4 b o (sm b o e)
 ·rintro σ ys H ⟨_,Z,sm⟩ O;refine⟨U H sm,hQ H ys sm O ?_⟩;rwa [uR (ui _)] at Z
theorem lc_tupS {K:o0}{a A:o3}{H1:Hp}{te:TE}{tl:St}{Q:VK}{ds:oj D}{vs:oj V}(f:D->D)(ha:H1 a=some (.tup vs))(U:IsL H1 ds vs)(hn:ds.length<=sizeLine)(hA:H1 A=none)
  (O:∀d x H (R:VK),d∈ds->Same H1 H->Is H d x->(∀y H',Same H H'->Is H' (f d) y->R y H')->te (some x::tl) H R)
  (hQ:∀H' ys,Same H1 H'->H' A=some (.lst ys)->IsL H' (ds.map f) ys->Q (.ref A) H'):lcGo A (Itt K a) (Jn 0) tYes te (none::tl) H1 Q:=by
 have ln:=U.length;refine lc_data f hn hA (λi H sm hi=>⟨vs,vs[i]'(),SqT.of (sm _ _ ha),uj _⟩) (λi H x H' d sm hd y=> ?_) (λH sm=>⟨vs,SqT.of (sm _ _ ha),()⟩) O hQ
 obtain⟨rfl,y⟩:=y;obtain⟨v,e1,e2⟩:=U.get hd;have Z:=y vs (SqT.of (sm _ _ ha));rw [e1] at Z;cases Z;exact⟨1,e2.mono sm.tk⟩
theorem IsL.bls {H:Hp}:∀{bs:oj Bool}{vs:oj V},IsL H (bs.map D.bl) vs->vs=bs.map V.bl
 | [],_,h=>h
 |_::_,_,h=>by
  obtain⟨v,r,rfl,h1,h2⟩:=h;rw [IsL.bls h2,show v=_ from h1];rfl
variable {Q:VK}
theorem xq {d:D}(h:Is H (.tup ds) v)(hi:atI ds i=some d)(q:∀x,Is H d x->Q x H):rIxT K v (.int i) H Q:=by
 obtain⟨a,vs,rfl,ha,O⟩:=h;obtain⟨j,h1,h2,h3,h4,h5⟩:=Ke hi;obtain⟨x,Z,e2⟩:=O.get h2;refine⟨a,vs,i,x,1,1,SqT.of ha,?_,q x e2⟩;have ln:=O.length;unfold atI at hi⊢;rw [ln];cases e:ixN ds.length i with
 |none=>rw [e] at hi;cases hi
 |some k=>
  rw [e] at hi;obtain⟨U,_⟩:=ixN_seq e;rw [h1] at U;cases U;exact Z
noncomputable def inS (i j:Str):Bool:= !(Builtin.Str.occurrences j i 0 j.length 1).isEmpty
theorem inS_one (j:Str)(c:Nat):inS ⟨#[c]⟩ j=decide (c∈j.cps.toList):=StrLaws.found_one j c
theorem for_str {z:Str}{g:TG}{tb:TS}{E:Ends}{σ:St}{H:Hp}(O:Nat->St->Hp->Prop)(h0:O 0 σ H)
  (hs:∀(i c:Nat) σ H,z.cps[i]? =some c->O i σ H->g (.str ⟨#[c]⟩) σ H λZ H2=>tb {E with nx:=O (i+1),ct:=O (i+1),bk:=E.nx} Z H2) (hd:∀σ H,O z.cps.size σ H->E.nx σ H):
  ∃W:Nat->Nat->St->Hp->Prop,(∃m,W 0 m σ H)/\∀i m σ H,W i m σ H->
   ((Its z).stop i H/\E.nx σ H)∨((Its z).go i H/\∃N:St->Hp->Prop,(∀σ' H',N σ' H'->∃m',m'<m/\W (i+1) m' σ' H')/\∀x H',(Its z).yld i H x H'->g x σ H' λZ H2=>tb {E with nx:=N,ct:=N,bk:=E.nx} Z H2):=by
 exists λi m σ H=>m=z.cps.size-i/\i<=z.cps.size/\O i σ H,⟨z.cps.size,by simp,v7 _,h0⟩
 rintro i m σ H ⟨rfl,hi,p⟩;by_cases U:i<z.cps.size
 ·refine .inr ⟨U,O (i+1),λσ' H' p'=>⟨z.cps.size-(i+1),(),1,U,p'⟩,λx H' y=> ?_⟩
  obtain⟨rfl,c,hc,rfl⟩:=y;exact hs i c σ _ hc p
 ·have e:i=z.cps.size:=by omega
  exact .inl ⟨e,hd σ H (e▸p)⟩
theorem IsL.unsnoc {H:Hp}:∀{ds:oj D}{d:D}{vs:oj V},IsL H (ds++ [d]) vs->∃us x,vs=us++ [x]/\IsL H ds us/\Is H d x
 | [],d,_,h=>by
  obtain⟨v,r,rfl,h1,h2⟩:=h;cases(show r= [] from h2)
  exact⟨[],v,1,1,h1⟩
 |e::r,d,_,h=>by
  obtain⟨v,q,rfl,h1,h2⟩:=h;obtain⟨us,x,rfl,h3,h4⟩:=IsL.unsnoc h2;exact⟨v::us,x,1,⟨v,us,1,h1,h3⟩,h4⟩
noncomputable def isStr:D->Bool
 | .str _=>true
 |_=>false
noncomputable def XN:D->Bool
 | .tup _=>true
 |_=>false
section
variable {K:o0}
theorem kit_no {T U:String}{b:Bool}(h:(Value.type T==Value.type U)=false)(hm:PySem.W.kitMeta U=true)(O:(fastBuiltinMro T).map (·.contains (Value.type U))=some b):PySem.W.kitOne K (.type T) (.type U)=some b:=by
 unfold PySem.W.kitOne;rw [A2 (by rw [h];exact ub)]
 show(if PySem.W.kitMeta U=true then PySem.W.subIn K (.type T) (.type U) else none)=some b
 rw [A3 hm];exact O
theorem kW {T:String}(h:(Value.type T==Value.type T)=true):PySem.W.kitOne K (.type T) (.type T)=some true:=by
 unfold PySem.W.kitOne;rw [A3 h]
theorem jg (d:D):PySem.W.kitOne K (tyD d) (.type "str")=some (isStr d):=by
 cases d with
 |str z=>exact kW ()
 |_=>exact kit_no (b:=false) () () ()
theorem xk (d:D):PySem.W.kitOne K (tyD d) (.type "tuple")=some (XN d):=by
 cases d with
 |tup z=>exact kW ()
 |_=>exact kit_no (b:=false) () () ()
end
theorem lt_one (c k:Nat):decide ((⟨#[c]⟩:Str).cps.toList< [k])=decide (c<k):=by
 rw [uX];simp [List.cons_lt_cons_iff]
theorem one_gt (c k:Nat):decide ([k]<(⟨#[c]⟩:Str).cps.toList)=decide (k<c):=by
 rw [uX];simp [List.cons_lt_cons_iff]
theorem ix_tupK {X:Cx}{K:o0}(h:X.K=K):IxR X (rIxT K):=by subst h;exact qM
inductive IiTupB (K:PySem.W.Frag) (R:(It->Hp->Prop)) (x:V) (H1:Hp):Prop
 |mk (a:_) (xs:_) (_:x= .ref a) (_:SqT K H1 a xs) (_:(xs.length<=sizeLine->R (Itt K a) H1))
noncomputable def iTupB (K:o0)(tl:TE):TI:=λσ H R=>tl σ H λx H1=>IiTupB K R x H1
theorem ko {X:Cx}{tg l:Expr}{tl:TE}(U:PE X l tl):PI X tg l (iTupB X.K tl):=by
 intro oq s σ H R I h;refine thn (U oq s σ H _ I h) λv s1 ⟨x,H1,O,Z,q1⟩=> ?_;obtain⟨a,xs,e,hq,q⟩:=q1;subst e;cases Z;obtain⟨its,rv,p,hz⟩:=O.tuple hq;refine wpAny_pyIter_tuple (show s1.heap.IsTuple a its.toArray from p) ?_
 refine⟨s1.heap.objs.size,[s1.heap.objs.size],_,_,H1,1,O.kept (t':=s1.toks) λb o e=>ud _ e,Wz a _,⟨_,uG _ rfl,1,1⟩,λb hb=> ?_,q hz⟩;have e:b=s1.heap.objs.size:=by simpa using hb
 subst e;exact O.fpOk (ui _) (O.hok.fresh (ui _))
variable {X:Cx}
theorem call_lenB:Y6 X (.builtin "len") (λxs H Q=>∃p ys,xs= [.ref p]/\(SqL X.K H p ys∨SqT X.K H p ys)/\(ys.length<=sizeLine->Q (.int ys.length) H)):=by
 intro oq s σ H xs us Q I r h;obtain⟨p,ys,e,O,q⟩:=h;have U:ys.length<=sizeLine:=by
  rcases O with O|O
  ·exact(I.list O).choose_spec.2.2
  ·exact(I.tuple O).choose_spec.2.2
 exact qQ oq s σ H xs us Q I r ⟨p,ys,e,O,q U⟩
variable {n:Nat}
theorem ZY (h:n<=xs.length):cutV xs (some (n:Int)) none=xs.drop n:=by
 unfold cutV;rw [HT.sIx_none,HT.sIx_nat,Nat.min_eq_left h];exact uR (by rw [vn];exact ui _)
end L2
namespace L2
open PySem PySem.Spec PyProof.Rows Builtin Builtin.Str
noncomputable def posL (c:Nat):oj Nat->Nat->oj Nat
 | [],_=> []
 |a::r,i=>if a=c then i::posL c r (i+1) else posL c r (i+1)
noncomputable def cutL (c:Nat):Nat->oj Nat->oj (oj Nat)
 |0,L=> [L]
 |_+1,[]=> [[]]
 |n+1,a::r=>if a=c then []::cutL c n r else match cutL c (n+1) r with
  |p::q=>(a::p)::q
  | []=> [[a]]
noncomputable def ofL (l:oj Nat):Str:=⟨l.toArray⟩
theorem Q8 (z:Str):ofL z.cps.toList=z:=by
 unfold ofL;simp
theorem jY (c:Nat):∀(n:Nat) (L:oj Nat),∃p q,cutL c n L=p::q
 |0,L=>⟨L,[],by simp [cutL]⟩
 |n+1,[]=>⟨[],[],by simp [cutL]⟩
 |n+1,a::r=>by
  by_cases h:a=c
  ·exact⟨[],cutL c n r,by simp [cutL,h]⟩
  ·obtain⟨p,q,e⟩:=jY c (n+1) r;exact⟨a::p,q,by simp [cutL,h,e]⟩
theorem cutL_app {c:Nat}{n:Nat}{r:oj Nat}:∀{p:oj Nat},c∉p->cutL c (n+1) (p++c::r)=p::cutL c n r
 | [],_=>by simp [cutL]
 |a::p,h=>by
  have h1:a≠c:=λe=>h (by simp [e])
  have O:=cutL_app (n:=n) (r:=r) (p:=p) (λz=>h (uc _ z));show cutL c (n+1) (a::(p++c::r))=_;rw [cutL,A2 h1,O]
theorem ZB {c:Nat}{n:Nat}:∀{p:oj Nat},c∉p->cutL c n p= [p]
 | [],_=>by cases n<;>simp [cutL]
 |a::p,h=>by
  have h1:a≠c:=λe=>h (by simp [e])
  cases n with
  |zero=>simp [cutL]
  |succ n=>
   have O:=ZB (n:=n+1) (p:=p) (λz=>h (uc _ z));rw [cutL,A2 h1,O]
theorem subAt_sign (x:Str)(c i:Nat)(h:i<x.length):subAt x ⟨#[c]⟩ i=decide (x.cps.toList[i]? =some c):=by
 rw [StrLaws.subAt_eq];have O:i<x.cps.toList.length:=by simpa [Str.length] using h
 have U:(x.cps.toList.drop i).take 1= [x.cps.toList[i]]:=by
  rw [uW O]
  rfl
 show((x.cps.toList.drop i).take 1== [c])=_;rw [U,uj O];generalize x.cps.toList[i]=k;by_cases e:k=c
 ·simp [e]
 ·simp [e]
theorem occ_go (x:Str)(c n:Nat):∀(m k:Nat) (found:Array Nat) (free:Nat),k+m=x.length+1->free<=k->
  (forIn (List.range' k m) (found,free) (StrLaws.occBody x ⟨#[c]⟩ x.length n)).run.fst.toList=found.toList++(posL c (x.cps.toList.drop k) k).take (n-found.size)
 |0,k,found,free,hk,_=>by
  have hl:x.cps.toList.length<=k:=by simp [Str.length] at hk⊢;omega
  rw [vH hl];simp [posL]
 |m+1,k,found,free,hk,hf=>by
  rw [List.range'_succ,Ul];unfold StrLaws.occBody;have ac:x.cps.toList.length=x.length:=by simp [Str.length]
  by_cases Z:k<x.length
  ·have aa:k<x.cps.toList.length:=by omega
   rw [uW aa];have hs:=subAt_sign x c k Z;rw [uj aa] at hs;by_cases e:x.cps.toList[k]=c
   ·have O:subAt x ⟨#[c]⟩ k=true:=by rw [hs,e];simp
    by_cases hn:found.size<n
    ·rw [A3 ⟨⟨⟨hn,hf⟩,by show k+1<=x.length;omega⟩,O⟩]
     have U:=occ_go x c n m (k+1) (found.push k) (k+1) () (ui _)
     show(forIn (List.range' (k+1) m) (found.push k,k+1) (StrLaws.occBody x ⟨#[c]⟩ x.length n)).run.fst.toList=_;rw [U];rw [posL,A3 e,Array.toList_push,Array.size_push];obtain⟨j,hj⟩:∃j,n-found.size=j+1:=⟨n-found.size-1,()⟩
     rw [hj,Uw,show n-(found.size+1)=j by omega]
     simp
    ·rw [A2 (λz=>hn z.1.1.1)];have U:=occ_go x c n m (k+1) found free () ()
     show(forIn (List.range' (k+1) m) (found,free) (StrLaws.occBody x ⟨#[c]⟩ x.length n)).run.fst.toList=_;rw [U,show n-found.size=0 by omega]
     simp
   ·have O:¬subAt x ⟨#[c]⟩ k=true:=by rw [hs];intro z;exact e (uI (uq z))
    rw [A2 (λz=>O z.2)];have U:=occ_go x c n m (k+1) found free () ()
    show(forIn (List.range' (k+1) m) (found,free) (StrLaws.occBody x ⟨#[c]⟩ x.length n)).run.fst.toList=_;rw [U,posL,A2 e]
  ·rw [A2 (λz=>Z (by have:=z.1.2;show k<x.length;have h1:k+1<=x.length:=this;omega))]
   have U:=occ_go x c n m (k+1) found free () ()
   show(forIn (List.range' (k+1) m) (found,free) (StrLaws.occBody x ⟨#[c]⟩ x.length n)).run.fst.toList=_;rw [U];have h1:x.cps.toList.length<=k:=by omega
   rw [vH h1,vH ()]
   simp [posL]
theorem W2 (x:Str)(c n:Nat):occurrences x ⟨#[c]⟩ 0 x.length n=(posL c x.cps.toList 0).take n:=by
 rw [StrLaws.occ_eq];have:=occ_go x c n (x.length+1) 0 #[] 0 () (ui _)
 simpa using this
noncomputable def att (p:oj Nat):oj (oj Nat)->oj (oj Nat)
 |q::r=>(p++q)::r
 | []=> [p]
theorem parts_go (x:Str)(c:Nat):∀(m n a b:Nat),a<=b->b+m=x.length->
  StrLaws.partsFrom x 1 a ((posL c (x.cps.toList.drop b) b).take n)=(att ((x.cps.toList.drop a).take (b-a)) (cutL c n (x.cps.toList.drop b))).map ofL:=by
 have ac:x.cps.toList.length=x.length:=by simp [Str.length]
 have O:∀i j,strSub x i j=ofL ((x.cps.toList.drop i).take (j-i)):=λi j=>by
  rw [<-Q8 (strSub x i j),StrLaws.strSub_toList]
 intro m
 induction m with
 |zero=>
  intro n a b aa hb;have h1:x.cps.toList.drop b= []:=vH ()
  rw [h1];have e1:cutL c n []= [[]]:=by cases n<;>simp [cutL]
  rw [e1];simp only [posL,List.take_nil,StrLaws.partsFrom,att,vc,uh,U5];rw [O,show x.length-a=b-a by omega]
 |succ m ih=>
  intro n a b aa hb;have U:b<x.cps.toList.length:=by omega
  rw [uW U];cases n with
  |zero=>
   simp only [List.take_zero,StrLaws.partsFrom,cutL,att,uh,U5];rw [O,<-uW U];have Z:(x.cps.toList.drop a).take (x.length-a)=x.cps.toList.drop a:=uR (by rw [vn];omega)
   have e3:x.cps.toList.drop b=(x.cps.toList.drop a).drop (b-a):=by rw [List.drop_drop];congr 1;omega
   rw [Z,e3,List.take_append_drop]
  |succ n=>
   by_cases e:x.cps.toList[b]=c
   ·rw [posL,A3 e,Uw,StrLaws.partsFrom,cutL,A3 e];rw [ih n (b+1) (b+1) (ui _) ()]
    obtain⟨p,q,Z⟩:=jY c n (x.cps.toList.drop (b+1));rw [Z,O];simp [att]
   ·rw [posL,A2 e,ih (n+1) a (b+1) () (),cutL,A2 e]
    obtain⟨p,q,Z⟩:=jY c (n+1) (x.cps.toList.drop (b+1));rw [Z];simp only [att,uh]
    congr 2
    have e3:b+1-a=(b-a)+1:=by omega
    have hx:b-a<(x.cps.toList.drop a).length:=by rw [vn];omega
    rw [e3,List.take_succ_eq_append_getElem hx];simp [show a+(b-a)=b by omega]
theorem parts_cut (x:Str)(c n:Nat):partsBetween x (occurrences x ⟨#[c]⟩ 0 x.length n) 1=(cutL c n x.cps.toList).map ofL:=by
 rw [StrLaws.partsBetween_eq,W2];have:=parts_go x c x.length n 0 0 (ui _) ()
 rw [UR] at this;rw [this];obtain⟨p,q,e⟩:=jY c n x.cps.toList;rw [e];simp [att]
theorem ZX {c:Nat}:∀{L:oj Nat}{i:Nat},posL c L i= []->c∉L
 | [],_,_=>by simp
 |a::r,i,h=>by
  by_cases e:a=c
  ·simp [posL,e] at h
  ·rw [posL,A2 e] at h;have:=ZX h;simp [Uu e,this]
theorem Xl:∀(l:oj Str) (k:Nat),Vals (l.map V.str) (strsFrom k l)
 | [],_=> .nil
 |x::r,k=> .cons ⟨k,1⟩ (Xl r (k+1))
theorem ZH:∀{l:oj Str}{us:oj o6},Vals (l.map V.str) us->∃ps:oj (Str×Tok),us=strValues ps/\ps.map (·.1)=l
 | [],_,.nil=>⟨[],1,1⟩
 |x::r,_,.cons ⟨t,e⟩ h=>by
  obtain⟨ps,O,U⟩:=ZH h;subst e;exact⟨(x,t)::ps,by rw [O];rfl,by rw [uh,U]⟩
theorem Wa (z:Str):¬Builtin.Str.strKind z<Builtin.Str.strKind " ":=by
 have h1:Builtin.Str.strKind " "=1:=by decide+kernel
 rw [h1];unfold Builtin.Str.strKind;split
 ·omega
 ·split<;>omega
theorem kS (c:Nat):∀(n:Nat) (L:oj Nat),(cutL c n L).length<=L.length+1
 |0,L=>by simp [cutL]
 |n+1,[]=>by simp [cutL]
 |n+1,a::r=>by
  by_cases h:a=c
  ·have:=kS c n r;simp [cutL,h];omega
  ·have:=kS c (n+1) r;obtain⟨p,q,e⟩:=jY c (n+1) r;rw [e] at this;simp only [cutL,A2 h,e];simp at this⊢;omega
noncomputable def spl (n:Nat)(z:Str):oj Str:=(cutL 32 n z.cps.toList).map ofL
theorem spl_len (n:Nat)(z:Str):(spl n z).length<=z.length+1:=by
 unfold spl;rw [ua];have:=kS 32 n z.cps.toList
 simpa [Str.length] using this
theorem JC:(" ":Str)=⟨#[32]⟩:=by decide+kernel
variable {z:Str}{n:Nat}
theorem spl_one (hn:z.length<=n∨z.length<1∨True)(h:(occurrences z " " 0 z.length n).isEmpty=true)(h0:n≠0):spl n z= [z]:=by
 rw [JC,W2,List.isEmpty_iff] at h;have h1:posL 32 z.cps.toList 0= []:=by
  cases e:posL 32 z.cps.toList 0 with
  |nil=>rfl
  |cons a r=>
   rw [e] at h;obtain⟨k,rfl⟩:∃k,n=k+1:=⟨n-1,()⟩
   simp at h
 unfold spl;rw [ZB (ZX h1)];simp [Q8]
section
variable {X:Cx}
inductive rSplit (x:V) (vs:List V) (H:Hp) (Q:VK):Prop
 |mk (z:_) (_:x= .str z) (_:vs= [.str " "]) (_:z.length<=1000) (_:∀p,H p=none->Q (.ref p) (upd H p (.lst ((spl (z.length+1) z).map V.str))))
variable {oq:oj (o3×Obj)}{σ:St}{H:Hp}{s:o7}{Q:VK}{ys:oj V}{its:oj o6}{t':Nat}
theorem JB (I:Inv X oq σ H s)(O:Vals ys its)(U:ys.length<=sizeLine)(q:∀p,H p=none->Q (.ref p) (upd H p (.lst ys)))(Z:0<t':=by ac_rfl):
  EP X oq σ Q (.ref s.heap.objs.size) {s with heap:=s.heap.push {cls:= .type "list",data:= .seq its.toArray},toks:=t'}:=
 ⟨.ref s.heap.objs.size,_,I.lnew O U,1,q _ I.fresh⟩
theorem mt_split:MtM X "str.split" rSplit:=by
 intro oq s σ H x vs v us Q I Z rv h;obtain⟨z,rfl,rfl,hz,q⟩:=h;obtain⟨t,rfl⟩:=Z;obtain⟨u,rfl,t',rfl⟩:=rv.one;have O:z.length<=sizeLine:=by rw [uE];omega
 have one:spl (z.length+1) z= [z]->∀(T:Nat),0<T->EP X oq σ Q (.ref s.heap.objs.size) {s with heap:=s.heap.push {cls:= .type "list",data:= .seq [Value.str z t].toArray},toks:=T}:=λe T hT=>by
  rw [e] at q;exact JB (ys:= [V.str z]) I (.cons (show RelV (V.str z) _ from⟨t,1⟩) .nil) (by show 1<=sizeLine;decide) q
 cases h1:(decide (z.length<(" ":Str).length)||decide (Builtin.Str.strKind z<Builtin.Str.strKind " ")) with
 |true=>
  refine vO vF (vN _ _ _) vx (vX _ _) (meets_str_split_cannot_occur z " " t t' h1) ?_;have h2:z.length<1:=by
   rw [Bool.or_eq_true] at h1;rcases h1 with h1|h1
   ·exact uq h1
   ·exact absurd (uq h1) (Wa z)
  refine one ?_ s.toks I.tk;have e:z.cps.toList= []:=vt (by simpa [Str.length] using h2)
  unfold spl;rw [e,cutL];rw [<-Q8 z,e]
  rfl
 |false=>
  cases U:(occurrences z " " 0 z.length (z.length+1)).isEmpty with
  |true=>
   refine vO vF (vN _ _ _) vx (vX _ _) (meets_str_split_not_found z " " t t' h1 () U) ?_
   exact one (spl_one (.inr (.inr trivial)) U ()) s.toks I.tk
  |false=>
   have hl:=spl_len (z.length+1) z;have e:partsBetween z (occurrences z " " 0 z.length (z.length+1)) (" ":Str).length=spl (z.length+1) z:=by
    rw [JC];exact parts_cut z 32 (z.length+1)
   refine vO vF (vN _ _ _) vx (vX _ _) (meets_str_split_sep z " " t t' h1 () U O (by rw [e,uE];omega)) ?_
   rw [e];exact JB I (Xl _ _) (by rw [ua,uE];omega) q
theorem xJ (x y:Str)(k:Int)(t u v:Tok)(Z:(decide (k< -(2^63:Int))||decide (k≥2^63))=false)(h1:(decide (x.length<y.length)||decide (Builtin.Str.strKind x<Builtin.Str.strKind y))=false)(hy:(y.length==0)=false)
  (hf:(occurrences x y 0 x.length (limitOf x k)).isEmpty=true):Meets («str.split» ⟨[.str x t,.str y u,.int k v],[]⟩) (listOfItself x t):=by
 obtain⟨U,O⟩:=split_sep_max_tree x y k t u v Z;refine .of_wp λprog w A R s h=> ?_;rw [O,h1,hy,hf];show wpAny _ _ (do rule "str.split.same-object";ret (<-newList [.str x t])) _ _ s
 exact A4 (UM (A4 (wpAny_newList (uB ⟨0,h⟩) (by show 1<=sizeLine;decide))))
theorem jQ (x y:Str)(k:Int)(t u v:Tok)(Z:(decide (k< -(2^63:Int))||decide (k≥2^63))=false)(h1:(decide (x.length<y.length)||decide (Builtin.Str.strKind x<Builtin.Str.strKind y))=true):
  Meets («str.split» ⟨[.str x t,.str y u,.int k v],[]⟩) (listOfItself x t):=by
 obtain⟨U,O⟩:=split_sep_max_tree x y k t u v Z;refine .of_wp λprog w A R s h=> ?_;rw [O,h1];show wpAny _ _ (do rule "str.split.sep-cannot-occur";ret (<-newList [.str x t])) _ _ s
 exact A4 (UM (A4 (wpAny_newList (uB ⟨0,h⟩) (by show 1<=sizeLine;decide))))
inductive rSplitN (x:V) (vs:List V) (H:Hp) (Q:VK):Prop
 |mk (z:Str) (n:Nat) (_:x= .str z) (_:vs= [.str " ",.int (n:Int)]) (_:z.length<=1000) (_:0<n) (_:n<=1000) (_:∀p,H p=none->Q (.ref p) (upd H p (.lst ((spl n z).map V.str))))
theorem mt_splitN:MtM X "str.split" rSplitN:=by
 intro oq s σ H x vs v us Q I rx rv h;obtain⟨z,n,rfl,rfl,hz,ac,hn,q⟩:=h;obtain⟨t,rfl⟩:=rx;obtain⟨u,u',rfl,⟨t',rfl⟩,⟨U,rfl⟩⟩:=vals2 rv;have aa:z.length<=sizeLine:=by rw [uE];omega
 have hk:(decide ((n:Int)< -(2^63:Int))||decide ((n:Int)≥2^63))=false:=by
  rw [ug (),ug ()];rfl
 have O:limitOf z (n:Int)=n:=by
  unfold limitOf;rw [A2 ()]
  omega
 have one:spl n z= [z]->∀(T:Nat),0<T->EP X oq σ Q (.ref s.heap.objs.size) {s with heap:=s.heap.push {cls:= .type "list",data:= .seq [Value.str z t].toArray},toks:=T}:=λe T hT=>by
  rw [e] at q;exact JB (ys:= [V.str z]) I (.cons (show RelV (V.str z) _ from⟨t,1⟩) .nil) (by show 1<=sizeLine;decide) q
 cases h1:(decide (z.length<(" ":Str).length)||decide (Builtin.Str.strKind z<Builtin.Str.strKind " ")) with
 |true=>
  refine vO vF (vN _ _ _) vx (F.args_str_split_3 _ _ _) (jQ z " " n t t' U hk h1) ?_;have h2:z.length<1:=by
   rw [Bool.or_eq_true] at h1;rcases h1 with h1|h1
   ·exact uq h1
   ·exact absurd (uq h1) (Wa z)
  refine one ?_ s.toks I.tk;have e:z.cps.toList= []:=vt (by simpa [Str.length] using h2)
  obtain⟨j,rfl⟩:∃j,n=j+1:=⟨n-1,()⟩
  unfold spl;rw [e,cutL];rw [<-Q8 z,e]
  rfl
 |false=>
  cases Z:(occurrences z " " 0 z.length (limitOf z (n:Int))).isEmpty with
  |true=>
   refine vO vF (vN _ _ _) vx (F.args_str_split_3 _ _ _) (xJ z " " n t t' U hk h1 () Z) ?_
   rw [O] at Z;exact one (spl_one (.inr (.inr trivial)) Z ()) s.toks I.tk
  |false=>
   have hl:=spl_len n z;have e:partsBetween z (occurrences z " " 0 z.length (limitOf z (n:Int))) (" ":Str).length=spl n z:=by
    rw [JC,O];exact parts_cut z 32 n
   refine vO vF (vN _ _ _) vx (F.args_str_split_3 _ _ _) (meets_str_split_sep_max z " " n t t' U hk h1 () Z aa (by rw [e,uE];omega)) ?_
   rw [e];exact JB I (Xl _ _) (by rw [ua,uE];omega) q
noncomputable def JP (c:Nat):oj Nat->oj Nat
 | []=> []
 |a::r=>if a=c then [] else a::JP c r
theorem headL_pos {c:Nat}:∀{L:oj Nat}{i j:Nat}{r:oj Nat},posL c L i=j::r->i<=j/\JP c L=L.take (j-i)
 | [],_,_,_,h=>by simp [posL] at h
 |a::q,i,j,r,h=>by
  by_cases e:a=c
  ·rw [posL,A3 e] at h;cases h;exact⟨ui _,by simp [JP,e]⟩
  ·rw [posL,A2 e] at h;obtain⟨h1,h2⟩:=headL_pos h;exists ()
   rw [JP,A2 e,h2,show j-i=(j-(i+1))+1 by omega,Uw]
theorem XS {c:Nat}:∀{L:oj Nat},c∉L->JP c L=L
 | [],_=>rfl
 |a::r,h=>by
  have h1:a≠c:=λe=>h (by simp [e])
  rw [JP,A2 h1,XS λz=>h (uc _ z)]
noncomputable def hd (z:Str):Str:=ofL (JP 32 z.cps.toList)
theorem fin_tup (I:Inv X oq σ H s)(O:Vals ys its)(U:ys.length<=sizeLine)(q:∀p,H p=none->Q (.ref p) (upd H p (.tup ys)))(Z:0<t':=by ac_rfl):
  EP X oq σ Q (.ref s.heap.objs.size) {s with heap:=s.heap.push {cls:= .type "tuple",data:= .seq its.toArray},toks:=t'}:=
 ⟨.ref s.heap.objs.size,_,I.laid (o:= .tup ys) (λ_ _ w=>ud _ w) (ui _) ⟨U,its,O,IsTup.new _ _⟩,1,q _ I.fresh⟩
inductive rPart (x:V) (vs:List V) (H:Hp) (Q:VK):Prop
 |mk (z:_) (_:x= .str z) (_:vs= [.str " "]) (_:z.length<=1000) (_:∀p a b,H p=none->Q (.ref p) (upd H p (.tup [.str (hd z),.str a,.str b])))
theorem mt_part:MtM X "str.partition" rPart:=by
 intro oq s σ H x vs v us Q I rx rv h;obtain⟨z,rfl,rfl,hz,q⟩:=h;obtain⟨t,rfl⟩:=rx;obtain⟨u,rfl,t',rfl⟩:=rv.one;have U:z.length<=sizeLine:=by rw [uE];omega
 refine vO F.slot_str_partition (vN _ _ _) F.entry_str_partition (F.args_str_partition_2 _ _) (meets_str_partition z " " t t' () U) ?_
 cases O:occurrences z " " 0 z.length 1 with
 |nil=>
  have h0:hd z=z:=by
   rw [JC,W2] at O;have h1:posL 32 z.cps.toList 0= []:=by
    cases e:posL 32 z.cps.toList 0 with
    |nil=>rfl
    |cons a r=>rw [e] at O;simp at O
   unfold hd;rw [XS (ZX h1),Q8]
  refine fin_tup (ys:= [.str (hd z),.str Str.empty,.str Str.empty]) (t':=s.toks+1) I (.cons (show RelV (V.str (hd z)) _ from⟨t,by rw [h0]⟩) (.cons (show RelV (V.str _) _ from⟨0⟩) (.cons (show RelV (V.str _) _ from⟨0⟩) .nil))) (by show 3<=sizeLine;decide) λp Z=>q p _ _ Z
 |cons i r=>
  have h0:hd z=strSub z 0 i:=by
   rw [JC,W2] at O;cases e:posL 32 z.cps.toList 0 with
   |nil=>rw [e] at O;simp at O
   |cons a r'=>
    rw [e] at O;have:a=i:=by simp at O;exact O.1
    subst this;obtain⟨_,h2⟩:=headL_pos e;unfold hd;rw [h2,<-Q8 (strSub z 0 a),StrLaws.strSub_toList,UR]
  refine fin_tup (ys:= [.str (hd z),.str " ",.str _]) (t':=s.toks+1+1) I (.cons (show RelV (V.str (hd z)) _ from⟨s.toks,by rw [h0]⟩) (.cons (show RelV (V.str _) _ from⟨t',1⟩) (.cons (show RelV (V.str _) _ from⟨s.toks+1,1⟩) .nil))) (by show 3<=sizeLine;decide) λp Z=>q p _ _ Z
inductive rJoin (K:PySem.W.Frag) (x:V) (vs:List V) (H:Hp) (Q:VK):Prop
 |mk (sep:Str) (p:Addr) (l:List Str) (_:x= .str sep) (_:vs= [.ref p]) (_:SqL K H p (l.map V.str)) (_:(l.map (·.length)).sum+l.length*sep.length<=1000000) (_:Q (.str (Str.join sep l)) H)
theorem kr:MtM X "str.join" (rJoin X.K):=by
 intro oq s σ H x vs v us Q I rx rv h;obtain⟨sep,p,l,rfl,rfl,hp,hz,q⟩:=h;obtain⟨t,rfl⟩:=rx;obtain⟨u,rfl,ru⟩:=rv.one;cases ru;obtain⟨its,r,pl,hl⟩:=I.list hp;obtain⟨ps,rfl,Z⟩:=ZH r;have U:tooLong ((ps.map (·.1)).toArray.foldl (·+ ·.length+sep.length) 0)=false:=by
  rw [Z];have:=StrLaws.joinTotal sep l;rw [this];unfold tooLong;refine ug ?_;rw [uE];omega
 refine vO F.slot_str_join (vN _ _ _) F.entry_str_join (F.args_str_join_2 _ _) (meets_str_join_list sep t p ps U) ⟨pl.isList,?_⟩;have O:(glued sep (ps.map (·.1))).length<=sizeLine:=joinFit_length U
 match ps,Z,O with
 | [],Z,O=>
  subst Z;exact⟨O,.str _,H,I.tok _,⟨0⟩,q⟩
 | [a],Z,_=>
  subst Z;exact⟨.str _,H,I,⟨a.2,1⟩,q⟩
 |a::b::r,Z,O=>
  subst Z;exists O,.str _,H,I.tok _,⟨0⟩;rw [StrLaws.glued_eq_join];exact q
theorem call_intS:Y6 X (.type "int") (λxs H Q=>∃z n,xs= [.str z]/\PySem.intText? z=some n/\z.length<=640/\Q (.int n) H):=by
 intro oq s σ H xs us Q I r h;obtain⟨z,n,rfl,hn,O,q⟩:=h;obtain⟨u,rfl,t,rfl⟩:=XA r;exact PySem.W.KIN.call_text hn O ⟨.int n,H,I.tok _,⟨0⟩,q⟩
end
end L2
namespace L2
open PySem PySem.Spec PyProof.Rows
variable {X:Cx}{oq:oj (o3×Obj)}{σ:St}{H:Hp}{s:o7}{h':o8}{t':Nat}{fp:oj o3}
theorem Inv.turnedL (I:Inv X oq σ H s)(k:∀b o,b∉fp->s.heap.get? b=some o->h'.get? b=some o)(U:∀b∈fp,FpOk X oq H b)(ht:0<t':=by ac_rfl):Inv X oq σ H {s with heap:=h',toks:=t'}:=by
 have Z:∀b u,H b=some u->b∉fp:=λb u e z=>by
  have:=(U b z).1;rw [this] at e;cases e
 have nL:X.env.locals∉fp:=λz=>(U _ z).2.1 rfl;refine I.step (g':=s.gens) (d':=s.drawn) (ch:=fp) (λb hb=>⟨(U b hb).2.2.2.1,(U b hb).2.1,(U b hb).2.2.2.2.1,(U b hb).2.2.2.2.2⟩) (λb o _ _ O e _=>k b o O e) (λb o _ _ O e _=>⟨o.slots,k b o O e⟩) (λ_ _ _ _ n=>n)
  (λb o O e=>⟨o,k b o O e⟩) (λ_ _ e=>e) (λ_ _ _ e=>e) (λb ps e=>⟨#[],by rw [e];simp⟩) (λm hm=> ?_) (λb u e=> ?_) I.bare
 ·obtain⟨o,es,ep,ho,r⟩:=hm;exact⟨o,es,ep,k _ o nL ho,r⟩
 ·refine(I.hok b u e).stay (λc v O q=>k c v ?_ q) (λ_ q=>q) λ_ _ q=>q;rcases O with z|z
  ·rw [z];exact Z b u e
  ·exact Z c _ z
theorem Inv.handed {X:Cx}{oq:oj (o3×Obj)}{σ:St}{H:Hp}{s:o7}{h':o8}{t':Nat}{fp:oj o3}{ys:oj V}{its:oj o6}(I:Inv X oq σ H s)(Z:∀b∈fp,FpOk X oq H b)(hl:∀b∈fp,b<s.heap.objs.size)(hv:Vals ys its)(hz:ys.length<=sizeLine)
  (hn:h'.get? s.heap.objs.size=some {cls:= .type "tuple",data:= .seq its.toArray}) (hs:h'.objs.size=s.heap.objs.size+1) (k:∀b o,b∉fp->s.heap.get? b=some o->h'.get? b=some o) (ht:0<t':=by ac_rfl):
  Inv X oq σ (upd H s.heap.objs.size (.tup ys)) {s with heap:=h',toks:=t'}/\∀b∈fp,FpOk X oq (upd H s.heap.objs.size (.tup ys)) b:=by
 have I1:Inv X oq σ (upd H s.heap.objs.size (.tup ys)) {s with heap:=s.heap.push {cls:= .type "tuple",data:= .seq its.toArray},toks:=t'}:=
  I.laid (o:= .tup ys) (λ_ _ w=>ud _ w) (ui _) ⟨hz,its,hv,IsTup.new _ _⟩
 have O:∀b∈fp,FpOk X oq (upd H s.heap.objs.size (.tup ys)) b:=λb U=>by
  obtain⟨f0,f1,f2,f3,f4,f5⟩:=Z b U;have:=hl b U;exact⟨by rwa [qh (uP this)],f1,f2,f3,f4,f5⟩
 refine⟨I1.turnedL (h':=h') (t':=t') (λb o U e=> ?_) O,O⟩;rcases Heap.get?_push_cases (show(s.heap.push {cls:= .type "tuple",data:= .seq its.toArray}).get? b=some o from e) with⟨rfl,rfl⟩|e'
 ·exact hn
 ·exact k b o U e'
noncomputable def Itz (K:o0)(a b:o3):It:=
 ⟨λi H=>∃xs ys x y,SqT K H a xs/\SqL K H b ys/\xs[i]? =some x/\ys[i]? =some y,
  λi H v H'=>∃p x y,v= .ref p/\H p=none/\H'=upd H p (.tup [x,y])/\(∀xs,SqT K H a xs->xs[i]? =some x)/\∀ys,SqL K H b ys->ys[i]? =some y,
  λi H=>∃xs,SqT K H a xs/\xs.length=i⟩
noncomputable def tnZ (a b z p r i j:o3)(k:Nat)(h:o8):Prop:=
 IsZip h z p r .none/\IsPair h p (.ref i) (.ref j)/\(∃u v,IsPair h r u v)/\h.IsTupleIter i a k/\h.IsListIter j b k/\AwZ.Apt z p r i j a b
variable {w:og}{K:o0}
theorem turn_zip {P:o9}{aa:oj Expr}{c:Nat}{tp:Pos}(a b z p r i j:o3):Turn P w K (.Tuple aa c tp) (Itz K a b) [z,p,r,i,j] z (tnZ a b z p r i j) where
 mem:=by simp
 obj:=λk h st x hx=>by
  obtain⟨h1,h2,⟨u,v,h3⟩,⟨o4,e4,c4,d4⟩,⟨o5,e5,c5,d5⟩,D⟩:=st;simp only [uC,vf,uM] at hx;rcases hx with rfl|rfl|rfl|rfl|rfl
  ·exact⟨_,h1,λv z=>by cases z⟩
  ·exact⟨_,h2,λv z=>by cases z⟩
  ·exact⟨_,h3,λv z=>by cases z⟩
  ·exact⟨o4,e4,λv z=>by rw [d4] at z;cases z⟩
  ·exact⟨o5,e5,λv z=>by rw [d5] at z;cases z⟩
 keep:=λk h h' st kk=>by
  obtain⟨h1,h2,⟨u,v,h3⟩,⟨o4,e4,r4⟩,⟨o5,e5,r5⟩,D⟩:=st;exact⟨kk z (by simp) _ h1,kk p (by simp) _ h2,⟨u,v,kk r (by simp) _ h3⟩,⟨o4,kk i (by simp) _ e4,r4⟩,⟨o5,kk j (by simp) _ e5,r5⟩,D⟩
 item:=by
  intro X hP hw hK O k oq s σ H E I hf st hg;subst hP hw hK;obtain⟨xs,ys,x,y,ha,hb,hx,hy⟩:=hg;obtain⟨its,ra,pa,za⟩:=I.tuple ha;obtain⟨ak,rb,pb,zb⟩:=I.list hb;obtain⟨ux,ae,af⟩:=ra.get hx;obtain⟨uy,ag,ah⟩:=rb.get hy;obtain⟨h1,h2,⟨u,v,h3⟩,h4,h5,D⟩:=st;have l1:=uF h1;have l2:=uF h2;have l3:=uF h3;have l4:i<s.heap.objs.size:=by obtain⟨o,e,_⟩:=h4;exact uF e
  have l5:j<s.heap.objs.size:=by obtain⟨o,e,_⟩:=h5;exact uF e
  refine AwZ.zip_go D h1 h2 h3 h4 h5 (show s.heap.IsTuple a its.toArray from pa) pb.isList (x:=ux) (y:=uy) (by simpa using ae) (by simpa using ag) λh' g1 g2 g3 g4 g5 g6 g7=> ?_
  have g8:IsPair h' p (.ref i) (.ref j):=g7 _ _ D.pz D.pr D.pi D.pj h2;obtain⟨I1,ac⟩:=I.handed (t':=s.toks) (ys:= [x,y]) (its:= [ux,uy]) hf (λc O=>by
   simp only [uC,vf,uM] at O;rcases O with rfl|rfl|rfl|rfl|rfl<;>assumption) (.cons af (.cons ah .nil)) (by show 2<=sizeLine;decide) g5 g6 (λc o O e=>by
    simp only [uC,vf,uM,UW] at O;exact g7 c o O.1 O.2.2.1 O.2.2.2.1 O.2.2.2.2 e)
  refine⟨0,wpAny_letOwnedTupleGo_zip (s:={s with heap:=h'}) g1 λad z2 s2=> ?_⟩
  have U:∀c o,c≠z->h'.get? c=some o->ad.get? c=some o:=λc o O e=>s2.extBut c o O e;refine⟨.ref s.heap.objs.size,_,I1.turnedL (fp:= [z]) (h':=ad) (t':=s.toks) (λc o O e=>U c o (by simpa using O) e) (λc O=>ac c (by simp at O;simp [O])),1,⟨_,x,y,1,I.fresh,1,λzs Z=> ?_,λzs Z=> ?_⟩,⟨z2,U _ _ D.pz g8,⟨_,_,U _ _ D.rz g2⟩,?_,?_,D⟩,λc O=>(ac c O).1⟩
  ·rwa [I.tuple_inj Z ha]
  ·rwa [I.list_inj Z hb]
  ·obtain⟨o,e,q⟩:=g3;exact⟨o,U _ _ D.iz e,q⟩
  ·obtain⟨o,e,q⟩:=g4;exact⟨o,U _ _ D.jz e,q⟩
 done:=by
  intro X hP hw hK O k oq s σ H E I hf st hg;subst hP hw hK;obtain⟨xs,ha,hx⟩:=hg;obtain⟨its,ra,pa,za⟩:=I.tuple ha;have hl:=ra.length;obtain⟨h1,h2,⟨u,v,h3⟩,h4,h5,D⟩:=st;refine AwZ.zip_stop (A:=X.A) (I.ok.hd O) D h1 h2 h4 (show s.heap.IsTuple a its.toArray from pa) (by simp;omega) λh' kk=>⟨1,?_⟩
  exact I.turnedL (t':=s.toks) (λc o O e=>by
   simp only [uC,vf,uM,UW] at O;exact kk c o O.1 O.2.2.1 O.2.2.2.1 O.2.2.2.2 e) hf
 self:=λ_ _ _ _ _ st h=>wpAny_pyIter_zip st.1 h
section
variable {X:Cx}
variable {n:Nat}
theorem apt_mk {a b:Nat}(ha:a<n)(O:b<n):AwZ.Apt (n+4) (n+2) (n+3) n (n+1) a b:=by
 constructor<;>exact(show _≠((_:Nat)) by omega)
theorem five_le {x:Nat}(h:x=n+4∨x=n+2∨x=n+3∨x=n∨x=n+1):n<=x:=by omega
noncomputable def iZip (K:o0)(ta:TA):TI:=λσ H R=>ta σ H λvs H1=>∃a b xs ys,vs= [.ref a,.ref b]/\SqT K H1 a xs/\SqL K H1 b ys/\R (Itz K a b) H1
theorem pi_zip {U:oj Expr}{c:Nat}{tp p pos:Pos}{e1 O:Expr}{ta:TA}(hg:Gl X "zip")(hm:X.mg "zip"=none)(ha:PA X [e1,O] ta)(hs:starEach [e1,O] X.env= [(false,eval e1 X.env),(false,eval O X.env)])(Z:starEach [O] X.env= [(false,eval O X.env)]):
  PI X (.Tuple U c tp) (.Call (.Name "zip" p) [e1,O] [] pos) (iZip X.K ta):=by
 intro oq s σ H R I h;refine Call_ (Z8 I hg hm boot_zip (vB (thn (ha pos oq s σ H _ I h) λus s1 ⟨vs,H1,I1,r1,q1⟩=> ?_) (by rw [hs,Z]) (by rw [Z];rfl)))
 obtain⟨a,b,xs,ys,e,hA,hB,q⟩:=q1;subst e;obtain⟨u,u',rfl,ru,ac⟩:=vals2 r1;cases ru;cases ac;obtain⟨its,ra,pa,za⟩:=I1.tuple hA;obtain⟨ad,rb,pb,zb⟩:=I1.list hB;have la:a<s1.heap.objs.size:=by obtain⟨o,e,_⟩:=id pa;exact uF e
 have lb:b<s1.heap.objs.size:=by obtain⟨o,n,e,_⟩:=id pb;exact uF e
 refine AwZ.zip_call (show s1.heap.IsTuple a its.toArray from pa) pb.isList λh2 g1 g2 g3 g4 g5 g6 g7=> ?_
 refine wpAny_pyIter_zip (s:={s1 with heap:=h2}) g1 ?_
 refine⟨_,[s1.heap.objs.size+4,s1.heap.objs.size+2,s1.heap.objs.size+3,s1.heap.objs.size,s1.heap.objs.size+1],_,_,H1,1,I1.kept (t':=s1.toks) g7,turn_zip a b _ _ _ _ _,⟨g1,g2,⟨_,_,g3⟩,g4,g5,?_⟩,λx hx=> ?_,q⟩
 ·exact apt_mk la lb
 ·have aa:s1.heap.objs.size<=x:=by
   simp only [uC,vf,uM] at hx;exact five_le hx
  exact I1.fpOk aa (I1.hok.fresh aa)
noncomputable def KDict (K:o0)(w:og)(a:o3):Prop:=(a==sysModules)=false/\∃es n,K.lookup a=some ⟨.type "dict",none,.dict es n,#[]⟩/\PySem.W.KeysLit w.params es.toList
inductive rNotK (K:PySem.W.Frag) (w:World) (x:V) (y:V) (H:Hp) (Q:VK):Prop
 |mk (z:_) (a:_) (r:_) (_:x= .str z) (_:y= .ref a) (_:KDict K w a) (_:PySem.W.nsIn K a z=some r) (_:Q (.bl (!r.isSome)) H)
theorem op_notK:OpR X (compareOp .NotIn) (rNotK X.K X.w):=by
 intro oq s σ H x y v u Q I U Z h;obtain⟨z,a,r,rfl,rfl,⟨hs,es,n,O,hk⟩,hn,q⟩:=h;obtain⟨t,rfl⟩:=U;cases Z;have hm:=PySem.W.mapOf_K (prog:=X.prog) (w:=X.w) I.kIn O hk;refine wpAny_notIn_of (strKind_is X.prog X.w z t) hs hm ⟨.bl (!r.isSome),H,I.tok _,?_,q⟩;rw [PySem.W.find_K O hn]
 rfl
inductive rIxK (K:PySem.W.Frag) (w:World) (x:V) (y:V) (H:Hp) (Q:VK):Prop
 |mk (z:_) (a:_) (u:_) (v:_) (_:x= .ref a) (_:y= .str z) (_:KDict K w a) (_:PySem.W.nsIn K a z=some (some u)) (_:RelV v u) (_:Q v H)
theorem ix_K:IxR X (rIxK X.K X.w):=by
 intro value slice oq s σ H x y v u Q I U Z h hs;obtain⟨z,a,u',v',rfl,rfl,⟨_,es,n,O,hk⟩,hn,hr,q⟩:=h;obtain⟨t,rfl⟩:=Z;cases U;have hm:=PySem.W.mapOf_K (prog:=X.prog) (w:=X.w) I.kIn O hk;exact tail_any hm.typeIs slot_dict_getitem.lookup (wpAny_getItem_of (strKind_is X.prog X.w z t) hm (PySem.W.find_K O hn) ⟨v',H,I.tok _,hr,q⟩) hs
end
section
variable {X:Cx}{K:o0}
theorem pg_tupK {es:oj Expr}{k:Nat}{t:TGs}{n:Nat}{pos:Pos}(U:X.K=K)(Z:X.calm=true)(h:PGs X es t)
  (hn:(assignEach es X.env).length=n) (O:(assignEach es X.env).findIdx? (·.1)=none):PG X (.Tuple es k pos) (gTup K n t):=by subst U;exact pg_tup Z h hn O
end
theorem Zp {lo:Int}{n:Nat}{L:o3}{H1:Hp}{te:TE}{tl:St}{Q:VK}(C:Nat->oj V->Hp->Prop)(hn:n<=sizeLine)(h0:C 0 [] (upd H1 L (.lst [])))
  (Z:∀i ys H,i<n->C i ys H->H L=some (.lst ys)->ys.length<=i->∀R:VK,(∀y H4,H4 L=some (.lst ys)->C (i+1) (ys++ [y]) (upd H4 L (.lst (ys++ [y])))->R y H4)->te (some (.int (lo+(i:Int)))::tl) H R)
  (hQ:∀ys H,C n ys H->H L=some (.lst ys)->Q (.ref L) H):lcGo L (Itr lo n) (Jn 0) tYes te (none::tl) H1 Q:=by
 refine⟨n,λi σ ys H=>(∃x,σ=x::tl)/\C i ys H,hn,⟨⟨none,1⟩,h0⟩,?_,?_⟩
 ·rintro i σ ys H hi ⟨⟨x,rfl⟩,O⟩ U hy;exists hi;rintro x' H' ⟨rfl,rfl⟩;dsimp only [Jn,tYes,List.set];rw [A3 rfl];exact Z i ys H' hi O U hy _ λy H4 e c=>⟨e,⟨0⟩,c⟩
 ·rintro σ ys H ⟨_,O⟩ U;exact⟨ui _,hQ ys H O U⟩
theorem lc_zip {K:o0}{a b A:o3}{H1:Hp}{te:TE}{tl:St}{Q:VK}{xs ys:oj V}(f:Nat->D)(ha:∀H,Same H1 H->SqT K H a xs)(hb:∀H,Same H1 H->SqL K H b ys)(ac:xs.length=ys.length)(hn:xs.length<=sizeLine)(hA:H1 A=none)
  (Z:∀i x y H (R:VK),xs[i]? =some x->ys[i]? =some y->Same H1 H->(∀v H',Same H H'->Is H' (f i) v->R v H')->te (some x::some y::tl) H R)
  (hQ:∀H' vs,Same H1 H'->H' A=some (.lst vs)->L2.IsL H' ((List.range xs.length).map f) vs->Q (.ref A) H'):lcGo A (Itz K a b) (gTup K 2 (gCons (Jn 0) (gCons (Jn 1) gNil))) tYes te (none::none::tl) H1 Q:=by
 refine⟨xs.length,λi σ us H=>(∃u v,σ=u::v::tl)/\L2.IsL H ((List.range i).map f) us/\Same H1 H,hn,⟨⟨none,none,1⟩,1,qf hA _⟩,?_,?_⟩
 ·rintro i σ us H hi ⟨⟨u,v,rfl⟩,hl,sm⟩ O ad;have hx:xs[i]? =some xs[i]:=uj hi;have hy:ys[i]? =some (ys[i]'()):=uj _
  refine⟨⟨xs,ys,_,_,ha H sm,hb H sm,hx,hy⟩,λx H' y=> ?_⟩;obtain⟨p,x',y',rfl,hp,rfl,e1,e2⟩:=y;have e1:=e1 xs (ha H sm);have e2:=e2 ys (hb H sm);have s2:Same H (upd H p (.tup [x',y'])):=qf hp _;exists p,0,SqT.of qg,1,x',0,y',0,1;dsimp only [tYes];rw [A3 rfl];refine Z i x' y' _ _ e1 e2 (sm.trans s2) λy4 H4 U aa=>⟨U _ _ (s2 _ _ O),⟨_,0⟩,?_,λb o e=> ?_⟩
  ·have t:Tk H4 (upd H4 A (.lst (us++ [y4]))):=Tk.updL (U _ _ (s2 _ _ O));rw [List.range_succ,uw];exact((hl.mono (s2.trans U).tk).mono t).append (IsL.one (aa.mono t))
  ·rw [qh (qk e hA)];exact U b o (s2 b o (sm b o e))
 ·rintro σ us H ⟨_,hl,sm⟩ O;exact⟨⟨xs,ha H sm,1⟩,hQ H us sm O hl⟩
theorem zh (z:Str)(l:oj Str):inV (.str z) (l.map V.str)=decide (z∈l):=by
 unfold inV;rw [List.any_map,vj,List.any_eq_true,v9];constructor
 ·rintro⟨x,O,e⟩;have e':(x==z)=true:=e;rw [beq_iff_eq] at e';exact e'▸O
 ·intro h;exact⟨z,h,by show(z==z)=true;exact beq_self_eq_true z⟩
theorem wq (l:oj Str):(l.map V.str).all Zg=true:=by
 rw [Uy,U9];intro x _
 rfl
inductive Pt where
 |s (z:Str)|n (i:Int)
noncomputable def Pt.d:Pt->D
 | .s z=> .str z
 | .n i=> .int i
noncomputable def Pt.t:Pt->Str
 | .s z=>z
 | .n i=>toString i
inductive Kd where
 |box|line|words
 deriving DecidableEq
noncomputable def Kd.t:Kd->Str
 | .box=>"box"
 | .line=>"line"
 | .words=>"words"
noncomputable def BX:oj Str:= ["a","b","c","d","e","f","g","h"]
noncomputable def FRM:oj (Str×oj Kd):= [("text",[.box,.words]),("self",[.box]),("copy",[.box,.box]),("row",[.box]),("put",[.box,.box]),("join",[.box,.box]),("first",[.box,.box]),("rest",[.box,.box]),
 ("size",[.box,.box]),("cut",[.box,.box,.box]),("glue",[.box,.box,.box]),("ask",[.box,.box]),("has",[.box,.box]),("names",[.box,.box]),("go",[.line]),("like",[.box,.box,.line]),
 ("rowed",[.box,.line]),("none",[.box,.line]),("say",[.box]),("fault",[])]
noncomputable def ptOk (n m:Nat):Kd->Pt->Prop
 | .box,.s z=>z∈BX
 | .line,.n i=>1<=i/\i<=n
 | .words,.s z=>z.length<=m/\z.cps.toList.all QC=true
 |_,_=>False
noncomputable def xm (n m:Nat):oj Kd->oj Pt->Prop
 | [],[]=>True
 |k::ks,p::ps=>ptOk n m k p/\xm n m ks ps
 |_,_=>False
noncomputable abbrev Rw:=Str×oj Pt
noncomputable def jO (n m:Nat)(r:Rw):Prop:=∃ks,(r.1,ks)∈FRM/\xm n m ks r.2
noncomputable def txs (r:Rw):oj Str:=r.1::r.2.map Pt.t
noncomputable def y8 (r:Rw):Str:=Str.join " " (txs r)
noncomputable def rowD (r:Rw):D:= .tup [.str r.1,.tup (r.2.map Pt.d)]
theorem Jv:∀(x y:Str) (r:oj Str),(Str.join " " (x::y::r)).cps.toList=x.cps.toList++32::(Str.join " " (y::r)).cps.toList:=by
 intro x y r;show((x.cps++(" ":Str).cps)++(Str.join " " (y::r)).cps).toList=_;rw [Array.toList_append,Array.toList_append,JC];simp
noncomputable abbrev Free (z:Str):Prop:=32∉z.cps.toList
theorem W1:∀(l:oj Str) (z:Str) (n:Nat),(∀p∈l,Free p)->(n=0∨Free z)->spl (l.length+n) (Str.join " " (l++ [z]))=l++ [z]
 | [],z,n,_,hz=>by
  show spl (0+n) z= [z];rw [Nat.zero_add];unfold spl;rcases hz with rfl|hz
  ·rw [cutL];show [ofL z.cps.toList]= [z];rw [Q8]
  ·rw [ZB hz];show [ofL z.cps.toList]= [z];rw [Q8]
 |p::l,z,n,hl,hz=>by
  have O:=W1 l z n (λq U=>hl q (uc _ U)) hz;have Z:Free p:=hl p uf;obtain⟨y,r,e⟩:∃y r,l++ [z]=y::r:=by cases l<;>exact⟨_,0⟩
  show spl ((l.length+1)+n) (Str.join " " (p::(l++ [z])))=p::(l++ [z]);rw [e] at O⊢;unfold spl at O⊢;rw [Jv,show l.length+1+n=(l.length+n)+1 by omega,cutL_app Z,uh,O,Q8]
theorem hd_join (w:Str)(r:oj Str)(h:Free w):hd (Str.join " " (w::r))=w:=by
 have O:∀(p q:oj Nat),32∉p->JP 32 (p++32::q)=p:=by
  intro p
  induction p with
  |nil=>intro q _;simp [JP]
  |cons a p U=>
   intro q h;have h1:a≠32:=λe=>h (by simp [e])
   show JP 32 (a::(p++32::q))=a::p;rw [JP,A2 h1,U q λz=>h (uc _ z)]
 cases r with
 |nil=>
  show ofL (JP 32 w.cps.toList)=w;rw [XS h,Q8]
 |cons y r=>
  unfold hd;rw [Jv,O _ _ h,Q8]
theorem join_len:∀(l:oj Str),l≠ []->(Str.join " " l).length+1=(l.map (·.length)).sum+l.length
 | [],h=>absurd rfl h
 | [x],_=>by simp [Str.join]
 |x::y::r,_=>by
  have O:=join_len (y::r) (by simp)
  have e:(Str.join " " (x::y::r)).length=x.length+(1+(Str.join " " (y::r)).length):=by
   have:=congrArg List.length (Jv x y r);rw [uA,um] at this;simp only [vh] at this;show(Str.join " " (x::y::r)).cps.size=_;rw [this];show x.cps.size+((Str.join " " (y::r)).cps.size+1)=x.cps.size+(1+(Str.join " " (y::r)).cps.size);omega
  rw [e,uh,Ur,um];omega
variable {i:Int}
theorem num_small (h1:1<=i)(h2:i<=40):(toString i:Str).length<=2/\Free (toString i:Str)/\(toString i:Str).cps.toList.all QC=true:=by
 obtain⟨k,rfl⟩:∃k:Fin 41,i=((k.val:Nat):Int):=⟨⟨i.toNat,()⟩,by simp;omega⟩
 have O:∀k:Fin 41,(toString ((k.val:Nat):Int):Str).length<=2/\decide (Free (toString ((k.val:Nat):Int):Str))=true/\(toString ((k.val:Nat):Int):Str).cps.toList.all QC=true:=by decide+kernel
 obtain⟨a,b,c⟩:=O k;exact⟨a,uq b,c⟩
theorem W5 (h1:1<=i)(h2:i<=40):PySem.intText? (toString i:Str)=some i:=PySem.W.KIN.num_reads () ()
variable {z:Str}
theorem box_ok (h:z∈BX):z.length=1/\Free z/\z.cps.toList.all QC=true:=by
 have O:∀z∈BX,z.length=1/\decide (Free z)=true/\z.cps.toList.all QC=true:=by decide+kernel
 obtain⟨a,b,c⟩:=O z h;exact⟨a,uq b,c⟩
theorem word_ok:∀x∈FRM,decide (Free x.1)=true/\x.1.cps.toList.all QC=true:=by decide+kernel
theorem form_ok:∀x∈FRM,(decide (Kd.words∈x.2)=false)∨x=(("text":Str),[Kd.box,Kd.words]):=by decide+kernel
theorem form_nd:∀x∈FRM,∀y∈FRM,x.1=y.1->x=y:=by decide+kernel
variable {n:Nat}
theorem ptOk_free {m:Nat}(hn:n<=40){k:Kd}{p:Pt}(h:ptOk n m k p)(O:k≠ .words):Free p.t:=by
 cases k<;>cases p<;>simp only [ptOk] at h
 ·exact(box_ok h).2.1
 ·exact(num_small h.1 ()).2.1
 ·exact absurd rfl O
theorem zL {n m:Nat}:∀{ks:oj Kd}{ps:oj Pt},xm n m ks ps->ps.length=ks.length
 | [],[],_=>rfl
 |_::_,_::_,h=>by rw [um,um,zL h.2]
 | [],_::_,h=>h.elim
 |_::_,[],h=>h.elim
theorem Wp {n m:Nat}(hn:n<=40):∀{ks:oj Kd}{ps:oj Pt},xm n m ks ps->Kd.words∉ks->∀p∈ps.map Pt.t,Free p
 | [],[],_,_=>λp O=>by simp at O
 |_::_,_::_,h,hk=>λp O=>by
  rw [uh] at O;rcases A5.mp O with rfl|O
  ·exact ptOk_free hn h.1 λe=>hk (by simp [e])
  ·exact Wp hn h.2 (λz=>hk (uc _ z)) p O
 | [],_::_,h,_=>h.elim
 |_::_,[],h,_=>h.elim
variable {r:Rw}
theorem line_hd {m:Nat}(h:jO n m r):hd (y8 r)=r.1:=by
 obtain⟨ks,O,U⟩:=h;exact hd_join _ _ (uq (word_ok _ O).1)
variable {ks:oj Kd}
theorem line_spl {m:Nat}(hn:n<=40)(hk:(r.1,ks)∈FRM)(Z:xm n m ks r.2):spl (if Kd.words∈ks then ks.length else(y8 r).length+1) (y8 r)=txs r:=by
 have hw:Free r.1:=uq (word_ok _ hk).1;by_cases h:Kd.words∈ks
 ·rw [A3 h];rcases form_ok _ hk with e|e
  ·simp at e;exact absurd h e
  ·have e1:ks= [.box,.words]:=congrArg Prod.snd e;subst e1;obtain⟨w,ps⟩:=r
   match ps,Z with
   | [p,q],Z=>
    have:=W1 [w,p.t] q.t 0 (λz hz=>by
     simp only [uC,vf,uM] at hz;rcases hz with rfl|rfl
     ·exact hw
     ·exact ptOk_free hn Z.1 ()) (.inl rfl)
    exact this
 ·rw [A2 h];have hf:∀p∈txs r,Free p:=λp U=>by
   rcases A5.mp U with rfl|U
   ·exact hw
   ·exact Wp hn Z h p U
  rcases List.eq_nil_or_concat (txs r) with e|⟨l,z,e⟩
  ·simp [txs] at e
  ·rw [List.concat_eq_append] at e;have O:=join_len (txs r) (by simp [txs])
   unfold y8;rw [e] at hf O⊢;have hl:l.length<=(Str.join " " (l++ [z])).length:=by
    rw [uA] at O;simp only [um,List.length_nil] at O;omega
   have:=W1 l z ((Str.join " " (l++ [z])).length+1-l.length) (λq hq=>hf q (vE _ hq)) (.inr (hf z (by simp)))
   rw [show l.length+((Str.join " " (l++ [z])).length+1-l.length)=(Str.join " " (l++ [z])).length+1 by omega] at this
   exact this
def VE:oj o6:= [.type "ValueError",.type "Exception",.type "BaseException",.type "object"]
noncomputable def CX1 (P:o9)(w:og):CXT:=λouter H s E e s'=>∃(ea C:o3) (a0:o6) (H':Hp) (B:o8),e= .ref ea/\s'.os=s.os/\AllBare s'.gens/\0<s'.toks/\Un (frs outer) [] H H' s.heap s'.heap/\HOk P w H' B/\
 Heap.FlyingW B outer ea (.ref C) a0 s'.heap/\(∀b o,s.heap.get? b=some o->b∉frs outer->∃o',B.get? b=some o')/\E (.ref ea) (some C) H'
variable {h:o8}{C:o3}
theorem cls_in {bmB:oj o6}{newId:String}(X:K.In h)(q:PySem.W.excIn K C bmB newId=true):
  ∃bm N nm Z bs hdct sn sub ab col dd k0 k1 k2 k3 k5 mN,h.get? C=some (excClassObj nm Z C N bs bm hdct sn sub ab col dd k0 k1 k2 k3 k5 newId)/\h.Ns N mN/\mN "__init__"=none/\OwnTail h bmB bm:=by
 unfold PySem.W.excIn at q;split at q
 ·rename_i dd cd sl ho
  split at q
  ·rename_i C' bm k0 k1 k2 k3 n k5 hm hs
   simp only [uz,beq_iff_eq,Bool.not_eq_true'] at q;obtain⟨⟨⟨⟨⟨rfl,rfl⟩,O⟩,ht⟩,hok⟩,U⟩:=q;obtain⟨nm,bs,aa,ns,Z,hd,sn,sub,ab,col,ac⟩:=cd;dsimp only at hm O hok U;subst hm O;obtain⟨l⟩:=sl;simp only at hs;subst hs;exact⟨bm,ns,nm,Z,bs,hd,sn,sub,ab,col,dd,k0,k1,k2,k3,k5,_,X _ _ ho,.of_isNs (PySem.W.isNs_of_in X hok),PySem.W.nsMap_none_of_in X hok U,PySem.W.tail_of_in X ht⟩
  ·cases q
 ·cases q
theorem funs_gone {h base B:o8}:∀{l:oj Env},h.FunFrames base l->(∀b∈frs l,B.get? b=none)->h.FunFrames B l
 | [],_,_=>trivial
 |env::r,⟨hk,⟨L,o,hf,hn,ho,hd⟩,hr⟩,hB=>by
  have e:frs (env::r)=L::frs r:=by unfold frs;rw [vT,hf]
  rw [e] at hB;exact⟨hk,⟨L,o,hf,hB L uf,ho,hd⟩,funs_gone hr λb O=>hB b (uc _ O)⟩
noncomputable def tRaise (E:XK)(C:o3)(ta:TE):TS:=λ_ σ H=>tCons ta tNil σ H λvs H1=>vs.length=1/\∀e,E (.ref e) (some C) H1
theorem ps_raise {P:o9}{w:og}{K:o0}{mg:Str->om o6}{base:o8}{N:oj Str}{qual:Str}{scope:Scope}{f:o3}{U:o6}{A:oh}{outer:oj Env}{s₀:o7}{H₀:Hp}{E:XK}
  {x:Str}{C:o3}{np cpos pos:Pos}{aa:Expr}{ta:TE} (hx:PySem.W.excIn K C VE "ValueError.__new__"=true) (hg:Gl (cxOf (CX1 P w) P w K mg base N qual scope f U A outer s₀ H₀ E) x) (hm:mg x=some (.ref C))
  (ha:PE (cxOf (CX1 P w) P w K mg base N qual scope f U A outer s₀ H₀ E) aa ta) (hd:(x==("__debug__":Str))=false)
  (hs:starEach [aa] (envOfC qual scope s₀.heap.objs.size f U)= [(false,eval aa (envOfC qual scope s₀.heap.objs.size f U))]):
  PS (cxOf (CX1 P w) P w K mg base N qual scope f U A outer s₀ H₀ E) (.Raise (some (.Call (.Name x np) [aa] [] cpos)) none pos) (tRaise E C ta):=by
 intro oq s σ H D I h;obtain⟨bm,Nn,nm,q,bs,hdct,sn,sub,ab,col,dd,k0,k1,k2,k3,k5,mN,hC,hN,aq,T⟩:=cls_in I.mod.kin hx;have hT:bm.contains (.type "BaseException")=true:=T.hasType ()
 refine wpAny_Raise_call_subT (C:=C) (nm:=nm) (q:=q) (N:=Nn) (bs:=bs) (bm:=bm) (hdct:=hdct) (sn:=sn) (sub:=sub) (ab:=ab) (col:=col) (dd:=dd) (k0:=k0) (k1:=k1) (k2:=k2) (k3:=k3) (k5:=k5)
  (mN:=mN) F.excBase_ValueError hT (I.ok.hd rfl) (by show(backTo cpos (starEach [aa] (envOfC qual scope s₀.heap.objs.size f U))).any (·.1)=false;rw [hs];rfl) aq (ke I hg hm ⟨1,?_⟩ hd)
 have au:PA (cxOf (CX1 P w) P w K mg base N qual scope f U A outer s₀ H₀ E) [aa] (tCons ta tNil):=qb ha qd hs;have hp:=au cpos oq s σ H (λvs H1=>vs.length=1/\∀e,E (.ref e) (some C) H1) I h;show wpAny _ _ (evalArgs (.ref C) true (backTo cpos (starEach [aa] (envOfC qual scope s₀.heap.objs.size f U))) []) _ _ s;have aw:starEach [aa] (cxOf (CX1 P w) P w K mg base N qual scope f U A outer s₀ H₀ E).env= [(false,eval aa (envOfC qual scope s₀.heap.objs.size f U))]:=hs;rw [aw] at hp;rw [hs];refine U1 (vM hp (λvs s₂ h₂=> ?_) λ_ _ y=>y);obtain⟨ws,H2,I2,r2,q2⟩:=h₂;obtain⟨hl,q2⟩:=q2;have bk:=I2.bk;have ax:vs.length<=sizeLine:=by rw [<-r2.length,hl];decide
 refine⟨1,ax,bk _ _ hC,hN.keeps bk,T.keeps bk,λh' e ad=> ?_⟩;show wpAny (model P w) (A.deeper (envOfC qual scope s₀.heap.objs.size f U)) (leaving (envOfC qual scope s₀.heap.objs.size f U) (.ref e)) (λ_ ag=>CX1 P w outer H₀ s₀ E (.ref e) ag) (λe' ag=>CX1 P w outer H₀ s₀ E e' ag) _;have ay:(A.deeper (envOfC qual scope s₀.heap.objs.size f U)).frames=some (envOfC qual scope s₀.heap.objs.size f U::outer):=I2.ok.frames;have ak:s₂.heap.FunFrames base (envOfC qual scope s₀.heap.objs.size f U::outer):=I2.stack;have ah:∀b∈frs (envOfC qual scope s₀.heap.objs.size f U::outer),H2 b=none:=I2.stkFree;have al:frs (envOfC qual scope s₀.heap.objs.size f U::outer)=s₀.heap.objs.size::frs outer:=rfl;have ap:s₀.heap.objs.size<=s₀.heap.objs.size:=I2.ok.above;have O:Un (frs outer) [] H₀ H2 s₀.heap s₂.heap:=I2.base;refine wpAny_leaves_madeW (base:=TI.gone s₂.heap (frs (envOfC qual scope s₀.heap.objs.size f U::outer))) (h:=s₂.heap) (L:=s₀.heap.objs.size) ay rfl (λb o e=>(TI.gone_some e).2) (funs_gone ak λb Z=>TI.gone_none Z) ad λam t af aB _ aA=> ?_;have ae:∀b o,b∉frs (envOfC qual scope s₀.heap.objs.size f U::outer)->s₂.heap.get? b=some o->am.get? b=some o:=λb o Z e=>af.1 b o (by rwa [TI.gone_get Z])
 have slots:∀b o,s₂.heap.get? b=some o->(∀vs,o.data≠ .fields vs)->∃sl,am.get? b=some {o with slots:=sl}:=λb o e hn=>aA b o (ad.keeps b o e) hn
 have nd:∀b∈frs outer,∀o,s₂.heap.get? b=some o->∀vs,o.data≠ .fields vs:=λb Z o e=>by
  obtain⟨_,o',e',hn⟩:=ak.mem (show b∈(envOfC qual scope s₀.heap.objs.size f U::outer).filterMap (·.frame) from by rw [show(envOfC qual scope s₀.heap.objs.size f U::outer).filterMap (·.frame)=frs (envOfC qual scope s₀.heap.objs.size f U::outer) from rfl,al];exact uc _ Z)
  rw [e] at e';cases e';exact hn
 have ac:∀b o,s₀.heap.get? b=some o->b∉frs outer->b∉frs (envOfC qual scope s₀.heap.objs.size f U::outer):=λb o e Z hm=>by
  rw [al] at hm;rcases A5.mp hm with rfl|hm
  ·exact absurd (uF e) (vA _)
  ·exact Z hm
 refine⟨e,C,.ref t,H2,0,I2.os,I2.bare,(by first|exact I2.tk|exact Nat.lt_of_lt_of_le I2.tk (UU _ _)|((try dsimp only);first|assumption|exact Inv.tk (by assumption)|exact Nat.succ_pos _|exact Nat.lt_of_lt_of_le (Inv.tk (by assumption)) (by assumption)|exact Nat.add_pos_left (Inv.tk (by assumption)) _|omega)),⟨?_,?_,O.free,?_,O.tups,O.frzs,O.tbls⟩,?_,af,?_,q2 e⟩
 ·intro b o e1 hn Z hx;exact ae b o (ac b o e1 Z) (O.keep b o e1 hn Z hx)
 ·intro b o e1 hn Z hx;obtain⟨sl,e2⟩:=O.slot b o e1 hn Z hx;obtain⟨ao,e3⟩:=slots b _ e2 (nd b Z _ e2);exact⟨ao,e3⟩
 ·intro b o e1 hx;obtain⟨o',e2⟩:=O.there b o e1 hx;by_cases Z:b∈frs outer
  ·obtain⟨ao,e3⟩:=slots b _ e2 (nd b Z _ e2);exact⟨_,e3⟩
  ·exact⟨o',ae b o' (ac b o e1 Z) e2⟩
 ·intro b u Z;refine(I2.hok b u Z).stay (λc v hc q=> ?_) (λ_ q=>q) λ_ _ q=>q;rw [TI.gone_get]
  ·exact q
  ·intro hm;have hn:=ah c hm;rcases hc with z|z
   ·rw [z,Z] at hn;cases hn
   ·rw [z] at hn;cases hn
 ·intro b o e1 Z;obtain⟨o',e2⟩:=O.there b o e1 (by simp)
  exact⟨o',by rwa [TI.gone_get (ac b o e1 Z)]⟩
theorem Fun.okX {P:o9}{w:og}{K:o0}{mg:Str->om o6}{base:o8}{x qual:Str}{st:Stmt}{f:o3}{fd:FuncData}{N ps:oj Str}{k:Nat}{sp:Sp}(F:Fun K x qual st f fd)(S:qv N ps (qj st))(len:∀vs H Q E,sp vs H Q E->vs.length=ps.length)
  (O:∀(cdv:o6) (A:oh) (outer:oj Env) (s:o7) (H:Hp) (vs:oj V) (Q:VK) (E:XK),Room k (A.deeper (envOfC qual (qj st) s.heap.objs.size f cdv))->sp vs H Q E->
   ∃t,PSs (cxOf (CX1 P w) P w K mg base N qual (qj st) f cdv A outer s H E) (yz st) t/\t {nx:=λ_ H'=>Q .non H',rt:=Q} (ki N vs) H):FnOk P w K mg base (CX1 P w) (k+1) f fd ps sp:=by
 obtain⟨oc,od,kV,doc,pm,an,cdv,ct,osl,rfl,lk,U⟩:=F.ex;exact fn_of lk U S len λA outer s H vs Q E hr Z=>O cdv A outer s H vs Q E hr Z
end L2
namespace HT
open PySem PyProof.Rows
section
variable {prog:o9}{w:og}{A:oh}{E:o6->o7->Prop}{s:o7}
theorem getItem_tuple_all {t sl:o3}{items:Array o6}{vl vu:o6}{lo hi:om Int}{Q:o6->o7->Prop}(O:IsTup s.heap t items)(hs:s.heap.IsSliceOf sl vl vu .none)(pl:IsPart vl lo)(pu:IsPart vu hi)
  (hw:sIx items.size 0 lo=0/\sIx items.size items.size hi=items.size) (h:Q (.ref t) s):wpAny #[w,w] A (getItem (.ref t) (.ref sl)) Q E s:=by
 obtain⟨os,Z,aa,ad⟩:=id hs;have ac:s.TypeIs (.ref sl) "slice":=⟨os,Z,aa⟩;unfold getItem
 try with_reducible refine wpAny_holding ?_
 first|refine A4 (uB ?_)|skip
 refine A4 (wpAny_sequenceKey O.typeIs () ?_)
 refine A4 (vD (name:=Str.ofString "__getitem__") O.typeIs vJ
  (vV vJ O.typeIs entry_tuple_getitem ?_ (args_tuple_getitem _ _)))
 show wpAny _ _ (Builtin.Tuple.tupleItemsOf (.ref t)>>=_) _ _ s;refine A4 (tupleItemsOf_ O ?_);refine A4 (wpAny_typeOf ac ?_);rw [A3 ()]
 refine A4 (jK hs pl pu ?_);have U:((((sIx items.size 0 lo:Nat):Int)==0&&(1:Int)==1&&(sIx items.size items.size hi-sIx items.size 0 lo)==items.size)=true):=by
  rw [hw.1,hw.2];simp
 show wpAny _ _ (if(((sIx items.size 0 lo:Nat):Int)==0&&(1:Int)==1&&(sIx items.size items.size hi-sIx items.size 0 lo)==items.size)=true then _ else _) _ _ s
 rw [A3 U];unfold Builtin.Tuple.tupleIsExact;refine A4 (A4 (wpAny_typeOf O.typeIs (uB ?_)));rw [A3 ()]
 exact A4 (UM (uB ⟨0,uB h⟩))
end
end HT
namespace L2
open PySem PySem.Spec PyProof.Rows
section
variable {X:Cx}
inductive rSlG (K:PySem.W.Frag) (x:V) (lo:Option Int) (hi:Option Int) (H:Hp) (Q:VK):Prop
 |mk (a:_) (xs:_) (_:x= .ref a) (_:SqT K H a xs) (_:(HT.sIx xs.length 0 lo=0/\HT.sIx xs.length xs.length hi=xs.length->Q (.ref a) H)) (_:(¬(HT.sIx xs.length 0 lo=0/\HT.sIx xs.length xs.length hi=xs.length)->∀p,H p=none->Q (.ref p) (upd H p (.tup (cutV xs lo hi)))))
theorem Q3:SlR X (rSlG X.K):=by
 intro oq s σ H x v vl vu lo hi sl Q I Z hs pl pu h;obtain⟨a,xs,rfl,hx,q1,q2⟩:=h;by_cases U:HT.sIx xs.length 0 lo=0/\HT.sIx xs.length xs.length hi=xs.length
 ·cases Z;obtain⟨its,r,ht,hz⟩:=I.tuple hx;have O:its.toArray.size=xs.length:=by rw [uu];exact r.length.symm
  exists "tuple",_,PyProof.Rows.slot_tuple_getitem.lookup,ht.typeIs;exact HT.getItem_tuple_all ht hs pl pu (by rwa [O]) ⟨.ref a,H,I,1,q1 U⟩
 ·exact sl_tup oq s σ H (.ref a) v vl vu lo hi sl Q I Z hs pl pu ⟨a,xs,1,hx,U,q2 U⟩
end
noncomputable def y6 (n:Nat):Kd->Str->om Pt
 | .words,z=>some (.s z)
 | .box,z=>if z∈BX then some (.s z) else none
 | .line,z=>((List.range n).find? λi:Nat=>decide ((toString (1+(i:Int)):Str)=z)).map λi:Nat=> .n (1+(i:Int))
noncomputable def Yf (n:Nat):oj Kd->oj Str->om (oj Pt)
 | [],_=>some []
 |k::ks,z::zs=>match y6 n k z,Yf n ks zs with
  |some p,some ps=>some (p::ps)
  |_,_=>none
 |_::_,[]=>none
noncomputable def JZ (w:Str):om (oj Kd):=(FRM.find? λx=>decide (x.1=w)).map (·.2)
noncomputable def pcs (ks:oj Kd)(z:Str):oj Str:=spl (if Kd.words∈ks then ks.length else z.length+1) z
noncomputable def ZZ (n:Nat)(z:Str):om Rw:=
 if Qy z=true then match JZ (hd z) with
  |none=>none
  |some ks=>if(pcs ks z).length=1+ks.length then(Yf n ks ((pcs ks z).drop 1)).map λl=>(hd z,l) else none
 else none
variable {ks:oj Kd}
theorem ze {w:Str}(h:JZ w=some ks):(w,ks)∈FRM:=by
 unfold JZ at h;cases e:FRM.find? λx=>decide (x.1=w) with
 |none=>rw [e] at h;cases h
 |some x=>
  rw [e] at h;have O:=List.find?_some e;have hm:=U0 e;cases h;have:x.1=w:=uq O;subst this;exact hm
theorem wf {w:Str}(h:JZ w=none):∀x∈FRM,x.1≠w:=by
 unfold JZ at h;rw [Option.map_eq_none_iff,Uf] at h;intro x O e;exact h x O (ue e)
variable {n:Nat}{z:Str}
theorem partOf_ok {m:Nat}{k:Kd}{p:Pt}(U:z.length<=m)(ha:z.cps.toList.all QC=true)(h:y6 n k z=some p):ptOk n m k p/\p.t=z:=by
 cases k with
 |words=>cases h;exact⟨⟨U,ha⟩,1⟩
 |box=>
  simp only [y6] at h;by_cases O:z∈BX
  ·rw [A3 O] at h;cases h;exact⟨O,1⟩
  ·rw [A2 O] at h;cases h
 |line=>
  simp only [y6] at h;cases e:(List.range n).find? λi:Nat=>decide ((toString (1+(i:Int)):Str)=z) with
  |none=>rw [e] at h;cases h
  |some i=>
   rw [e] at h;cases h;have h1:=List.find?_some e;have h2:=List.mem_range.mp (U0 e);exact⟨⟨(),()⟩,uq h1⟩
theorem WO {n m:Nat}:∀{ks:oj Kd}{zs:oj Str}{ps:oj Pt},(∀z∈zs,z.length<=m/\z.cps.toList.all QC=true)->zs.length=ks.length->Yf n ks zs=some ps->xm n m ks ps/\ps.map Pt.t=zs
 | [],[],ps,_,_,h=>by cases h;exact⟨trivial,1⟩
 | [],_::_,_,_,hl,_=>by simp at hl
 |_::_,[],_,_,hl,_=>by simp at hl
 |k::ks,z::zs,ps,hz,hl,h=>by
  unfold Yf at h;split at h
  ·rename_i p qs h1 h2
   cases h;obtain⟨O,U⟩:=partOf_ok (hz z uf).1 (hz z uf).2 h1;obtain⟨b1,b2⟩:=WO (λy Z=>hz y (uc _ Z)) (by simpa using hl) h2
   exact⟨⟨O,b1⟩,by rw [uh,U,b2]⟩
  ·cases h
noncomputable def kQ:oj (oj Nat)->oj Nat
 | []=> []
 | [x]=>x
 |x::y::r=>x++32::kQ (y::r)
theorem joinL_cons (x:oj Nat){q:oj (oj Nat)}(O:q≠ []):kQ (x::q)=x++32::kQ q:=by
 cases q with
 |nil=>exact absurd rfl O
 |cons y r=>rfl
theorem kX:∀(n:Nat) (L:oj Nat),kQ (cutL 32 n L)=L
 |0,L=>by simp [cutL,kQ]
 |n+1,[]=>by simp [cutL,kQ]
 |n+1,a::r=>by
  by_cases h:a=32
  ·have O:=kX n r;obtain⟨p,q,e⟩:=jY 32 n r;rw [cutL,A3 h,joinL_cons [] (by rw [e];simp),O,h]
   rfl
  ·have O:=kX (n+1) r;obtain⟨p,q,e⟩:=jY 32 (n+1) r;rw [e] at O;simp only [cutL,A2 h,e];cases q with
   |nil=>simp only [kQ] at O⊢;rw [O]
   |cons y t=>
    simp only [kQ] at O⊢;rw [U8,O]
theorem join_ofL:∀l:oj (oj Nat),(Str.join " " (l.map ofL)).cps.toList=kQ l
 | []=>rfl
 | [x]=>by show(ofL x).cps.toList=x;unfold ofL;simp
 |x::y::r=>by
  have O:=join_ofL (y::r);show(Str.join " " (ofL x::ofL y::r.map ofL)).cps.toList=_;rw [Jv];have e:(ofL x).cps.toList=x:=by unfold ofL;simp
  rw [e];show x++32::(Str.join " " ((y::r).map ofL)).cps.toList=_;rw [O]
  rfl
theorem spl_back (n:Nat)(z:Str):Str.join " " (spl n z)=z:=by
 unfold spl;have h:=join_ofL (cutL 32 n z.cps.toList);rw [kX] at h;rw [<-Q8 (Str.join " " ((cutL 32 n z.cps.toList).map ofL)),h,Q8]
theorem cut_head:∀(n:Nat) (L:oj Nat),∃q,cutL 32 (n+1) L=JP 32 L::q
 |n,[]=>⟨[],by simp [cutL,JP]⟩
 |n,a::r=>by
  by_cases h:a=32
  ·exact⟨cutL 32 n r,by simp [cutL,JP,h]⟩
  ·obtain⟨q,e⟩:=cut_head n r;exact⟨q,by simp only [cutL,A2 h,e,JP]⟩
theorem spl_head (n:Nat)(z:Str):∃q,spl (n+1) z=hd z::q:=by
 obtain⟨q,e⟩:=cut_head n z.cps.toList;exact⟨q.map ofL,by unfold spl hd;rw [e];rfl⟩
theorem cut_sub:∀(n:Nat) (L:oj Nat),∀p∈cutL 32 n L,p.length<=L.length/\∀c∈p,c∈L
 |0,L=>λp O=>by
  simp [cutL] at O;subst O;exact⟨ui _,λc U=>U⟩
 |n+1,[]=>λp O=>by
  simp [cutL] at O;subst O;exact⟨ui _,λc U=>U⟩
 |n+1,a::r=>λp O=>by
  by_cases h:a=32
  ·rw [cutL,A3 h] at O;rcases A5.mp O with rfl|O
   ·exact⟨v7 _,λc U=>by simp at U⟩
   ·obtain⟨h1,h2⟩:=cut_sub n r p O;exact⟨by simp;omega,λc U=>uc _ (h2 c U)⟩
  ·obtain⟨p0,q,e⟩:=jY 32 (n+1) r;have Z:=cut_sub (n+1) r;rw [e] at Z;simp only [cutL,A2 h,e] at O;rcases A5.mp O with rfl|O
   ·obtain⟨h1,h2⟩:=Z p0 uf;refine⟨by simp;omega,λc U=> ?_⟩
    rcases A5.mp U with rfl|U
    ·exact uf
    ·exact uc _ (h2 c U)
   ·obtain⟨h1,h2⟩:=Z p (uc _ O);exact⟨by simp;omega,λc U=>uc _ (h2 c U)⟩
theorem spl_ok {m:Nat}(hz:z.length<=m)(ha:z.cps.toList.all QC=true):∀p∈spl n z,p.length<=m/\p.cps.toList.all QC=true:=by
 intro p O;obtain⟨q,U,rfl⟩:=A8.mp O;obtain⟨h1,h2⟩:=cut_sub n z.cps.toList q U;have e:(ofL q).cps.toList=q:=by unfold ofL;simp
 refine⟨?_,?_⟩
 ·have:(ofL q).length=q.length:=by unfold ofL Str.length;simp
  rw [this];have:z.cps.toList.length=z.length:=by simp [Str.length]
  omega
 ·rw [e,U9];intro c Z;exact List.all_eq_true.mp ha c (h2 c Z)
variable {r:Rw}
theorem rowOf_ok (h:ZZ n z=some r):jO n 300 r/\y8 r=z:=by
 unfold ZZ at h;split at h
 ·rename_i ht
  have O:=ht;unfold Qy at O;rw [uz,v9] at O;split at h
  ·cases h
  ·rename_i ks hk
   split at h
   ·rename_i hl
    cases e:Yf n ks ((pcs ks z).drop 1) with
    |none=>rw [e] at h;cases h
    |some l=>
     rw [e] at h;cases h;have hm:=ze hk;have U:∀p∈(pcs ks z).drop 1,p.length<=300/\p.cps.toList.all QC=true:=λp Z=>spl_ok O.1 O.2 p (List.mem_of_mem_drop Z);obtain⟨a1,a2⟩:=WO U (by rw [vn,hl];omega) e
     exists ⟨ks,hm,a1⟩;have aa:∃j,(if Kd.words∈ks then ks.length else z.length+1)=j+1:=by
      split
      ·rename_i hw
       exact⟨ks.length-1,by have:=List.length_pos_iff.mpr (λe=>by rw [e] at hw;simp at hw:ks≠ []);omega⟩
      ·exact⟨z.length,1⟩
     obtain⟨j,hj⟩:=aa;obtain⟨q,hq⟩:=spl_head j z;have Z:pcs ks z=hd z::q:=by unfold pcs;rwa [hj]
     have hb:Str.join " " (pcs ks z)=z:=spl_back _ z;show Str.join " " (hd z::l.map Pt.t)=z;rw [a2];rw [Z] at hb⊢;exact hb
   ·cases h
 ·cases h
section
variable {X:Cx}{oq:oj (o3×Obj)}{σ:St}{H:Hp}{s:o7}
theorem vals_refs:∀{cs:oj o3}{its:oj o6},Vals (cs.map V.ref) its->its=cs.map Value.ref
 | [],_,h=>by cases h;rfl
 |c::cs,_,h=>by
  cases h with
  |cons O U=>
   rw [vals_refs U,show _=Value.ref c from O]
   rfl
end
section
variable {X:Cx}
theorem Za:∀{ls:oj Str}{its:oj o6},Vals (ls.map V.str) its->StrsAre its ls
 | [],_,h=>by cases h;exact .nil
 |z::ls,_,h=>by
  cases h with
  |cons O U=>
   obtain⟨t,e⟩:=O;rw [e];exact .cons z t (Za U)
theorem zB:∀{ls:oj Str}{its:oj o6},StrsAre its ls->Vals (ls.map V.str) its
 |_,_,.nil=> .nil
 |_,_,.cons x t h=> .cons ⟨t,1⟩ (zB h)
theorem vals_ext:∀{xs:oj V}{us:oj o6},xs.length=us.length->(∀(j:Nat) (x:V) (v:o6),xs[j]? =some x->us[j]? =some v->RelV x v)->Vals xs us
 | [],[],_,_=> .nil
 |x::xs,u::us,hl,h=> .cons (h 0 x u rfl rfl) (vals_ext (by simpa using hl) λj y v h1 h2=>h (j+1) y v (by simpa using h1) (by simpa using h2))
 | [],_::_,hl,_=>by simp at hl
 |_::_,[],hl,_=>by simp at hl
theorem call_sortedD (hc:X.calm=true):Y6 X (.builtin "sorted") (λxs H Q=>∃(d:o3) (kvs:oj (Key×V)) (ls:oj Str),xs= [.ref d]/\H d=some (.dK kvs)/\kvs.map (·.1)=ls.map Sum.inr/\ls.length<64/\∀(ms:oj Str) (q:o3),ms.Perm ls->sortedS ms=true->H q=none->Q (.ref q) (upd H q (.lst (ms.map V.str)))):=by
 intro oq s σ H xs us Q I r h;obtain⟨d,kvs,ls,rfl,hd,hk,al,q⟩:=h;obtain⟨u,rfl,ru⟩:=XA r;cases ru;obtain⟨hz,lo,vs,ad,dd⟩:=dk_of I.hok hd;obtain⟨o,es,ep,ho⟩:=id dd;have ae:s.heap.DictAt (Qa X.prog X.w) d vs ep:=⟨o,es,ho⟩;have Z:vs.length=ls.length:=by
  have h1:=congrArg List.length hk;rw [ua,ua] at h1;rw [<-ad.length,h1]
 refine vb (n:=1) I.tk ?_;refine PySem.Calls.call_function_entry kind_sorted plain_sorted entry_sorted (args_sorted1 _) ?_;unfold Builtin.«sorted»;refine A4 (m:=checkCount "sorted" 1 1 _) (uB ?_);refine A4 (PySem.W.kdu_collect (A:=X.A.in1) (PySem.W.kdl_dict lo) (I.ok.hd hc) ae (by rw [Z,uE];omega) λh' tk U af O=> ?_)
 have hS:StrsAre U.toList ls:=by
  refine Za (vals_ext (by rw [ua,vh];exact Z.symm.trans O.1.symm) λj x v hx hv=> ?_)
  rw [uH] at hx;cases aa:ls[j]? with
  |none=>rw [aa] at hx;cases hx
  |some z=>
   rw [aa] at hx;cases hx;obtain⟨k,y,e1,e2⟩:=O.2 j v (by rwa [<-Array.getElem?_toList])
   have e3:(kvs.map (·.1))[j]? =some k:=by
    rw [ad.keys,uH,e1]
    rfl
   rw [hk,uH,aa] at e3;cases e3;rcases Qt (show keyIs (Sum.inr z) v=true from e2) with⟨i,t,e4,e5⟩|⟨z',t,e4,e5⟩
   ·cases e4
   ·cases e4;exact⟨t,e5⟩
 have ag:U.toList.length=ls.length:=by rw [vh,O.1,Z]
 refine A4 (wpAny_newList ?_ (by rw [ag,uE];omega))
 have ac:(h'.push (seqObj "list" U.toList.toArray 0)).get? h'.objs.size=some (seqObj "list" U.toList.toArray 0):=uG _ rfl;refine A4 (wpAny_holding (vV slot_list_sort ⟨_,ac,1⟩ entry_list_sort (list_sort_treeK strKind_oneLt ac hS.keysOf (λv₁ v₂ rest e=>keyKind_strs (by rwa [<-e])) () λah a1 a2=>⟨0,?_⟩) (args_list_sort _)))
 refine uB ⟨0,?_⟩;obtain⟨ms,b1,b2,b3⟩:=sorted_out_str hS a1 a2;obtain⟨e,he⟩:=sortedHeap_at (out:=(arrOf ah).map (·.2)) ac;have ak:ms.length=ls.length:=b2.length_eq;intro htk;have I':Inv X oq σ H {s with heap:=h',toks:=tk}:=I.kept af
 refine⟨.ref h'.objs.size,_,I'.laid (t':=tk) (o:= .lst (ms.map V.str)) (λb u w=> ?_) (ui _) ⟨?_,_,e,zB b1,he⟩,1,q ms _ b2 b3 (I'.hok.fresh (ui _))⟩
 ·have hb:=uF w;rw [sortedHeap_old (uP hb) (by rw [size_push'];exact Nat.lt_succ_of_lt hb)]
  exact ud _ w
 ·rw [ua,ak,uE];omega
noncomputable def Itd (d:o3)(o:Obj):It:=
 ⟨λi H=>∃kvs,H d=some (.frz o (.dK kvs))/\i<kvs.length,λi H x H'=>H'=H/\∀kvs,H d=some (.frz o (.dK kvs))->(kvs.map λp=>kV p.1)[i]? =some x,λi H=>∃kvs,H d=some (.frz o (.dK kvs))/\kvs.length<=i⟩
variable {w:og}
theorem pairs_len {P:o9}{es:oj DictEntry}{kvs:oj (Key×o6)}(h:Pairs (Qa P w) es kvs):es.length=kvs.length:=h.length
variable {H:Hp}{h:o8}{o:Obj}{es:Array DictEntry}
theorem frz_at {P:o9}{d:o3}{kvs:oj (Key×V)}{ep:Nat}(ok:HOk P w H h)(e:H d=some (.frz o (.dK kvs)))(hd:o.data= .dict es ep):
  (d==sysModules)=false/\∃vs,KV kvs vs/\h.DictAt (Qa P w) d vs ep/\vs.length=es.size/\kvs.length<=sizeLine:=by
 obtain⟨U,hz,lo,vs,r,o',aa,ac,O,c1,Z,c3,c4,c5⟩:=(show yg P w H h d (.frz o (.dK kvs)) from ok d _ e)
 rw [U] at O;cases O;rw [hd] at Z;cases Z;exact⟨lo,vs,r,⟨o,es,U,c1,hd,c3,c4,c5⟩,by rw [<-vh];exact(pairs_len c4).symm,hz⟩
theorem kV_rel {k:Key}{v:o6}(h:keyIs k v=true):RelV (kV k) v:=by
 rcases Qt h with⟨i,t,rfl,rfl⟩|⟨z,t,rfl,rfl⟩
 ·exact⟨t,1⟩
 ·exact⟨t,1⟩
variable {K:o0}{tg:Expr}
theorem turn_dict {P:o9}(d it:o3){ep:Nat}(hd:o.data= .dict es ep):Turn P w K tg (Itd d o) [it] it (λi h=>h.IsKeyIter it d i es.size ep) where
 mem:=by simp
 obj:=λi h st b O=>by
  have e:b=it:=by simpa using O
  subst e;obtain⟨o,e,c,d⟩:=st;exact⟨o,e,λv z=>by rw [d] at z;cases z⟩
 keep:=λi h h' st k=>by
  obtain⟨o,e,c,dd⟩:=st;exact⟨o,k it (by simp) o e,c,dd⟩
 item:=by
  intro X hP hw hK hc i oq s σ H E I hf st hg;subst hP hw hK;obtain⟨kvs,hq,hx⟩:=hg;obtain⟨lo,vs,r,U,hl,_⟩:=frz_at I.hok hq hd;have ad:=r.length;obtain⟨f0,f1,f2,f3,f4,f5⟩:=hf it (by simp)
  obtain⟨⟨k,v⟩,Z⟩:∃p,vs[i]? =some p:=⟨_,uj ()⟩
  refine wpAny_pyNext_dict_item (by rwa [hl]) U Z λae h' hk aa sb=> ?_
  have I1:Inv X oq σ H {s with heap:=h'}:=I.turned (t':=s.toks) (λb o O e=>(sb.2 b O).trans e) f0 f1 f3 f4 f5
  obtain⟨oi,e,c,di⟩:=id aa;refine⟨ae,1,go_of (s:={s with heap:=h'}) e c di () ⟨kV k,H,I1,kV_rel hk,⟨1,λaf ac=> ?_⟩,by rw [<-hl];exact aa,λb O=>(hf b O).1⟩⟩
  rw [hq] at ac;cases ac;have e3:(kvs.map (·.1))[i]? =some k:=by
   rw [r.keys,uH,Z]
   rfl
  rw [uH] at e3⊢;cases h4:kvs[i]? with
  |none=>rw [h4] at e3;cases e3
  |some p=>
   rw [h4] at e3;cases e3
   rfl
 done:=by
  intro X hP hw hK hc i oq s σ H E I hf st hg;subst hP hw hK;obtain⟨kvs,hq,hx⟩:=hg;obtain⟨lo,vs,r,U,hl,_⟩:=frz_at I.hok hq hd;have ad:=r.length;obtain⟨f0,f1,f2,f3,f4,f5⟩:=hf it (by simp)
  exact wpAny_pyNext_dict_end (I.ok.hd hc) (by rwa [hl]) U (List.getElem?_eq_none ()) λh' eb=>⟨1,I.turned (t':=s.toks) (λb o O e=>eb b o O e) f0 f1 f3 f4 f5⟩
 self:=λ_ _ _ _ _ st h=>wpAny_pyIter_keyiter st h
noncomputable def iDicF (tl:TE):TI:=λσ H R=>tl σ H λx H1=>∃d o kvs,x= .ref d/\H1 d=some (.frz o (.dK kvs))/\R (Itd d o) H1
theorem pi_dicF {tg l:Expr}{tl:TE}(Z:PE X l tl):PI X tg l (iDicF tl):=by
 intro oq s σ H R I h;refine thn (Z oq s σ H _ I h) λv s1 ⟨x,H1,O,r1,q1⟩=> ?_;obtain⟨d,o,kvs,rfl,hq,q⟩:=q1;cases r1;obtain⟨ho,_,lo,vs,r,o',es,ep,U,c1,c2,_⟩:=(show yg X.prog X.w H1 s1.heap d (.frz o (.dK kvs)) from O.hok d _ hq)
 rw [ho] at U;cases U;obtain⟨lo,vs,r,aa,Z,_⟩:=frz_at O.hok hq c2;refine wpAny_pyIter_dict lo aa ?_;refine⟨s1.heap.objs.size,[s1.heap.objs.size],_,_,H1,1,O.kept (t':=s1.toks) λb o e=>ud _ e,turn_dict d _ c2,⟨_,uG _ rfl,1,by rw [Z];rfl⟩,λb hb=> ?_,q⟩
 have e:b=s1.heap.objs.size:=by simpa using hb
 subst e;exact O.fpOk (ui _) (O.hok.fresh (ui _))
end
end L2
namespace PySem.AwK
open PySem Builtin Builtin.ObjectAttr
theorem lk_keys:typeLookup (.type "list") "keys"=pure none:=by rw [typeLookup_type,builtinLookup_eq_fast];kernel_rfl
section
variable {prog:o9}{w:og}{A:oh}{E:o6->o7->Prop}{s:o7}
theorem W6:isSubtype (.type "AttributeError") (.type "AttributeError")=pure true:=by rw [isSubtype_type];kernel_rfl
theorem raise_attr {α:Type}{o:o6}{name O:Str}{Q:α->o7->Prop}(hh:A.handled=none)(hm:O.length<=sizeLine)
  (hq:∀h' ac e,(∀b ob,s.heap.get? b=some ob->h'.get? b=some ob)->(∃oe,h'.get? e=some oe/\oe.cls= .type "AttributeError")->E (.ref e) {s with heap:=h',toks:=ac}):
  wpAny #[w,w] A (raiseAttrError o name O:Sem α) Q E s:=by
 unfold raiseAttrError;refine A4 (wpAny_mkStr (A4 ?_) hm);unfold newExc newTuple;refine A4 (vw ?_ (by show(1:Nat)<=sizeLine;rw [uE];decide))
 refine A4 (m:=firstArgMember _ _) (wpAny_of_eq (a:=Value.none) (by kernel_rfl) ?_)
 obtain⟨h1,aa⟩:∃h1,h1=s.heap.push {cls:= .type "tuple",data:= .seq #[Value.str O s.toks]}:=⟨0⟩;have k1:∀b ob,s.heap.get? b=some ob->h1.get? b=some ob:=λb ob e=>by rw [aa];exact ud _ e
 show wpAny #[w,w] A (newObj (.type "AttributeError") (.fields #[.ref s.heap.objs.size,.none,.none,.none,.bool false,.none,unsetMember,unsetMember])) _ E {s with heap:=s.heap.push {cls:= .type "tuple",data:= .seq #[Value.str O s.toks]},toks:=s.toks+1}
 rw [<-aa];refine vw ?_ (by unfold sizeOk;first|trivial|(rw [uE];simp)|decide)
 obtain⟨h2,U⟩:∃h2,h2=h1.push {cls:= .type "AttributeError",data:= .fields #[.ref s.heap.objs.size,.none,.none,.none,.bool false,.none,unsetMember,unsetMember]}:=⟨0⟩;have k2:∀b ob,h1.get? b=some ob->h2.get? b=some ob:=λb ob e=>by rw [U];exact ud _ e
 have Z:h2.get? h1.objs.size=some {cls:= .type "AttributeError",data:= .fields #[.ref s.heap.objs.size,.none,.none,.none,.bool false,.none,unsetMember,unsetMember]}:=by rw [U];exact uG _ rfl
 show wpAny #[w,w] A (do let x<-mkText name;noteAttr (.ref h1.objs.size) o x;raiseNew (.ref h1.objs.size)) Q E {s with heap:=h1.push {cls:= .type "AttributeError",data:= .fields #[.ref s.heap.objs.size,.none,.none,.none,.bool false,.none,unsetMember,unsetMember]},toks:=s.toks+1}
 rw [<-U];have ne:∀b ob,h1.get? b=some ob->b≠h1.objs.size:=λb ob e=>uP (uF e);generalize h1.objs.size=e at Z ne⊢;refine A4 (wpAny_mkText (A4 ?_));have hT:∀g d t os,(⟨h2,g,d,t,os⟩:o7).TypeIs (.ref e) "AttributeError":=λ_ _ _ _=>⟨_,Z,1⟩;unfold noteAttr lacksNameAndObj;refine A4 (A4 (UT (hT _ _ _ _) W6 ?_));simp only [Bool.not_true,UD,if_false];refine A4 (wpAny_load Z ?_);dsimp only;rw [A2 (by simp [unsetMember,rawInt]),A2 (by simp [unsetMember,doubtfulMember,rawInt])]
 refine uB ?_;rw [A3 rfl];refine A4 (UM (A4 (wpAny_typeOf (hT _ _ _ _) ?_)));show wpAny #[w,w] A (layMembers e 6 #[Value.str name (s.toks+1),o]) _ E _;unfold layMembers;refine A4 (wpAny_load Z ?_);dsimp only;refine wpAny_update Z ?_;have e3:=Heap.get?_update_self (Obj.mapFields λvs=>vs.extract 0 6++ #[Value.str name (s.toks+1),o]) Z rfl;have k3:∀b ob,b≠e->h2.get? b=some ob->(h2.update e (Obj.mapFields λvs=>vs.extract 0 6++ #[Value.str name (s.toks+1),o])).get? b=some ob:=λb ob hb q=>(Heap.get?_update_other _ _ (Uu hb)).trans q;exact wpAny_raiseNew_none hh (hq _ _ e (λb ob q=>k3 b ob (ne b ob (k1 b ob q)) (k2 b ob (k1 b ob q))) ⟨_,e3,1⟩)
end
section
variable {prog:o9}{w:og}{A:oh}{E:o6->o7->Prop}{h:o8}{g:Array GenState}{d:Drawn}{t:Nat}{os:OsState}{a:o3}{its:Array o6}{n:Nat}{sl:Array (om o6)}
theorem nk_entry {tk:Tok}{Q:Fin->o7->Prop}(Z:A.handled=none)(hx:h.get? a=some {cls:= .type "list",dict:=none,data:= .seq its n,slots:=sl})
  (hq:∀h' O e,(∀b ob,h.get? b=some ob->h'.get? b=some ob)->(∃U,h'.get? e=some U/\U.cls= .type "AttributeError")->E (.ref e) ⟨h',g,d,O,os⟩):
  wpAny #[w,w] A (Builtin.«object.__getattribute__» ⟨[.ref a,.str "keys" tk],[]⟩) Q E ⟨h,g,d,t,os⟩:=by
 have hT:(⟨h,g,d,t,os⟩:o7).TypeIs (.ref a) "list":=⟨_,hx,1⟩;have f4:=lk_keys
 repeat (any_goals (first|assumption|wp_step))
 exact raise_attr Z (by rw [uE];decide+kernel) hq
theorem nk_call {tk:Tok}{R:Result->o7->Prop}(hh:A.handled=none)(U:h.get? a=some {cls:= .type "list",dict:=none,data:= .seq its n,slots:=sl})
  (hq:∀h' O e,(∀b ob,h.get? b=some ob->h'.get? b=some ob)->(∃Z,h'.get? e=some Z/\Z.cls= .type "AttributeError")->R (.error (.ref e)) ⟨h',g,d,O,os⟩):
  codeAny #[w,w] A (.call (.builtin "list.__getattribute__") ⟨[.ref a,.str "keys" tk],[]⟩) R ⟨h,g,d,t,os⟩:=
 codeAny_call_builtin F.slot_list_getattribute.plain F.entry_list_ga (F.slot_list_getattribute.check _ _ _ _ _ _ _ _ (show(⟨h,g,d,t,os⟩:o7).TypeIs (.ref a) "list" from⟨_,U,1⟩) (F.args_list_getattribute_2 _ _) (nk_entry hh U hq))
theorem no_keys {Q:om o6->o7->Prop}(hh:A.handled=none)(U:h.get? a=some {cls:= .type "list",dict:=none,data:= .seq its n,slots:=sl})
  (hq:∀h' O,(∀b ob,h.get? b=some ob->h'.get? b=some ob)->Q none ⟨h',g,d,O,os⟩):wpAny #[w,w] A (getAttr? (.ref a) "keys") Q E ⟨h,g,d,t,os⟩:=by
 have hT:∀t,(⟨h,g,d,t,os⟩:o7).TypeIs (.ref a) "list":=λt=>⟨_,U,1⟩;unfold getAttr? getAttrBy?;refine A4 (wpAny_mkText (A4 (wpAny_attempt ?_)));unfold getAttrBy;refine wpAny_holding (A4 (wpAny_typeOf (hT _) ?_));rw [F.slot_list_getattribute.lookup];refine A4 (uB ?_);show wpAny #[w,w] A (getAttrByItsOwn (.ref a) _ (.type "list") (.builtin "list.__getattribute__") false false) _ _ _;unfold getAttrByItsOwn;refine A4 (m:=hookBefore _) (uB ?_);refine A4 (wpAny_attempt (wpAny_holding ?_));show wpAny #[w,w] A (boundAndCalled (.builtin "list.__getattribute__") (.ref a) _) _ _ _;unfold boundAndCalled;rw [F.slot_list_getattribute.bind];refine A4 (uB (wpAny_call (nk_call hh U λh' O e k ⟨oe,e1,e2⟩=> ?_)));have Z:∀t,(⟨h',g,d,t,os⟩:o7).TypeIs (.ref e) "AttributeError":=λt=>⟨_,e1,e2⟩;show wpAny #[w,w] A (getattributeRaised (.ref a) _ (.type "list") (.ref e) none false false) _ _ ⟨h',g,d,O,os⟩;unfold getattributeRaised;refine A4 (UT (Z _) W6 ?_);rw [A3 rfl];have lg:hookBehind (.type "list") none=pure none:=by
  show typeLookup (.type "list") "__getattr__"=pure none;rw [typeLookup_type,builtinLookup_eq_fast]
  kernel_rfl
 rw [lg];refine A4 (uB ?_);show wpAny #[w,w] A (attributeErrorLeaves (.ref a) _ (.ref e) false false) _ _ _;unfold attributeErrorLeaves;refine wpAny_throw ?_;refine A4 (UT (Z _) W6 ?_);rw [A3 rfl];exact uB (hq h' O k)
end
theorem WT:entryFor table "dict.update.loop"=some Builtin.«dict.update.loop»:=entryFor_of_fast (by kernel_rfl)
theorem JF:plainId "dict.update.loop"=true:=by decide+kernel
section
variable {prog:o9}{w:og}{A:oh}{E:o6->o7->Prop}{K:Type}[DecidableEq K]{knd:KeyKind prog w K}
noncomputable def addAll (cur:oj (K×o6)):oj (K×o6)->oj (K×o6)
 | []=>cur
 |p::r=>addAll (stored cur p.1 p.2) r
structure PairAt (h:o8)(d it:o3)(v:o6)(p:K×o6):Prop where
 at_:∃(t:o3) (o:Obj) (k:o6) (n:Nat),v= .ref t/\t≠d/\t≠it/\h.get? t=some o/\o.cls= .type "tuple"/\o.data= .seq #[k,p.2] n/\knd.is p.1 k=true
theorem pairs_loop (hh:A.handled=none){d it l:o3}{items:Array o6}{ps:oj (K×o6)}{R:Result->o7->Prop}(ap:d≠l)(aq:it≠l)(Z:d≠it)(hn:items.size=ps.length)(hz:2*ps.length<=sizeLine)(res:o6):
  ∀(m i:Nat) (s:o7) (cur:oj (K×o6)),i+m=ps.length->s.heap.IsListIter it l i->s.heap.IsList l items->s.heap.DictOf knd d cur->cur.length<=i->
  (∀(j:Nat) (v:o6) (p:K×o6),items[j]? =some v->ps[j]? =some p->PairAt (knd:=knd) s.heap d it v p)->
  (∀h' aa,h'.DictOf knd d (addAll cur (ps.drop i))->(∀b o,b≠d->b≠it->s.heap.get? b=some o->h'.get? b=some o)->R (.ok (.ret res)) {s with heap:=h',toks:=aa})->
  codeAny #[w,w] A (.builtin "dict.update.loop" ⟨[.ref d,.ref it,rawInt i,res],[]⟩) R s:=by
 intro m
 induction m with
 |zero=>
  intro i s cur hm ac hl hd hc hp hR;refine codeAny_builtin WT ?_;rw [Around.under_plainId JF _];show wpAny _ A.in1 (pyNext (.ref it)>>=_) _ _ s;refine A4 (wpAny_pyNext_list_end (A:=A.in1) hh ac hl (by rw [Array.getElem?_eq_none ()]) λh' eb=> ?_)
  have ad:h'.DictOf knd d cur:=by
   obtain⟨o,es,ep,ho,r⟩:=hd;exact⟨o,es,ep,eb d o Z ho,r⟩
  have:=hR h' s.toks (by rwa [List.drop_eq_nil_of_le ()]) λb o U O e=>eb b o O e
  show wpAny #[w,w] A.in1 (Dict.addKeywords d []>>=λ_=>ret res) _ _ _;refine A4 (m:=Dict.addKeywords d []) (uB ?_);exact uB this
 |succ m ih=>
  intro i s cur hm ac hl hd hc hp hR;refine codeAny_builtin WT ?_;rw [Around.under_plainId JF _];have hi:i<items.size:=by omega
  have af:i<ps.length:=by omega
  have hx:items[i]? =some items[i]:=Array.getElem?_eq_getElem hi;have au:ps[i]? =some ps[i]:=uj af;obtain⟨t,o,k,n,ev,aC,aw,ho,ax,ay,hk⟩:=(hp i _ _ hx au).at_;rw [ev] at hx;show wpAny _ A.in1 (pyNext (.ref it)>>=_) _ _ s;refine A4 (wpAny_pyNext_list_item (A:=A.in1) ac hl hx λh1 ag ae=> ?_);have ah:h1.get? t=some o:=(ae.2 t aw).trans ho;have hT:(({s with heap:=h1}:o7)).TypeIs (.ref t) "tuple":=⟨_,ah,ax⟩
  have ak:h1.DictOf knd d cur:=hd.sameBut ae Z;dsimp only;refine A4 (wpAny_holding (A4 (wpAny_tryCatch ?_)));unfold Dict.pairItems;refine A4 (wpAny_typeOf hT ?_);rw [A3 ()]
  refine A4 ?_;unfold seqItems?;refine A4 (wpAny_load ah ?_);rw [ay];refine uB (uB ?_);show wpAny #[w,w] A.in1 (holding [k,ps[i].2] (dictSet d k ps[i].2)) _ _ _;refine wpAny_holding (wpAny_dictSet_pairs hk ak (λh2 aA al=> ?_) ())
  have am:h2.IsListIter it l (i+1):=by
   obtain⟨oi,e,c⟩:=ag;exact⟨oi,(al.2 it (Uu Z)).trans e,c⟩
  have keep:∀b ob,b≠d->b≠it->s.heap.get? b=some ob->h2.get? b=some ob:=λb ob U O e=>(al.2 b U).trans ((ae.2 b O).trans e);have aB:h2.IsList l items:=by
   obtain⟨ol,e,c⟩:=hl;exact⟨ol,keep l ol (Uu ap) (Uu aq) e,c⟩
  refine uB ⟨plainId_quiet JF _,?_⟩;have ao:(stored cur ps[i].1 ps[i].2).length<=i+1:=by
   unfold stored;split
   ·rw [ua];omega
   ·rw [uA];show cur.length+1<=i+1;omega
  refine ih (i+1) _ _ () am aB aA ao (λj v p h1 h2=> ?_) λh' aa ad kp=> ?_
  ·obtain⟨t',o',k',n',e1,e2,e3,e4,e5⟩:=(hp j v p h1 h2).at_;exact⟨⟨t',o',k',n',e1,e2,e3,keep t' o' e2 e3 e4,e5⟩⟩
  ·refine hR h' aa ?_ λb ob U O e=>kp b ob U O (keep b ob U O e);rw [uW af];exact ad
theorem dict_pairs (hh:A.handled=none){s:o7}{l:o3}{items:Array o6}{n:Nat}{sl:Array (om o6)}{ps:oj (K×o6)}{Q:o6->o7->Prop}(hl:s.heap.get? l=some {cls:= .type "list",dict:=none,data:= .seq items n,slots:=sl})(hn:items.size=ps.length)(hz:2*ps.length<=sizeLine)
  (hp:∀(j:Nat) (v:o6) (p:K×o6),items[j]? =some v->ps[j]? =some p->∃(t:o3) (o:Obj) (k:o6) (n:Nat),v= .ref t/\s.heap.get? t=some o/\o.cls= .type "tuple"/\o.data= .seq #[k,p.2] n/\knd.is p.1 k=true)
  (hQ:∀h' aa,h'.DictOf knd s.heap.objs.size (addAll [] ps)->(∀b o,s.heap.get? b=some o->h'.get? b=some o)->Q (.ref s.heap.objs.size) {s with heap:=h',toks:=aa}):
  wpAny #[w,w] A (call (.type "dict") [.ref l]) Q E s:=by
 refine callType_codes (Q₁:=λobj s₁=>obj= .ref s.heap.objs.size/\s₁={s with heap:=s.heap.push {cls:= .type "dict",data:= .dict #[]}}) F.kt_called_dict (F.kt_typeCall_dict_1 _) F.entry_dict_init (kt_code_dict_new _ ⟨1,1⟩) ?_
 rintro obj s₁ ⟨rfl,rfl⟩;have U:(s.heap.push {cls:= .type "dict",data:= .dict #[]}).DictOf knd s.heap.objs.size []:=Heap.DictOf.new s.heap;exists U.typeIs,F.args_dict_init_2 _ _;unfold Builtin.«dict.__init__»;refine A4 ?_;unfold Builtin.Dict.selfAndRest;refine A4 (wpAny_notOrdered_dict U.typeIs ?_);refine(show wpAny _ _ (pure (s.heap.objs.size,[Value.ref l])) _ _ _ from ?_)
 refine uB ?_;refine(show wpAny _ _ (Builtin.Dict.updateFrom "dict.__init__" s.heap.objs.size (.ref l) [] .none) _ _ _ from ?_)
 unfold Builtin.Dict.updateFrom;have Z:(s.heap.push {cls:= .type "dict",data:= .dict #[]}).get? l=some {cls:= .type "list",dict:=none,data:= .seq items n,slots:=sl}:=ud _ hl;refine A4 (wpAny_typeOf (T:="list") ⟨_,Z,1⟩ ?_);rw [A3 ()]
 refine A4 (no_keys (A:=A.in1.in1) hh Z λh2 al k2=> ?_);rw [A3 (show(none:om o6).isNone=true from rfl)]
 have ac:l<s.heap.objs.size:=uF hl;have ae:h2.IsList l items:=⟨_,k2 _ _ Z,1,n,1⟩;refine A4 (UM (A4 (UL ae ?_)));have ad:h2.DictOf knd s.heap.objs.size []:=by
  obtain⟨o,es,ep,ho,r⟩:=U;exact⟨o,es,ep,k2 _ _ ho,r⟩
 have O:s.heap.objs.size<h2.objs.size:=by
  obtain⟨o,es,ep,ho,r⟩:=ad;exact uF ho
 have k1:∀b o,s.heap.get? b=some o->h2.get? b=some o:=λb o e=>k2 b o (ud _ e);have k3:∀b o,h2.get? b=some o->(h2.push {cls:= .type "list_iterator",data:= .fields #[.ref l,.int 0 0]}).get? b=some o:=λb o e=>ud _ e;have af:(h2.push {cls:= .type "list_iterator",data:= .fields #[.ref l,.int 0 0]}).IsList l items:=⟨_,k3 _ _ (k2 _ _ Z),1,n,1⟩;have ag:(h2.push {cls:= .type "list_iterator",data:= .fields #[.ref l,.int 0 0]}).DictOf knd s.heap.objs.size []:=ad.push _;refine uB ⟨plainId_quiet JF _,pairs_loop (A:=A.in1) hh (d:=s.heap.objs.size) (it:=h2.objs.size) (l:=l) (items:=items) (ps:=ps) (Uk ac) (Uk (Nat.lt_trans ac O)) (uP O) hn hz .none ps.length 0 _ [] () ⟨_,uG _ rfl,1,1⟩ af ag (ui _) (λj v p h1 ah=> ?_) λh' aa ak kp=> ?_⟩
 ·obtain⟨t,o,k,n',e1,e2,e3,e4,e5⟩:=hp j v p h1 ah;have ht:=uF e2;exact⟨⟨t,o,k,n',e1,uP ht,uP (Nat.lt_trans ht O),k3 _ _ (k1 _ _ e2),e3,e4,e5⟩⟩
 ·refine⟨1,hQ h' aa ak λb o e=> ?_⟩;have hb:=uF e;exact kp b o (uP hb) (uP (Nat.lt_trans hb O)) (k3 _ _ (k1 _ _ e))
end
end PySem.AwK
namespace L2
open PySem PySem.Spec PyProof.Rows
section
variable {X:Cx}
noncomputable def inrK (ps:oj (Str×V)):oj (Key×V):=ps.map λp=>(Sum.inr p.1,p.2)
theorem wF (ps:oj (Str×V)):(inrK ps).map (·.1)=(ps.map (·.1)).map Sum.inr:=by
 unfold inrK;rw [uN,uN]
 rfl
theorem stored_new {kvs:oj (Key×o6)}{k:Key}{v:o6}(h:k∉kvs.map (·.1)):stored kvs k v=kvs++ [(k,v)]:=by
 unfold stored;rw [A2];intro q;obtain⟨p,O,e⟩:=List.any_eq_true.mp q;exact h (A8.mpr ⟨p,O,uq e⟩)
theorem Wn:∀{ps cur:oj (Key×o6)},((cur++ps).map (·.1)).Nodup->AwK.addAll cur ps=cur++ps
 | [],cur,_=>(vc cur).symm
 |p::r,cur,h=>by
  unfold AwK.addAll;have O:p.1∉cur.map (·.1):=by
   rw [uw,uh] at h;intro q;exact(List.nodup_append.mp h).2.2 _ q _ uf rfl
  rw [stored_new O,Wn (by rw [vK];exact h),vK]
  rfl
theorem pairs_are {P:o9}{w:og}{H:Hp}{h:o8}(ok:HOk P w H h):∀{ts:oj o3}{ps:oj (Str×V)},ts.length=ps.length->(∀(i:Nat) (t:o3) (p:Str×V),ts[i]? =some t->ps[i]? =some p->H t=some (.tup [.str p.1,p.2]))->
  ∃pv:oj (Key×o6),KV (inrK ps) pv/\∀(j:Nat) (v:o6) (p:Key×o6),(ts.map Value.ref)[j]? =some v->pv[j]? =some p->∃(t:o3) (o:Obj) (k:o6) (n:Nat),v= .ref t/\h.get? t=some o/\o.cls= .type "tuple"/\o.data= .seq #[k,p.2] n/\(Qa P w).is p.1 k=true
 | [],[],_,_=>⟨[],.nil,λj v p e=>by simp at e⟩
 |t::ts,p::ps,hl,hp=>by
  obtain⟨pv,h1,h2⟩:=pairs_are ok (ts:=ts) (ps:=ps) (by simpa using hl) λi t' p' O U=>hp (i+1) t' p' (by simpa using O) (by simpa using U)
  obtain⟨_,its,rv,o,Z,hc,n,hd⟩:=(show yg P w H h t (.tup [.str p.1,p.2]) from ok t _ (hp 0 t p rfl rfl))
  cases rv with
  |cons r1 rv=>
  cases rv with
  |cons r2 rv=>
  cases rv with
  |nil=>
  obtain⟨tk,rfl⟩:=r1
  rename_i u
  refine⟨(Sum.inr p.1,u)::pv,.cons ⟨1,r2⟩ h1,λj v q O U=> ?_⟩;cases j with
  |zero=>
   simp only [uh,List.getElem?_cons_zero,Option.some.injEq] at O U;subst O U;exact⟨t,o,_,n,1,Z,hc,hd,ZV _ _ _ _⟩
  |succ j=>exact h2 j v q (by simpa using O) (by simpa using U)
 | [],_::_,hl,_=>by simp at hl
 |_::_,[],hl,_=>by simp at hl
noncomputable def PairsL (H:Hp)(l:o3)(ps:oj (Str×V)):Prop:=∃ts:oj o3,H l=some (.lst (ts.map V.ref))/\ts.length=ps.length/\∀(i:Nat) (t:o3) (p:Str×V),ts[i]? =some t->ps[i]? =some p->H t=some (.tup [.str p.1,p.2])
theorem dict_of {oq:oj (o3×Obj)}{σ:St}{H:Hp}{s:o7}{l:o3}{ps:oj (Str×V)}{Q:o6->o7->Prop}(hc:X.calm=true)(I:Inv X oq σ H s)(hl:PairsL H l ps)(hn:(ps.map (·.1)).Nodup)(hz:ps.length<=1000)
  (h:∀h' O pv,0<O->(∀b o,s.heap.get? b=some o->h'.get? b=some o)->KV (inrK ps) pv->h'.DictOf (Qa X.prog X.w) s.heap.objs.size pv->Q (.ref s.heap.objs.size) {s with heap:=h',toks:=O}):
  wpAny #[X,X] X.A (call (.type "dict") [.ref l]) Q X.xe s:=by
 obtain⟨ts,e1,e2,e3⟩:=hl;obtain⟨_,its,n,rv,ho⟩:=(show yg X.prog X.w H s.heap l (.lst (ts.map V.ref)) from I.hok l _ e1)
 cases vals_refs rv;obtain⟨pv,r,hp⟩:=pairs_are I.hok e2 e3;have ac:pv.length=ps.length:=by
  rw [<-r.length];unfold inrK;rw [ua]
 have Z:(pv.map (·.1)).Nodup:=by
  rw [<-r.keys,wF];exact List.Pairwise.map _ (λa b aa e=>aa (Ui e)) hn
 refine vb (n:=1) I.tk ?_;refine AwK.dict_pairs (knd:=Qa X.prog X.w) (I.ok.hd hc) (ps:=pv) ho (by rw [uu,ua];omega) (by rw [uE];omega) (λj v p h1 h2=>hp j v p (by simpa using h1) h2) λh' O U kp=> ?_
 rw [Wn (by simpa using Z),List.nil_append] at U
 exact λhtk=>h h' O pv htk kp r U
theorem WP (Z:X.calm=true):Y6 X (.type "dict") (λxs H Q=>∃(l:o3) (ps:oj (Str×V)),xs= [.ref l]/\PairsL H l ps/\(ps.map (·.1)).Nodup/\ps.length<=1000/\∀q,H q=none->Q (.ref q) (upd H q (.dK (inrK ps)))):=by
 intro oq s σ H xs us Q I r h;obtain⟨l,ps,rfl,hl,hn,hz,q⟩:=h;obtain⟨u,rfl,ru⟩:=XA r;cases ru;refine dict_of Z I hl hn hz λh' aa pv htk kp rel dd=> ?_;have O:(s.heap.objs.size==sysModules)=false:=by
  rw [beq_eq_false_iff_ne];exact Uk I.big
 have U:(inrK ps).length<=sizeLine:=by unfold inrK;rw [ua,uE];omega
 exact⟨.ref s.heap.objs.size,_,I.laid kp (ui _) (dk_new U O rel dd),1,q _ I.fresh⟩
theorem call_dictF (Z:X.calm=true):Y6 X (.type "dict") (λxs H Q=>∃(l:o3) (ps:oj (Str×V)),xs= [.ref l]/\PairsL H l ps/\(ps.map (·.1)).Nodup/\ps.length<=1000/\∀q o,H q=none->Q (.ref q) (upd H q (.frz o (.dK (inrK ps))))):=by
 intro oq s σ H xs us Q I r h;obtain⟨l,ps,rfl,hl,hn,hz,q⟩:=h;obtain⟨u,rfl,ru⟩:=XA r;cases ru;refine dict_of Z I hl hn hz λh' aa pv htk kp rel dd=> ?_;have O:(s.heap.objs.size==sysModules)=false:=by
  rw [beq_eq_false_iff_ne];exact Uk I.big
 have U:(inrK ps).length<=sizeLine:=by unfold inrK;rw [ua,uE];omega
 obtain⟨o,es,ep,ho,rr⟩:=id dd;exact⟨.ref s.heap.objs.size,_,I.laid (o:= .frz o (.dK (inrK ps))) kp (ui _) ⟨ho,dk_new U O rel dd⟩,1,q _ o I.fresh⟩
end
mutual
noncomputable def puD:D->Bool
 | .str _=>true
 | .int _=>true
 | .tup xs=>puL xs
 |_=>false
noncomputable def puL:oj D->Bool
 | []=>true
 |x::r=>puD x&&puL r
end
mutual
noncomputable def eqD:D->D->Bool
 | .str a,.str b=>a==b
 | .int a,.int b=>a==b
 | .tup xs,.tup ys=>eqL xs ys
 |_,_=>false
noncomputable def eqL:oj D->oj D->Bool
 | [],[]=>true
 |x::r,y::q=>eqD x y&&eqL r q
 |_,_=>false
end
mutual
theorem eqD_iff:∀{d e:D},puD d=true->(eqD d e=true↔d=e)
 | .str a,e,_=>by cases e<;>simp [eqD]
 | .int a,e,_=>by cases e<;>simp [eqD]
 | .tup xs,.tup ys,h=>by
  have:=eqL_iff (xs:=xs) (ys:=ys) (by simpa [puD] using h)
  simp only [eqD,this,D.tup.injEq]
 | .tup xs,.non,_=>by simp [eqD]
 | .tup xs,.bl _,_=>by simp [eqD]
 | .tup xs,.int _,_=>by simp [eqD]
 | .tup xs,.str _,_=>by simp [eqD]
 | .tup xs,.lst,_=>by simp [eqD]
 | .tup xs,.dct,_=>by simp [eqD]
 | .non,_,h=>by simp [puD] at h
 | .bl _,_,h=>by simp [puD] at h
 | .lst,_,h=>by simp [puD] at h
 | .dct,_,h=>by simp [puD] at h
theorem eqL_iff:∀{xs ys:oj D},puL xs=true->(eqL xs ys=true↔xs=ys)
 | [],[],_=>by simp [eqL]
 | [],_::_,_=>by simp [eqL]
 |_::_,[],_=>by simp [eqL]
 |x::r,y::q,h=>by
  have h':puD x=true/\puL r=true:=by simpa [puL] using h
  simp only [eqL,uz,eqD_iff h'.1,eqL_iff h'.2,vm]
end
mutual
theorem Is.det {H:Hp}:∀{d e:D}{v:V},puD d=true->puD e=true->Is H d v->Is H e v->d=e
 | .str a,e,v,_,he,h1,h2=>by
  obtain⟨rfl,_⟩:=(show v= .str a/\_ from h1)
  cases e with
  |str b=>obtain⟨q,_⟩:=(show V.str a=V.str b/\_ from h2);cases q;rfl
  |int b=>cases(show V.str a=V.int b from h2)
  |tup ys=>obtain⟨p,us,q,_⟩:=(show∃p us,V.str a=V.ref p/\_ from h2);cases q
  |_=>simp [puD] at he
 | .int a,e,v,_,he,h1,h2=>by
  cases(show v= .int a from h1)
  cases e with
  |str b=>obtain⟨q,_⟩:=(show V.int a=V.str b/\_ from h2);cases q
  |int b=>cases(show V.int a=V.int b from h2);rfl
  |tup ys=>obtain⟨p,us,q,_⟩:=(show∃p us,V.int a=V.ref p/\_ from h2);cases q
  |_=>simp [puD] at he
 | .tup xs,e,v,hd,he,h1,h2=>by
  obtain⟨p,vs,rfl,Z,hl⟩:=(show∃p vs,v=V.ref p/\H p=some (.tup vs)/\IsL H xs vs from h1)
  cases e with
  |str b=>obtain⟨q,_⟩:=(show V.ref p=V.str b/\_ from h2);cases q
  |int b=>cases(show V.ref p=V.int b from h2)
  |tup ys=>
   obtain⟨p',us,q,O,U⟩:=(show∃p' us,V.ref p=V.ref p'/\H p'=some (.tup us)/\IsL H ys us from h2)
   cases q;rw [Z] at O;cases O;rw [IsL.det (by simpa [puD] using hd) (by simpa [puD] using he) hl U]
  |_=>simp [puD] at he
 | .non,_,_,hd,_,_,_=>by simp [puD] at hd
 | .bl _,_,_,hd,_,_,_=>by simp [puD] at hd
 | .lst,_,_,hd,_,_,_=>by simp [puD] at hd
 | .dct,_,_,hd,_,_,_=>by simp [puD] at hd
theorem IsL.det {H:Hp}:∀{xs ys:oj D}{vs:oj V},puL xs=true->puL ys=true->IsL H xs vs->IsL H ys vs->xs=ys
 | [],[],_,_,_,_,_=>rfl
 | [],_::_,_,_,_,h1,h2=>by
  cases(show _= [] from h1)
  obtain⟨v,r,q,_⟩:=(show∃v r,[]=v::r/\_ from h2)
  cases q
 |_::_,[],_,_,_,h1,h2=>by
  cases(show _= [] from h2)
  obtain⟨v,r,q,_⟩:=(show∃v r,[]=v::r/\_ from h1)
  cases q
 |x::xs,y::ys,_,hd,he,h1,h2=>by
  obtain⟨v,r,rfl,Z,a2⟩:=h1;obtain⟨v',r',q,b1,b2⟩:=h2;cases q;have O:puD x=true/\puL xs=true:=by simpa [puL] using hd
  have U:puD y=true/\puL ys=true:=by simpa [puL] using he
  rw [Is.det O.1 U.1 Z b1,IsL.det O.2 U.2 a2 b2]
end
theorem eqL_all:∀(xs ys:oj D),eqL xs ys=((List.range (min xs.length ys.length)).all (λj=>eqD (xs.getD j .non) (ys.getD j .non))&&xs.length==ys.length)
 | [],[]=>by simp [eqL]
 | [],_::_=>by simp [eqL]
 |_::_,[]=>by simp [eqL]
 |x::r,y::q=>by
  have O:=eqL_all r q;rw [um,um,show min (r.length+1) (q.length+1)=min r.length q.length+1 by omega,List.range_succ_eq_map,vo,Uy]
  have e:(List.range (min r.length q.length)).all ((λj=>eqD ((x::r).getD j .non) ((y::q).getD j .non))∘Nat.succ)=(List.range (min r.length q.length)).all λj=>eqD (r.getD j .non) (q.getD j .non):=by congr 1
  rw [e];have U:(r.length+1==q.length+1)=(r.length==q.length):=by rw [vj];simp
  rw [U,Bool.and_assoc,<-O]
  rfl
section
variable {X:Cx}{oq:oj (o3×Obj)}{σ:St}{H:Hp}{s:o7}
variable {z:Str}{e:D}{u:V}{A:oh}
theorem eqAt_str (I:Inv X oq σ H s){t:Tok}{b:o6}(U:puD e=true)(h2:Is H e u)(O:RelV u b)(Z:A.units<cLine):SeqAt.EqAt A s (.str z t) b (eqD (.str z) e):=by
 cases e with
 |str y=>
  obtain⟨rfl,_⟩:=(show u= .str y/\_ from h2)
  obtain⟨t2,rfl⟩:=O;exact SeqAt.EqAt.str_str _ _ _ _
 |int y=>
  cases(show u= .int y from h2)
  obtain⟨t2,rfl⟩:=O;exact UA _ _ _ _
 |tup ys=>
  obtain⟨p,us,rfl,hp,hl⟩:=(show∃p us,u=V.ref p/\H p=some (.tup us)/\IsL H ys us from h2)
  cases O;obtain⟨its,_,q,_⟩:=I.tuple (.inl (.of hp));exact SeqAt.EqAt.str_tuple _ _ q Z
 |_=>simp [puD] at U
theorem eqAt_int (I:Inv X oq σ H s){z:Int}{t:Tok}{b:o6}(U:puD e=true)(h2:Is H e u)(O:RelV u b)(Z:A.units<cLine):SeqAt.EqAt A s (.int z t) b (eqD (.int z) e):=by
 cases e with
 |str y=>
  obtain⟨rfl,_⟩:=(show u= .str y/\_ from h2)
  obtain⟨t2,rfl⟩:=O;exact Uz _ _ _ _
 |int y=>
  cases(show u= .int y from h2)
  obtain⟨t2,rfl⟩:=O;exact SeqAt.EqAt.int_int _ _ _ _
 |tup ys=>
  obtain⟨p,us,rfl,hp,hl⟩:=(show∃p us,u=V.ref p/\H p=some (.tup us)/\IsL H ys us from h2)
  cases O;obtain⟨its,_,q,_⟩:=I.tuple (.inl (.of hp));exact SeqAt.EqAt.int_tuple _ _ q Z
 |_=>simp [puD] at U
theorem ZE:∀{xs:oj D}{j:Nat}{x:D},puL xs=true->xs[j]? =some x->puD x=true
 | [],_,_,_,e=>by simp at e
 |y::r,0,x,h,e=>by
  have h':puD y=true/\puL r=true:=by simpa [puL] using h
  have:y=x:=by simpa using e
  exact this▸h'.1
 |y::r,j+1,x,h,e=>by
  have h':puD y=true/\puL r=true:=by simpa [puL] using h
  exact ZE h'.2 (by simpa using e)
theorem eqAt_tup (I:Inv X oq σ H s){xs:oj D}{e:D}{v u:V}{a b:o6}{A:oh}(hd:puD (.tup xs)=true)(he:puD e=true)(h1:Is H (.tup xs) v)(h2:Is H e u)(r1:RelV v a)(r2:RelV u b)(hu:A.units<cLine)
  (ih:∀x∈xs,∀(e:D) (v u:V) (a b:o6),puD x=true->puD e=true->Is H x v->Is H e u->RelV v a->RelV u b->SeqAt.EqAt A.in1 s a b (eqD x e)):SeqAt.EqAt A s a b (eqD (.tup xs) e):=by
 obtain⟨p,vs,rfl,hp,hl⟩:=(show∃p vs,v=V.ref p/\H p=some (.tup vs)/\IsL H xs vs from h1)
 cases r1;obtain⟨its,rv,q,_⟩:=I.tuple (.inl (.of hp));cases e with
 |str y=>
  obtain⟨rfl,_⟩:=(show u= .str y/\_ from h2)
  obtain⟨t2,rfl⟩:=r2;exact SeqAt.EqAt.tuple_str _ _ q hu
 |int y=>
  cases(show u= .int y from h2)
  obtain⟨t2,rfl⟩:=r2;exact SeqAt.EqAt.tuple_int _ _ q hu
 |tup ys=>
  by_cases hv:V.ref p=u
  ·have:=Is.det (e:= .tup ys) hd he h1 (hv▸h2);subst hv;cases r2;rw [<-this,(eqD_iff hd).mpr rfl];exact SeqAt.EqAt.same _
  ·obtain⟨p',us,rfl,aa,O⟩:=(show∃p' us,u=V.ref p'/\H p'=some (.tup us)/\IsL H ys us from h2)
   cases r2;obtain⟨its',U,q',_⟩:=I.tuple (.inl (.of aa));have l1:its.length=xs.length:=by rw [<-rv.length,hl.length]
   have l2:its'.length=ys.length:=by rw [<-U.length,O.length]
   have ac:puL xs=true:=by simpa [puD] using hd
   have ad:puL ys=true:=by simpa [puD] using he
   have ae:=UN (e:=λj=>eqD (xs.getD j .non) (ys.getD j .non)) q q' hu λj a1 a2=>by
    have Z:j<xs.length:=by rw [<-l1];simpa using a1
    have j2:j<ys.length:=by rw [<-l2];simpa using a2
    obtain⟨v1,e1,i1⟩:=hl.get (i:=j) (d:=xs[j]) (by simp [Z])
    obtain⟨v2,e2,i2⟩:=O.get (i:=j) (d:=ys[j]) (by simp [j2])
    obtain⟨b1,f1,g1⟩:=rv.get e1;obtain⟨b2,f2,g2⟩:=U.get e2;have k1:its.toArray[j]=b1:=by
     have:=f1;rw [uj (by rwa [l1])] at this
     simpa using this
    have k2:its'.toArray[j]=b2:=by
     have:=f2;rw [uj (by rwa [l2])] at this
     simpa using this
    have d1:xs.getD j .non=xs[j]:=by simp [List.getD,Z]
    have d2:ys.getD j .non=ys[j]:=by simp [List.getD,j2]
    show SeqAt.EqAt _ s _ _ (eqD (xs.getD j .non) (ys.getD j .non));rw [k1,k2,d1,d2];exact ih _ (vd Z) _ _ _ _ _ (ZE (j:=j) ac (by simp [Z])) (ZE (j:=j) ad (by simp [j2])) i1 i2 g1 g2
   have e1:eqD (.tup xs) (.tup ys)=((List.range (min its.toArray.size its'.toArray.size)).all (λj=>eqD (xs.getD j .non) (ys.getD j .non))&&its.toArray.size==its'.toArray.size):=by
    rw [uu,uu,l1,l2,<-eqL_all];simp only [eqD]
   rw [e1];exact SeqAt.EqAt.of_refs (λz=>hv (by rw [z])) ae
 |_=>simp [puD] at he
theorem eqAt_D (I:Inv X oq σ H s):∀(n:Nat) (d e:D) (v u:V) (a b:o6) (A:oh),dp d<=n->puD d=true->puD e=true->Is H d v->Is H e u->RelV v a->RelV u b->A.units+n<cLine->SeqAt.EqAt A s a b (eqD d e):=by
 intro n
 induction n with
 |zero=>
  intro d e v u a b A hn hd U h1 h2 Z r2 hu;cases d with
  |int z=>
   cases(show v= .int z from h1)
   obtain⟨t,rfl⟩:=Z;exact eqAt_int I U h2 r2 hu
  |str z=>simp [dp] at hn
  |tup xs=>simp [dp] at hn
  |_=>simp [puD] at hd
 |succ n ih=>
  intro d e v u a b A hn hd U h1 h2 Z r2 hu;have O:A.units<cLine:=UG (UU _ _) hu;cases d with
  |int z=>
   cases(show v= .int z from h1)
   obtain⟨t,rfl⟩:=Z;exact eqAt_int I U h2 r2 O
  |str z=>
   obtain⟨rfl,_⟩:=(show v= .str z/\_ from h1)
   obtain⟨t,rfl⟩:=Z;exact eqAt_str I U h2 r2 O
  |tup xs=>
   have hm:dpL xs<=n:=by
    have:dp (.tup xs)=1+dpL xs:=by simp only [dp]
    omega
   exact eqAt_tup I hd U h1 h2 Z r2 O λx hx e v u a b k1 k2 k3 k4 k5 k6=>ih x e v u a b A.in1 ((zX xs).mp hm x hx) k1 k2 k3 k4 k5 k6 (by rw [uT];omega)
  |_=>simp [puD] at hd
end
section
variable {X:Cx}
noncomputable def trD:D->Bool
 | .str _=>true
 | .tup xs=>puL xs
 |_=>false
variable {oq:oj (o3×Obj)}{σ:St}{H:Hp}{s:o7}{A:oh}{n:Nat}{its:oj o6}
theorem parts_eq (I:Inv X oq σ H s){xs ys:oj D}{vs us:oj V}{its':oj o6}(hn:dpL xs<=n)(hd:puL xs=true)(he:puL ys=true)(hl:IsL H xs vs)(O:IsL H ys us)(rv:Vals vs its)(U:Vals us its')(hu:A.units+n<cLine):
  ∀j (a1:j<its.toArray.size) (a2:j<its'.toArray.size),SeqAt.EqAt A s its.toArray[j] its'.toArray[j] (eqD (xs.getD j .non) (ys.getD j .non)):=λj a1 a2=>by
 have l1:its.length=xs.length:=by rw [<-rv.length,hl.length]
 have l2:its'.length=ys.length:=by rw [<-U.length,O.length]
 have Z:j<xs.length:=by rw [<-l1];simpa using a1
 have j2:j<ys.length:=by rw [<-l2];simpa using a2
 obtain⟨v1,e1,i1⟩:=hl.get (i:=j) (d:=xs[j]) (by simp [Z])
 obtain⟨v2,e2,i2⟩:=O.get (i:=j) (d:=ys[j]) (by simp [j2])
 obtain⟨b1,f1,g1⟩:=rv.get e1;obtain⟨b2,f2,g2⟩:=U.get e2;have k1:its.toArray[j]=b1:=by
  have:=f1;rw [uj (by rwa [l1])] at this
  simpa using this
 have k2:its'.toArray[j]=b2:=by
  have:=f2;rw [uj (by rwa [l2])] at this
  simpa using this
 have d1:xs.getD j .non=xs[j]:=by simp [List.getD,Z]
 have d2:ys.getD j .non=ys[j]:=by simp [List.getD,j2]
 rw [k1,k2,d1,d2];exact eqAt_D I n _ _ _ _ _ _ A ((zX xs).mp hn _ (vd Z)) (ZE (j:=j) hd (by simp [Z])) (ZE (j:=j) he (by simp [j2])) i1 i2 g1 g2 hu
variable {e:D}{y:V}
theorem rc_D (I:Inv X oq σ H s){d:D}{x:V}{v u:o6}(h1:Is H d x)(h2:Is H e y)(p1:trD d=true)(p2:trD e=true)(hn:dp d<=60)(rx:RelV x v)(ry:RelV y u)(hu:A.units+64<cLine):
  SeqAt.RcAt A s v u (eqD d e)/\SeqAt.RcNeAt A s v u (!eqD d e):=by
 have O:A.units<cLine:=by omega
 cases d with
 |str z=>
  obtain⟨rfl,_⟩:=(show x= .str z/\_ from h1)
  obtain⟨t,rfl⟩:=rx;cases e with
  |str w=>
   obtain⟨rfl,_⟩:=(show y= .str w/\_ from h2)
   obtain⟨t2,rfl⟩:=ry;exact⟨SeqAt.RcAt.str_str _ _ _ _,SeqAt.RcNeAt.str_str _ _ _ _⟩
  |tup ys=>
   obtain⟨p,us,rfl,hp,hl⟩:=(show∃p us,y=V.ref p/\H p=some (.tup us)/\IsL H ys us from h2)
   cases ry;obtain⟨its,_,q,_⟩:=I.tuple (.inl (.of hp));exact⟨SeqAt.RcAt.str_tuple _ _ q O,SeqAt.RcNeAt.str_tuple _ _ q O⟩
  |_=>simp [trD] at p2
 |tup xs=>
  obtain⟨p,vs,rfl,hp,hl⟩:=(show∃p vs,x=V.ref p/\H p=some (.tup vs)/\IsL H xs vs from h1)
  cases rx;obtain⟨its,rv,q,_⟩:=I.tuple (.inl (.of hp));cases e with
  |str w=>
   obtain⟨rfl,_⟩:=(show y= .str w/\_ from h2)
   obtain⟨t2,rfl⟩:=ry;exact⟨SeqAt.RcAt.tuple_str _ _ q O,SeqAt.RcNeAt.tuple_str _ _ q O⟩
  |tup ys=>
   obtain⟨p',us,rfl,aa,U⟩:=(show∃p' us,y=V.ref p'/\H p'=some (.tup us)/\IsL H ys us from h2)
   cases ry;obtain⟨its',Z,q',_⟩:=I.tuple (.inl (.of aa));have hm:dpL xs<=60:=by
    have:dp (.tup xs)=1+dpL xs:=by simp only [dp]
    omega
   have l1:its.length=xs.length:=by rw [<-rv.length,hl.length]
   have l2:its'.length=ys.length:=by rw [<-Z.length,U.length]
   have pe:=parts_eq I (A:=A.in1) hm (by simpa [trD] using p1) (by simpa [trD] using p2) hl U rv Z (by rw [uT];omega)
   have e1:eqD (.tup xs) (.tup ys)=((List.range (min its.toArray.size its'.toArray.size)).all (λj=>eqD (xs.getD j .non) (ys.getD j .non))&&its.toArray.size==its'.toArray.size):=by
    rw [uu,uu,l1,l2,<-eqL_all];simp only [eqD]
   rw [e1];exact⟨UN q q' O pe,SeqAt.RcNeAt.tuples q q' O pe⟩
  |_=>simp [trD] at p2
 |_=>simp [trD] at p1
inductive rCmpD (g:Bool->Bool) (x:V) (y:V) (H:Hp) (Q:VK):Prop
 |mk (d e:D) (_:Is H d x) (_:Is H e y) (_:trD d=true) (_:trD e=true) (_:dp d<=60) (_:Q (.bl (g (eqD d e))) H)
theorem op_eqD (O:X.A.units+64<cLine):OpR X (compareOp .Eq) (rCmpD id):=by
 intro oq s σ H x y v u Q I U Z h;obtain⟨d,e,h1,h2,p1,p2,hn,q⟩:=h;exact(rc_D I h1 h2 p1 p2 hn U Z O).1 X.prog X.w X.xe _ ⟨.bl _,H,I,1,q⟩
end
variable {X:Cx}
theorem Jp:Y6 X (.builtin "len") (λxs H Q=>(∃z:Str,xs= [.str z]/\z.length<=sizeLine/\Q (.int z.length) H)∨∃p ys,xs= [.ref p]/\(SqL X.K H p ys∨SqT X.K H p ys)/\(ys.length<=sizeLine->Q (.int ys.length) H)):=by
 intro oq s σ H xs us Q I r h;rcases h with⟨z,e,O,q⟩|h
 ·exact kI oq s σ H xs us Q I r ⟨_,z.length,e,⟨O,1⟩,q⟩
 ·exact call_lenB oq s σ H xs us Q I r h
noncomputable def gLstU (K:o0)(n:Nat)(t:TGs):TG:=λv σ H Q=>∃a xs,v= .ref a/\SqL K H a xs/\xs.length=n/\t xs σ H Q
theorem pg_lstU {X:Cx}{es:oj Expr}{k:Nat}{t:TGs}{n:Nat}{pos:Pos}(Z:X.calm=true)(h:PGs X es t)
  (hn:(assignEach es X.env).length=n) (O:(assignEach es X.env).findIdx? (·.1)=none):PG X (.Tuple es k pos) (gLstU X.K n t):=by
 intro oq s σ H v u Q I r U;obtain⟨a,xs,e1,hq,hl,U⟩:=U;subst e1;cases r;obtain⟨its,rv,ht,hz⟩:=I.list hq;rw [assign_Tuple];refine A4 (wpAny_standAt ?_);unfold unpack;rw [O,hn,<-hl,show xs.length=its.toArray.size by simp [rv.length]]
 refine A4 (wpAny_holding (PySem.W.kun_itemsOf (I.ok.hd Z) ht.isList λh' hx=> ?_));have I1:Inv X oq σ H {s with heap:=h'}:=I.kept (t':=s.toks) λb o e=>hx b o (uP (uF e)) e
 exact h oq _ σ H xs _ Q I1 (by simpa using rv) U
variable {w:og}{K:o0}{mg:Str->om o6}{f:o3}{A:oh}
theorem pass1 {P:o9}{base:o8}{N:oj Str}{qual:Str}{scope:Scope}{cd:o6}{outer:oj Env}{s₀:o7}{H₀:Hp}{E:XK}:
  Xa (CX1 P w) (cxOf (CX1 P w) P w K mg base N qual scope f cd A outer s₀ H₀ E) E:=by
 intro oq σ H s e s' I h;obtain⟨ea,C,a0,H',B,rfl,au,ae,htk,aw,al,am,hold,hE⟩:=h;show wpAny (model P w) (A.deeper (envOfC qual scope s₀.heap.objs.size f cd)) (leaving (envOfC qual scope s₀.heap.objs.size f cd) (.ref ea)) (λ_ af=>CX1 P w outer H₀ s₀ E (.ref ea) af) (λe' af=>CX1 P w outer H₀ s₀ E e' af) _;have ax:(A.deeper (envOfC qual scope s₀.heap.objs.size f cd)).frames=some (envOfC qual scope s₀.heap.objs.size f cd::outer):=I.ok.frames;have ag:frs (envOfC qual scope s₀.heap.objs.size f cd::outer)=s₀.heap.objs.size::frs outer:=rfl;have O:Un (frs outer) [] H₀ H s₀.heap s.heap:=I.base;have U:Un (frs (envOfC qual scope s₀.heap.objs.size f cd::outer)) [] H H' s.heap s'.heap:=aw;have aa:Heap.FlyingW B (envOfC qual scope s₀.heap.objs.size f cd::outer) ea (.ref C) a0 s'.heap:=am;have ac:∀b o,s.heap.get? b=some o->b∉frs (envOfC qual scope s₀.heap.objs.size f cd::outer)->∃o',B.get? b=some o':=hold;have ay:=aa.2.2.1;have ad:∀b o,s₀.heap.get? b=some o->b∉frs outer->b∉frs (envOfC qual scope s₀.heap.objs.size f cd::outer):=λb o e hb hm=>by
  rw [ag] at hm;rcases A5.mp hm with rfl|hm
  ·exact absurd (uF e) (vA _)
  ·exact hb hm
 have nd:∀b∈frs outer,∀o,s'.heap.get? b=some o->∀vs,o.data≠ .fields vs:=λb hb o e=>by
  obtain⟨_,o',e',hn⟩:=ay.mem (show b∈(envOfC qual scope s₀.heap.objs.size f cd::outer).filterMap (·.frame) from by rw [show(envOfC qual scope s₀.heap.objs.size f cd::outer).filterMap (·.frame)=frs (envOfC qual scope s₀.heap.objs.size f cd::outer) from rfl,ag];exact uc _ hb)
  rw [e] at e';cases e';exact hn
 refine wpAny_leaves_onW (base:=B) (L:=s₀.heap.objs.size) ax rfl aa λaA ah ao=> ?_;have aB:∀b o o',B.get? b=some o'->s'.heap.get? b=some o->aA.get? b=some o:=λb o o' Z e2=>by
  have:=aa.1 b o' Z;rw [e2] at this;cases this;exact ah.1 b o Z
 refine⟨ea,C,a0,H',B,1,au.trans I.os,ae,htk,⟨?_,?_,?_,?_,?_,?_,?_⟩,al,ah,?_,hE⟩
 ·intro b o Z hn hb hx;have e2:=O.keep b o Z hn hb hx;have ak:=O.free b o Z hn hx;have ap:=ad b o Z hb;have e3:=U.keep b o e2 ak ap hx;obtain⟨o',e4⟩:=ac b o e2 ap;exact aB b o o' e4 e3
 ·intro b o Z hn hb hx;obtain⟨sl,e2⟩:=O.slot b o Z hn hb hx;have ak:=O.free b o Z hn hx;obtain⟨aC,e3⟩:=U.slot b _ e2 ak (by rw [ag];exact uc _ hb) hx
  obtain⟨aq,e4⟩:=ao b _ e3 (nd b hb _ e3);exact⟨aq,e4⟩
 ·intro b o Z hn hx;obtain⟨o',e2⟩:=O.there b o Z hx;exact U.free b o' e2 (O.free b o Z hn hx) hx
 ·intro b o Z hx;obtain⟨o',e2⟩:=O.there b o Z hx;by_cases hb:b∈frs outer
  ·obtain⟨o2,e3⟩:=U.there b o' e2 hx;obtain⟨aq,e4⟩:=ao b _ e3 (nd b hb _ e3);exact⟨_,e4⟩
  ·obtain⟨o2,e3⟩:=ac b o' e2 (ad b o Z hb);exact⟨o2,ah.1 b o2 e3⟩
 ·exact λb xs e=>U.tups b xs (O.tups b xs e)
 ·exact λb o u e=>U.frzs b o u (O.frzs b o u e)
 ·intro b ps e;obtain⟨m1,Z⟩:=O.tbls b ps e;obtain⟨m2,e2⟩:=U.tbls b _ Z;exact⟨m1++m2,by rwa [<-Array.append_assoc]⟩
 ·intro b o Z hb;obtain⟨o',e2⟩:=O.there b o Z (by simp)
  exact ac b o' e2 (ad b o Z hb)
theorem passF:Xa (CX1 X.prog X.w) X E0:=λ_ _ _ _ _ _ _ h=>by
 obtain⟨_,_,_,_,_,_,_,_,_,_,_,_,_,z⟩:=h;exact False.elim z
end L2
namespace L2
open PySem PyProof.Rows
variable {H:Hp}{p:o3}
theorem Tk.updD {xs ys:oj (Key×V)}(h:H p=some (.dK xs)):Tk H (upd H p (.dK ys)):=by
 refine⟨λb zs e=> ?_,λb zs e=>⟨zs,?_⟩,λb zs e=> ?_⟩
 ·rw [qh (λz=>by rw [z,h] at e;cases e)];exact e
 ·rw [qh (λz=>by rw [z,h] at e;cases e)];exact e
 ·by_cases z:b=p
  ·exact⟨ys,by rw [z];exact qg⟩
  ·exact⟨zs,by rwa [qh z]⟩
variable {C dx:o3}
theorem Tk.updI {O dx':o3}{xs ys:oj (Str×V)}(h:H p=some (.ins C dx xs)):Tk H (upd H p (.ins O dx' ys)):=
 ⟨λb zs e=>by rw [qh (λz=>by rw [z,h] at e;cases e)];exact e,λb zs e=>⟨zs,by rw [qh (λz=>by rw [z,h] at e;cases e)];exact e⟩,λb zs e=>⟨zs,by rw [qh (λz=>by rw [z,h] at e;cases e)];exact e⟩⟩
section
variable {X:Cx}
inductive rStarts (x:V) (vs:List V) (H:Hp) (Q:VK):Prop
 |mk (z y:Str) (_:x= .str z) (_:vs= [.str y]) (_:Q (.bl (Txt.startswith z y)) H)
theorem mt_starts:MtM X "str.startswith" rStarts:=by
 intro oq s σ H x vs v us Q I O rv h;obtain⟨z,y,rfl,rfl,q⟩:=h;obtain⟨t,rfl⟩:=O;obtain⟨u,rfl,t',rfl⟩:=rv.one;exact SC.startswith ⟨.bl (Txt.startswith z y),H,I,1,q⟩
end
theorem lc_dicF {d A:o3}{o:Obj}{H1:Hp}{tc:TT}{te:TE}{tl:St}{Q:VK}{kvs:oj (Key×V)}{ls:oj Str}(p:Str->Bool)(f:Str->V)(hd:H1 d=some (.frz o (.dK kvs)))(hk:kvs.map (·.1)=ls.map Sum.inr)(hn:ls.length<=sizeLine)(hA:H1 A=none)
  (U:∀z H (R:Bool->Hp->Prop),z∈ls->Same H1 H->R (p z) H->tc (some (.str z)::tl) H R)
  (Z:∀z H (R:VK),z∈ls->Same H1 H->R (f z) H->te (some (.str z)::tl) H R)
  (hQ:∀H',Same H1 H'->H' A=some (.lst ((ls.filter p).map f))->Q (.ref A) H'):lcGo A (Itd d o) (Jn 0) tc te (none::tl) H1 Q:=by
 have ac:kvs.length=ls.length:=by
  have:=congrArg List.length hk
  simpa using this
 refine⟨ls.length,λi σ ys H=>(∃w,σ=w::tl)/\ys=((ls.take i).filter p).map f/\Same H1 H,hn,⟨⟨none,1⟩,1,qf hA _⟩,?_,?_⟩
 ·rintro i σ ys H hi ⟨⟨w,rfl⟩,rfl,sm⟩ O hy;exists ⟨kvs,sm _ _ hd,()⟩
  rintro x H' ⟨rfl,hx⟩;have e:=hx kvs (sm _ _ hd);have e2:(kvs.map λp=>kV p.1)[i]? =some (V.str ls[i]):=by
   have:(kvs.map λp=>kV p.1)=(kvs.map (·.1)).map kV:=by rw [uN];rfl
   rw [this,hk,uN,uH,uj hi]
   rfl
  rw [e2] at e;cases e;have et:ls.take (i+1)=ls.take i++ [ls[i]]:=by rw [vS,uj hi];rfl
  have aa:∀ys,Same H1 (upd H' A (.lst ys)):=λys b o' e=>by
   rw [qh (qk e hA)];exact sm _ _ e
  dsimp only [Jn,List.set];refine U ls[i] H' _ (vd hi) sm ?_;cases hp:p ls[i] with
  |true=>
   refine iteT (Z ls[i] H' _ (vd hi) sm ⟨O,⟨0⟩,?_,aa _⟩);rw [et,List.filter_append,uw];simp [hp]
  |false=>
   refine iteF ⟨O,⟨0⟩,?_,sm⟩;rw [et,List.filter_append,uw];simp [hp]
 ·rintro σ ys H ⟨_,rfl,sm⟩ O;rw [UV] at O;exact⟨⟨kvs,sm _ _ hd,()⟩,hQ H sm O⟩
theorem lc_strs {K:o0}{a A:o3}{H1:Hp}{te:TE}{tl:St}{Q:VK}{ls:oj Str}(C:Nat->oj V->Hp->Prop)(ha:H1 a=some (.lst (ls.map V.str)))(hn:ls.length<=sizeLine)(hA:H1 A=none)(h0:C 0 [] (upd H1 A (.lst [])))
  (aa:∀i z ys H,ls[i]? =some z->C i ys H->H A=some (.lst ys)->H a=some (.lst (ls.map V.str))->ys.length<=i->∀R:VK,(∀y H4,H4 A=some (.lst ys)->H4 a=some (.lst (ls.map V.str))->C (i+1) (ys++ [y]) (upd H4 A (.lst (ys++ [y])))->R y H4)->te (some (.str z)::tl) H R)
  (hQ:∀ys H,C ls.length ys H->H A=some (.lst ys)->Q (.ref A) H):lcGo A (Itl K a) (Jn 0) tYes te (none::tl) H1 Q:=by
 have U:a≠A:=qk ha hA;refine⟨ls.length,λi σ ys H=>(∃w,σ=w::tl)/\C i ys H/\H a=some (.lst (ls.map V.str)),hn,⟨⟨none,1⟩,h0,by rwa [qh U]⟩,?_,?_⟩
 ·rintro i σ ys H hi ⟨⟨w,rfl⟩,hc,Z⟩ O hy;have e0:(ls.map V.str)[i]? =some (V.str ls[i]):=by rw [uH,uj hi];rfl
  exists ⟨_,_,SqL.of Z,e0⟩;rintro x H' ⟨rfl,hx⟩;have e:=hx _ (SqL.of Z);rw [e0] at e;cases e;dsimp only [Jn,tYes,List.set];rw [A3 rfl];exact aa i ls[i] ys H' (uj hi) hc O Z hy _ λy H4 h4 h5 c4=>⟨h4,⟨0⟩,c4,by rwa [qh U]⟩
 ·rintro σ ys H ⟨_,hc,Z⟩ O;exact⟨⟨_,SqL.of Z,by simp⟩,hQ ys H hc O⟩
section
variable {X:Cx}{K:o0}{o e:Expr}{es:oj Expr}{to:TE}{t:TA}{name:Str}{apos cpos:Pos}{T id:String}{r:V->oj V->Hp->VK->Prop}
theorem pe_bmK (hK:X.K=K)(pa:PlainAttrs T)(slot:Slot T name id)(ac:typeOf (.builtin id)=pure (.type "method_descriptor"))(hm:MtR X id r)(ho:PE X o to)(ha:PA X (e::es) t)
  (U:attributeBase o name X.env (eval o X.env)=eval o X.env)
  (aa:((backTo cpos (starEach (e::es) X.env)).all (λx=> !x.1)&&(backToKw cpos (keywordEach [] X.env)).all (λx=>x.1.isSome)
   &&decide ((e::es).length+([]:oj Keyword).length+(if([]:oj Keyword).isEmpty then 0 else 1)<30))=true)
  (Z:(apos.endLine==cpos.line)=true) (hs:starEach (e::es) X.env=(false,eval e X.env)::starEach es X.env) (O:(backTo cpos (starEach es X.env)).any (·.1)=false):
  PE X (.Call (.Attribute o name apos) (e::es) [] cpos) (tBM K T r to t):=by
 subst hK;exact jx pa slot ac hm ho ha U aa Z hs O
end
section
variable {X:Cx}
theorem Inv.laidM {oq:oj (o3×Obj)}{σ:St}{H H':Hp}{s:o7}{h':o8}{t':Nat}(I:Inv X oq σ H s)(k:∀b u,s.heap.get? b=some u->h'.get? b=some u)(sm:Same H H')
  (O:∀b o,H b=none->H' b=some o->s.heap.objs.size<=b/\yg X.prog X.w H' h' b o) (U:0<t'):Inv X oq σ H' {s with heap:=h',toks:=t'}:=by
 refine I.un ⟨λb u q _ _ _=>k b u q,λb u q _ _ _=>⟨u.slots,k b u q⟩,λb u q n _=> ?_,λb u q _=>⟨u,k b u q⟩,λb xs q=>sm _ _ q,λb u xs q=>sm _ _ q,λb ps q=>⟨#[],by rw [sm _ _ q];simp⟩⟩ (λb u e=> ?_) U
 ·cases e:H' b with
  |none=>rfl
  |some o=>
   exact absurd (uF q) (Nat.not_lt.mpr (O b o n e).1)
 ·cases q:H b with
  |none=>exact(O b u q e).2
  |some o=>
   rw [sm _ _ q] at e;cases e;exact(I.hok b _ q).stay (λc v _ z=>k c v z) (λc z=>sm _ _ z) λc xs z=>sm _ _ z
end
noncomputable def addT (ps:oj (o3×oj V))(H:Hp):Hp:=ps.foldl (λh p=>upd h p.1 (.tup p.2)) H
theorem XD:∀(ps:oj (o3×oj V)) (H:Hp) (b:o3),b∉ps.map (·.1)->addT ps H b=H b
 | [],_,_,_=>rfl
 |p::r,H,b,h=>by
  show addT r (upd H p.1 (.tup p.2)) b=_;rw [XD r _ b (λm=>h (uc _ m)),qh (λe=>h (by rw [e];exact uf ..))]
theorem addT_at:∀(ps:oj (o3×oj V)) (H:Hp) (p:o3×oj V),(ps.map (·.1)).Nodup->p∈ps->addT ps H p.1=some (.tup p.2)
 | [],_,_,_,h=>nomatch h
 |q::r,H,p,hn,h=>by
  have O:=List.nodup_cons.mp hn;show addT r (upd H q.1 (.tup q.2)) p.1=_;rcases A5.mp h with rfl|h
  ·rw [XD r _ _ O.1,qg]
  ·exact addT_at r _ p O.2 h
noncomputable def XU (H:Hp)(kvs:oj (Key×V))(ts:oj o3):Prop:=ts.length=kvs.length/\∀(j:Nat) (t:o3) (p:Key×V),ts[j]? =some t->kvs[j]? =some p->H t=some (.tup [kV p.1,p.2])
inductive ItItems (mk:List V->HO) (Q:VK) (x:V) (H1:Hp):Prop
 |mk (d:Addr) (kvs:List (Key×V)) (_:x= .ref d) (_:Rd H1 d (.dK kvs)) (_:∀(t:Addr) (ts:List Addr) (H2:Hp),Same H1 H2->H1 t=none->H2 t=some (mk (ts.map V.ref))->XU H2 kvs ts->Q (.ref t) H2)
noncomputable def tItems (mk:oj V->HO)(to:TE):TE:=λσ H Q=>to σ H λx H1=>ItItems mk Q x H1
theorem wC {α β:Type}:∀{as:oj α}{bs:oj β},as.length=bs.length->(as.zip bs).map (·.1)=as
 | [],[],_=>rfl
 |a::as,b::bs,h=>by
  rw [List.zip_cons_cons,uh,wC (by simpa using h)]
theorem paired_at {α β:Type}{F:α->β->Prop}:∀{l₁:oj α}{l₂:oj β},Paired F l₁ l₂->∀{j:Nat}{a:α}{b:β},l₁[j]? =some a->l₂[j]? =some b->F a b
 |_,_,.nil,j,a,b,h,_=>by simp at h
 |_,_,.cons f r,0,a,b,h1,h2=>by
  cases h1;cases h2;exact f
 |_,_,.cons f r,j+1,a,b,h1,h2=>paired_at r (j:=j) (by simpa using h1) (by simpa using h2)
section
variable {X:Cx}{oq:oj (o3×Obj)}{σ:St}{H:Hp}{s:o7}
theorem items_laid {r t:o3}{kvs:oj (Key×V)}{vs:oj (Key×o6)}{as:oj o3}{h1 h2:o8}{tk:Nat}{o:HO}(I:Inv X oq σ H s)(O:KV kvs vs)(k2:∀b u,s.heap.get? b=some u->h2.get? b=some u)(hl:as.length=vs.length)(hz:s.heap.objs.size<=r)
  (hG:PySem.W.KdxG (Qa X.prog X.w) vs r h1 as) (ac:∀a∈as,∀u,h1.get? a=some u->h2.get? a=some u) (ht:s.heap.objs.size<=t) (ad:t∉as) (hu:∃u,o=u) (htk:0<tk)
  (new:∀H',Same H H'->XU H' kvs as->yg X.prog X.w H' h2 t o):
  ∃H',Inv X oq σ H' {s with heap:=h2,toks:=tk}/\Same H H'/\H t=none/\H' t=some o/\XU H' kvs as:=by
 have hn:as.Nodup:=hG.rise.imp λh=>uP h;have hf:∀a∈as,H a=none:=λa ha=>I.hok.fresh (uL hz (Uj (hG.above a ha)));have aa:H t=none:=I.hok.fresh ht;have ag:kvs.length=vs.length:=O.length
 let ps:oj (o3×oj V):=as.zip (kvs.map λp=> [kV p.1,p.2])
 have ef:ps.map (·.1)=as:=wC (by rw [ua];omega)
 have ae:Same H (addT ps H):=λb u e=>by
  rw [XD ps H b (by rw [ef];exact λm=>by rw [hf b m] at e;cases e)]
  exact e
 have sm:Same H (upd (addT ps H) t o):=λb u e=>by
  rw [qh (qk e aa)];exact ae _ _ e
 have it:XU (upd (addT ps H) t o) kvs as:=by
  refine⟨(),λj a p h3 h4=> ?_⟩
  have ma:=uZ h3;rw [qh (λe=>ad (by rwa [<-e]))]
  refine addT_at ps H (a,[kV p.1,p.2]) (by rwa [ef]) ?_
  refine uZ (i:=j) ?_;show(as.zip (kvs.map λp=> [kV p.1,p.2]))[j]? =_;rw [List.getElem?_zip_eq_some];exact⟨h3,by rw [uH,h4];rfl⟩
 refine⟨upd (addT ps H) t o,I.laidM k2 sm (λb u e1 Z=> ?_) htk,sm,aa,qg,it⟩;by_cases hb:b=t
 ·subst hb;rw [qg] at Z;cases Z;exact⟨ht,new _ sm it⟩
 ·rw [qh hb] at Z;have mb:b∈as:=by
   refine Classical.byContradiction λm=> ?_;rw [XD ps H b (by rwa [ef]),e1] at Z
   cases Z
  exists uL hz (Uj (hG.above b mb));obtain⟨j,hj⟩:=List.mem_iff_getElem?.mp mb;obtain⟨af,kk,x,f1,f2,f3⟩:=hG.pairs j b hj;have U:j<kvs.length:=by
   have:=(Aa.mp f1).1;omega
  have e5:=it.2 j b kvs[j] hj (uj U);rw [qh hb,Z] at e5;cases e5;have q1:kvs[j].1=kk:=by
   have:(kvs.map (·.1))[j]? =some kk:=by rw [O.keys,uH,f1];rfl
   rw [uH,uj U] at this;exact uI this
  have q2:RelV kvs[j].2 x:=by
   exact(paired_at O (uj U) f1).2
  refine⟨by show 2<=sizeLine;decide,[af,x],.cons (by rw [q1];exact kV_rel f2) (.cons q2 .nil),⟨_,ac b mb _ f3,1,0⟩⟩
theorem eval_items {o:Expr}{to:TE}{apos cpos:Pos}{R:o6->o7->Prop}{Q:VK}(ho:PE X o to)(I:Inv X oq σ H s)(O:attributeBase o "items" X.env (eval o X.env)=eval o X.env)(U:(apos.endLine==cpos.line)=true)
  (h:to σ H Q)
  (k:∀(s1:o7) (H1:Hp) (x:V),Inv X oq σ H1 s1->Q x H1->∃(d:o3) (kvs:oj (Key×V)),x= .ref d/\Rd H1 d (.dK kvs)/\R (.ref s1.heap.objs.size) {s1 with heap:=s1.heap.push {cls:= .type "dict_items",data:= .fields #[.ref d]}}):
  wpAny #[X,X] X.A (eval (.Call (.Attribute o "items" apos) [] [] cpos) X.env) R X.xe s:=by
 refine wpAny_Call_method0_late O U (thn (ho oq s σ H _ I h) λv s1 ⟨x,H1,Z,r1,q⟩=> ?_);obtain⟨d,kvs,ex,hd,q2⟩:=k s1 H1 x Z q;subst ex;cases r1;obtain⟨hz,lo,vs,ac,dd⟩:=wN Z.hok hd;have aa:∀a,Value.ref d= .ref a->∃ob,s1.heap.get? a=some ob/\ob.dict=none:=dict_noDict Z (y:=kV (Sum.inl 0)) (.inl ⟨kvs,Sum.inl 0,hd,1,1⟩);exact⟨"dict","dict.items",U6,PySem.F.slot_dict_items,PySem.F.type_dict_items,dd.typeIs,aa,vG rfl (PySem.evalArgs_none (call_meetsIn PySem.F.slot_dict_items dd.typeIs PySem.F.entry_dict_items (PySem.F.args_dict_items_1 _) (meets_dict_items (Qa X.prog X.w) d lo) ⟨⟨vs,dd⟩,q2⟩))⟩
end
noncomputable def okHd:D->Bool
 | .non=>true
 |d=>trD d
section
variable {X:Cx}
inductive rEqM (x:V) (y:V) (H:Hp) (Q:VK):Prop
 |mk (d:D) (z:Str) (_:Is H d x) (_:y= .str z) (_:z.length<=1000) (_:okHd d=true) (_:dp d<=60) (_:Q (.bl (eqD d (.str z))) H)
theorem op_eqM (hu:X.A.units+64<cLine):OpR X (compareOp .Eq) rEqM:=by
 intro oq s σ H x y v u Q I O U h;obtain⟨d,z,hd,rfl,hz,Z,hp,q⟩:=h;cases d with
 |non=>
  cases(show x= .non from hd)
  exact Qn oq s σ H .non (.str z) v u Q I O U ⟨1,by simpa [eqD] using q⟩
 |str a=>exact op_eqD hu oq s σ H x _ v u Q I O U ⟨_,.str z,hd,⟨1,by rw [uE];omega⟩,Z,1,hp,q⟩
 |tup a=>exact op_eqD hu oq s σ H x _ v u Q I O U ⟨_,.str z,hd,⟨1,by rw [uE];omega⟩,Z,1,hp,q⟩
 |_=>simp [okHd,trD] at Z
inductive rInM (K:PySem.W.Frag) (x:V) (y:V) (H:Hp) (Q:VK):Prop
 |mk (d:D) (p:Addr) (ls:List Str) (_:Is H d x) (_:y= .ref p) (_:(SqL K H p (ls.map V.str)∨SqT K H p (ls.map V.str))) (_:(∀z∈ls,z.length<=1000)) (_:okHd d=true) (_:dp d<=60) (_:Q (.bl (ls.any λz=>eqD d (.str z))) H)
theorem flat_ss (us:oj Str):(us.map V.str).all Zg=true:=by
 rw [Uy,U9];exact λ_ _=>rfl
theorem op_inM (hu:X.A.units+64<cLine):OpR X (compareOp .In) (rInM X.K):=by
 intro oq s σ H x y v u Q I rx ry h;obtain⟨d,p,ls,hd,rfl,O,ac,hk,hp,q⟩:=h;cases d with
 |non=>
  cases(show x= .non from hd)
  refine QI oq s σ H .non _ v u Q I rx ry ⟨p,0,O,1,flat_ss _,?_⟩;have e:inV .non (ls.map V.str)=ls.any λz=>eqD .non (.str z):=by
   unfold inV;rw [List.any_map]
   rfl
  rwa [A2 ub,e]
 |str a=>
  obtain⟨rfl,_⟩:=hd;refine QI oq s σ H _ _ v u Q I rx ry ⟨p,0,O,1,flat_ss _,?_⟩;have e:inV (.str a) (ls.map V.str)=ls.any λz=>eqD (.str a) (.str z):=by
   unfold inV;rw [List.any_map];refine congrArg (λf=>ls.any f) (funext λz=> ?_);show(z==a)=(a==z);rw [vj,beq_iff_eq,beq_iff_eq];exact eq_comm
  rwa [A2 ub,e]
 |tup xs=>
  have e:(ls.any λz=>eqD (.tup xs) (.str z))=false:=by
   rw [List.any_eq_false];intro z _;simp [eqD]
  rw [e] at q;obtain⟨pa,vs,rfl,ha,hl⟩:=hd;cases rx;cases ry;obtain⟨ad,ae,af,_⟩:=I.tuple (.inl (.of ha));have ag:X.A.units<cLine:=by omega
  have U:∀{its:oj o6},Vals (ls.map V.str) its->∀w∈its,∀A:oh,A.units+1<cLine->SeqAt.EqAt A s w (.ref pa) false:=by
   intro its r w Z A hA;obtain⟨j,hj⟩:=List.mem_iff_getElem?.mp Z;have aa:j<ls.length:=by
    have:=(Aa.mp hj).1;have:=r.length;rw [ua] at this;omega
   obtain⟨u',e1,e2⟩:=r.get (i:=j) (x:=V.str ls[j]) (by rw [uH,uj aa];rfl)
   rw [hj] at e1;cases e1;have:=eqAt_D I 1 (.str ls[j]) (.tup xs) (.str ls[j]) (.ref pa) _ (.ref pa) A (by simp [dp]) rfl (by simpa [okHd,trD,puD] using hk) ⟨1,by have:=ac _ (vd aa);rw [uE];omega⟩ ⟨pa,vs,1,ha,hl⟩ e2 rfl ()
   simpa [eqD] using this
  rcases O with O|O
  ·obtain⟨its,r,pl,hz⟩:=I.list O;refine SeqAt.in_listAt (λ_=>false) pl.isList (λw Z=>U r w (by simpa using Z) _ ?_) ⟨.bl _,H,I,1,?_⟩
   ·first|omega|(rw [uT];omega)|(rw [uT,uT];omega)|(rw [uT,uT,uT];omega)
   ·rw [show its.toArray.any (λ_=>false)=false by rw [List.any_toArray];exact List.any_eq_false.mpr λ_ _=>ub]
    exact q
  ·obtain⟨its,r,pl,hz⟩:=I.tuple O;refine SeqAt.in_tupleAt (λ_=>false) pl (λw Z=>U r w (by simpa using Z) _ ?_) ⟨.bl _,H,I,1,?_⟩
   ·first|omega|(rw [uT];omega)|(rw [uT,uT];omega)|(rw [uT,uT,uT];omega)
   ·rw [show its.toArray.any (λ_=>false)=false by rw [List.any_toArray];exact List.any_eq_false.mpr λ_ _=>ub]
    exact q
 |_=>simp [okHd,trD] at hk
end
end L2
namespace L2
open PySem PySem.Spec PyProof.Rows Builtin Builtin.Str
noncomputable def tCallX (P:o9)(w:og)(K:o0)(mg:Str->om o6)(base:o8)(k:Nat)(tf:TE)(t:TA):TE:=λσ H Q=>tf σ H λv H1=>∃(f:o3) (fd:FuncData) (ps:oj Str) (sp:Sp),v= .ref f/\
 FnOk P w K mg base CX0 k f fd ps sp/\XT K fd ps []/\PySem.W.keepIn K (.ref f)=true/\t σ H1 λvs H2=>sp vs H2 Q E0
theorem pe_callX {X:Cx}{o i e:Expr}{es:oj Expr}{O pos:Pos}{Z:TE}{t:TA}{k:Nat}{P:o9}{w:og}{K:o0}{mg:Str->om o6}{base:o8}(e1:X.prog=P/\X.w=w/\X.K=K/\X.mg=mg/\X.base=base)(hf:PE X (.Subscript o i O) Z)(hr:Room k X.A)(ha:PA X (e::es) t)
  (he:starEach (e::es) X.env=(false,eval e X.env)::starEach es X.env) (U:(backTo pos (starEach es X.env)).any (·.1)=false):
  PE X (.Call (.Subscript o i O) (e::es) [] pos) (tCallX P w K mg base k Z t):=by
 obtain⟨rfl,rfl,rfl,rfl,rfl⟩:=e1;intro oq s σ H Q I h;show wpAny _ _ (do callWith pos (<-eval (.Subscript o i O) X.env) [] (backTo pos (starEach (e::es) X.env)) (backToKw pos (keywordEach [] X.env))) _ _ s
 refine A4 (thn (hf oq s σ H _ I h) λu s1 ⟨v,H1,I1,rv,f,fd,ps,sp,ev,F,hb,hk,q⟩=> ?_);subst ev;obtain rfl:u=Value.ref f:=rv;refine UB (h₀:=X.base) I1.ok.mod.kin hk (thn (ha pos oq s1 σ H1 _ I1 q) λus s2 ⟨vs,H2,I2,r,q2⟩=>⟨I2.kIn,?_⟩) he U;exact run_fn (ds:= []) (dvs:= []) F hr hb .nil qA I2 r (by rw [vc];exact q2)
theorem kn (z y:Str)(hi O:Nat):∀(l:oj Nat) (st:Array Nat×Nat),(forIn l st (StrLaws.occBody z y hi O)).run.fst.size<=st.fst.size+l.length
 | [],st=>ui _
 |a::l,st=>by
  rw [Ul];unfold StrLaws.occBody;split
  ·refine uL (kn z y hi O l _) ?_;simp only [Array.size_push,um];omega
  ·refine uL (kn z y hi O l _) ?_;simp only [um];omega
theorem occ_len (z y:Str)(n:Nat):(occurrences z y 0 z.length n).length<=z.length+1:=by
 rw [StrLaws.occ_eq];have:=kn z y z.length n (List.range' 0 (z.length+1-0)) (#[],0);rw [vh];refine uL this ?_;simp
noncomputable def spG (z y:Str):oj Str:=if(decide (z.length<y.length)||decide (Builtin.Str.strKind z<Builtin.Str.strKind y))=true then [z] else if(occurrences z y 0 z.length (z.length+1)).isEmpty=true then [z] else partsBetween z (occurrences z y 0 z.length (z.length+1)) y.length
theorem spG_len (z y:Str):(spG z y).length<=z.length+2:=by
 unfold spG;have h:=occ_len z y (z.length+1);split
 ·simp
 ·split
  ·simp
  ·simp only [partsBetween,ua,List.length_zip,um,uA,List.length_nil];omega
variable {z:Str}
theorem spG_mem {y p:Str}(h:p∈spG z y):p.length<=z.length:=by
 unfold spG at h;split at h
 ·rw [Ug] at h;subst h;exact ui _
 ·split at h
  ·rw [Ug] at h;subst h;exact ui _
  ·simp only [partsBetween,List.mem_map] at h;obtain⟨q,_,e⟩:=h;rw [<-e];exact strSub_length_le _ _ _
section
variable {X:Cx}
inductive rSplitG (x:V) (vs:List V) (H:Hp) (Q:VK):Prop
 |mk (z:_) (y:_) (_:x= .str z) (_:vs= [.str y]) (_:0<y.length) (_:z.length<=1000) (_:∀p,H p=none->Q (.ref p) (upd H p (.lst ((spG z y).map V.str))))
theorem mt_splitG:MtM X "str.split" rSplitG:=by
 intro oq s σ H x vs v us Q I rx rv h;obtain⟨z,y,rfl,rfl,hy,hz,q⟩:=h;obtain⟨t,rfl⟩:=rx;obtain⟨u,rfl,t',rfl⟩:=rv.one;have Z:z.length<=sizeLine:=by rw [uE];omega
 have O:(y.length==0)=false:=by simp;omega
 have one:spG z y= [z]->∀(T:Nat),0<T->EP X oq σ Q (.ref s.heap.objs.size) {s with heap:=s.heap.push {cls:= .type "list",data:= .seq [Value.str z t].toArray},toks:=T}:=λe T hT=>by
  rw [e] at q;exact JB (ys:= [V.str z]) I (.cons (show RelV (V.str z) _ from⟨t,1⟩) .nil) (by show 1<=sizeLine;decide) q
 cases h1:(decide (z.length<y.length)||decide (Builtin.Str.strKind z<Builtin.Str.strKind y)) with
 |true=>
  refine vO vF (vN _ _ _) vx (vX _ _) (meets_str_split_cannot_occur z y t t' h1) ?_;exact one (by unfold spG;rw [A3 h1]) s.toks I.tk
 |false=>
  cases U:(occurrences z y 0 z.length (z.length+1)).isEmpty with
  |true=>
   refine vO vF (vN _ _ _) vx (vX _ _) (meets_str_split_not_found z y t t' h1 O U) ?_;exact one (by unfold spG;rw [A2 (by rw [h1];decide),A3 U]) s.toks I.tk
  |false=>
   have hl:=spG_len z y;have e:spG z y=partsBetween z (occurrences z y 0 z.length (z.length+1)) y.length:=by unfold spG;rw [A2 (by rw [h1];decide),A2 (by rw [U];decide)]
   rw [e] at q hl;refine vO vF (vN _ _ _) vx (vX _ _) (meets_str_split_sep z y t t' h1 O U Z (by rw [uE];omega)) ?_
   exact JB I (Xl _ _) (by rw [ua,uE];omega) q
inductive rJoinT (K:PySem.W.Frag) (x:V) (vs:List V) (H:Hp) (Q:VK):Prop
 |mk (sep:Str) (p:Addr) (l:List Str) (_:x= .str sep) (_:vs= [.ref p]) (_:SqT K H p (l.map V.str)) (_:(l.map (·.length)).sum+l.length*sep.length<=1000000) (_:Q (.str (Str.join sep l)) H)
theorem mt_joinT:MtM X "str.join" (rJoinT X.K):=by
 intro oq s σ H x vs v us Q I rx rv h;obtain⟨sep,p,l,rfl,rfl,hp,hz,q⟩:=h;obtain⟨t,rfl⟩:=rx;obtain⟨u,rfl,ru⟩:=rv.one;cases ru;obtain⟨its,r,pl,hl⟩:=I.tuple hp;obtain⟨ps,rfl,Z⟩:=ZH r;have U:tooLong ((ps.map (·.1)).toArray.foldl (·+ ·.length+sep.length) 0)=false:=by
  rw [Z];have:=StrLaws.joinTotal sep l;rw [this];unfold tooLong;refine ug ?_;rw [uE];omega
 refine vO F.slot_str_join (vN _ _ _) F.entry_str_join (F.args_str_join_2 _ _) (meets_str_join_tuple sep t p ps U) ⟨(let⟨o,h1,h2,n,h3⟩:=pl;⟨o,n,h1,h2,h3⟩),?_⟩;have O:(glued sep (ps.map (·.1))).length<=sizeLine:=joinFit_length U
 match ps,Z,O with
 | [],Z,O=>
  subst Z;exact⟨O,.str _,H,I.tok _,⟨0⟩,q⟩
 | [a],Z,_=>
  subst Z;exact⟨.str _,H,I,⟨a.2,1⟩,q⟩
 |a::b::r,Z,O=>
  subst Z;exists O,.str _,H,I.tok _,⟨0⟩;rw [StrLaws.glued_eq_join];exact q
theorem sl_any:SlR X (λx lo hi H Q=>rSlS x lo hi H Q∨rSlG X.K x lo hi H Q):=sl_str.or Q3
end
end L2
namespace L2
open PySem PySem.Spec PyProof.Rows
open Builtin.Int (intBits)
section
variable {X:Cx}
inductive rInK (K:PySem.W.Frag) (w:World) (x:V) (y:V) (H:Hp) (Q:VK):Prop
 |mk (z:_) (a:_) (r:_) (_:x= .str z) (_:y= .ref a) (_:KDict K w a) (_:PySem.W.nsIn K a z=some r) (_:Q (.bl r.isSome) H)
theorem op_inK:OpR X (compareOp .In) (rInK X.K X.w):=by
 intro oq s σ H x y v u Q I U Z h;obtain⟨z,a,r,rfl,rfl,⟨hs,es,n,O,hk⟩,hn,q⟩:=h;obtain⟨t,rfl⟩:=U;cases Z;have hm:=PySem.W.mapOf_K (prog:=X.prog) (w:=X.w) I.kIn O hk;refine wpAny_in_of (strKind_is X.prog X.w z t) hs hm ⟨.bl r.isSome,H,I.tok _,?_,q⟩;rw [PySem.W.find_K O hn]
 rfl
end
end L2
namespace L2
open PySem PySem.Spec PyProof.Rows
mutual
noncomputable def nD:D->Bool
 | .non=>true
 | .str _=>true
 | .int _=>true
 | .tup xs=>nL xs
 |_=>false
noncomputable def nL:oj D->Bool
 | []=>true
 |x::r=>nD x&&nL r
end
theorem nL_get:∀{xs:oj D}{j:Nat}{x:D},nL xs=true->xs[j]? =some x->nD x=true
 | [],_,_,_,e=>by simp at e
 |y::r,0,x,h,e=>by
  have h':nD y=true/\nL r=true:=by simpa [nL] using h
  have:y=x:=by simpa using e
  exact this▸h'.1
 |y::r,j+1,x,h,e=>by
  have h':nD y=true/\nL r=true:=by simpa [nL] using h
  exact nL_get h'.2 (by simpa using e)
mutual
noncomputable def eqN:D->D->Bool
 | .non,.non=>true
 | .str a,.str b=>a==b
 | .int a,.int b=>a==b
 | .tup xs,.tup ys=>eqNL xs ys
 |_,_=>false
noncomputable def eqNL:oj D->oj D->Bool
 | [],[]=>true
 |x::r,y::q=>eqN x y&&eqNL r q
 |_,_=>false
end
mutual
theorem xO:∀{d e:D},nD d=true->(eqN d e=true↔d=e)
 | .non,e,_=>by cases e<;>simp [eqN]
 | .str a,e,_=>by cases e<;>simp [eqN]
 | .int a,e,_=>by cases e<;>simp [eqN]
 | .tup xs,.tup ys,h=>by
  have:=eqNL_iff (xs:=xs) (ys:=ys) (by simpa [nD] using h)
  simp only [eqN,this,D.tup.injEq]
 | .tup xs,.non,_=>by simp [eqN]
 | .tup xs,.bl _,_=>by simp [eqN]
 | .tup xs,.int _,_=>by simp [eqN]
 | .tup xs,.str _,_=>by simp [eqN]
 | .tup xs,.lst,_=>by simp [eqN]
 | .tup xs,.dct,_=>by simp [eqN]
 | .bl _,_,h=>by simp [nD] at h
 | .lst,_,h=>by simp [nD] at h
 | .dct,_,h=>by simp [nD] at h
theorem eqNL_iff:∀{xs ys:oj D},nL xs=true->(eqNL xs ys=true↔xs=ys)
 | [],[],_=>by simp [eqNL]
 | [],_::_,_=>by simp [eqNL]
 |_::_,[],_=>by simp [eqNL]
 |x::r,y::q,h=>by
  have h':nD x=true/\nL r=true:=by simpa [nL] using h
  simp only [eqNL,uz,xO h'.1,eqNL_iff h'.2,vm]
end
mutual
theorem Is.detN {H:Hp}:∀{d e:D}{v:V},nD d=true->nD e=true->Is H d v->Is H e v->d=e
 | .non,e,v,_,he,h1,h2=>by
  cases(show v= .non from h1)
  cases e with
  |non=>rfl
  |str b=>obtain⟨q,_⟩:=(show V.non=V.str b/\_ from h2);cases q
  |int b=>cases(show V.non=V.int b from h2)
  |tup ys=>obtain⟨p,us,q,_⟩:=(show∃p us,V.non=V.ref p/\_ from h2);cases q
  |_=>simp [nD] at he
 | .str a,e,v,_,he,h1,h2=>by
  obtain⟨rfl,_⟩:=(show v= .str a/\_ from h1)
  cases e with
  |non=>cases(show V.str a=V.non from h2)
  |str b=>obtain⟨q,_⟩:=(show V.str a=V.str b/\_ from h2);cases q;rfl
  |int b=>cases(show V.str a=V.int b from h2)
  |tup ys=>obtain⟨p,us,q,_⟩:=(show∃p us,V.str a=V.ref p/\_ from h2);cases q
  |_=>simp [nD] at he
 | .int a,e,v,_,he,h1,h2=>by
  cases(show v= .int a from h1)
  cases e with
  |non=>cases(show V.int a=V.non from h2)
  |str b=>obtain⟨q,_⟩:=(show V.int a=V.str b/\_ from h2);cases q
  |int b=>cases(show V.int a=V.int b from h2);rfl
  |tup ys=>obtain⟨p,us,q,_⟩:=(show∃p us,V.int a=V.ref p/\_ from h2);cases q
  |_=>simp [nD] at he
 | .tup xs,e,v,hd,he,h1,h2=>by
  obtain⟨p,vs,rfl,Z,hl⟩:=(show∃p vs,v=V.ref p/\H p=some (.tup vs)/\IsL H xs vs from h1)
  cases e with
  |non=>cases(show V.ref p=V.non from h2)
  |str b=>obtain⟨q,_⟩:=(show V.ref p=V.str b/\_ from h2);cases q
  |int b=>cases(show V.ref p=V.int b from h2)
  |tup ys=>
   obtain⟨p',us,q,O,U⟩:=(show∃p' us,V.ref p=V.ref p'/\H p'=some (.tup us)/\IsL H ys us from h2)
   cases q;rw [Z] at O;cases O;rw [IsL.detN (by simpa [nD] using hd) (by simpa [nD] using he) hl U]
  |_=>simp [nD] at he
 | .bl _,_,_,hd,_,_,_=>by simp [nD] at hd
 | .lst,_,_,hd,_,_,_=>by simp [nD] at hd
 | .dct,_,_,hd,_,_,_=>by simp [nD] at hd
theorem IsL.detN {H:Hp}:∀{xs ys:oj D}{vs:oj V},nL xs=true->nL ys=true->IsL H xs vs->IsL H ys vs->xs=ys
 | [],[],_,_,_,_,_=>rfl
 | [],_::_,_,_,_,h1,h2=>by
  cases(show _= [] from h1)
  obtain⟨v,r,q,_⟩:=(show∃v r,[]=v::r/\_ from h2)
  cases q
 |_::_,[],_,_,_,h1,h2=>by
  cases(show _= [] from h2)
  obtain⟨v,r,q,_⟩:=(show∃v r,[]=v::r/\_ from h1)
  cases q
 |x::xs,y::ys,_,hd,he,h1,h2=>by
  obtain⟨v,r,rfl,Z,a2⟩:=h1;obtain⟨v',r',q,b1,b2⟩:=h2;cases q;have O:nD x=true/\nL xs=true:=by simpa [nL] using hd
  have U:nD y=true/\nL ys=true:=by simpa [nL] using he
  rw [Is.detN O.1 U.1 Z b1,IsL.detN O.2 U.2 a2 b2]
end
theorem k8:∀(xs ys:oj D),eqNL xs ys=((List.range (min xs.length ys.length)).all (λj=>eqN (xs.getD j .non) (ys.getD j .non))&&xs.length==ys.length)
 | [],[]=>by simp [eqNL]
 | [],_::_=>by simp [eqNL]
 |_::_,[]=>by simp [eqNL]
 |x::r,y::q=>by
  have O:=k8 r q;rw [um,um,show min (r.length+1) (q.length+1)=min r.length q.length+1 by omega,List.range_succ_eq_map,vo,Uy]
  have e:(List.range (min r.length q.length)).all ((λj=>eqN ((x::r).getD j .non) ((y::q).getD j .non))∘Nat.succ)=(List.range (min r.length q.length)).all λj=>eqN (r.getD j .non) (q.getD j .non):=by congr 1
  rw [e];have U:(r.length+1==q.length+1)=(r.length==q.length):=by rw [vj];simp
  rw [U,Bool.and_assoc,<-O]
  rfl
section
variable {X:Cx}{oq:oj (o3×Obj)}{σ:St}{H:Hp}{s:o7}
variable {e:D}{u:V}{A:oh}
theorem eqAt_nonN (I:Inv X oq σ H s){b:o6}(U:nD e=true)(h2:Is H e u)(O:RelV u b)(Z:A.units<cLine):SeqAt.EqAt A s .none b (eqN .non e):=by
 cases e with
 |non=>
  cases(show u= .non from h2)
  cases O;exact SeqAt.EqAt.same _
 |str y=>
  obtain⟨rfl,_⟩:=(show u= .str y/\_ from h2)
  obtain⟨t2,rfl⟩:=O;exact SeqAt.EqAt.none_str _ _
 |int y=>
  cases(show u= .int y from h2)
  obtain⟨t2,rfl⟩:=O;exact SeqAt.EqAt.none_int _ _
 |tup ys=>
  obtain⟨p,us,rfl,hp,hl⟩:=(show∃p us,u=V.ref p/\H p=some (.tup us)/\IsL H ys us from h2)
  cases O;obtain⟨its,_,q,_⟩:=I.tuple (.inl (.of hp));exact SeqAt.EqAt.none_tuple q Z
 |_=>simp [nD] at U
variable {z:Str}
theorem eqAt_strN (I:Inv X oq σ H s){t:Tok}{b:o6}(U:nD e=true)(h2:Is H e u)(O:RelV u b)(Z:A.units<cLine):SeqAt.EqAt A s (.str z t) b (eqN (.str z) e):=by
 cases e with
 |non=>
  cases(show u= .non from h2)
  cases O;exact SeqAt.EqAt.str_none _ _
 |str y=>
  obtain⟨rfl,_⟩:=(show u= .str y/\_ from h2)
  obtain⟨t2,rfl⟩:=O;exact SeqAt.EqAt.str_str _ _ _ _
 |int y=>
  cases(show u= .int y from h2)
  obtain⟨t2,rfl⟩:=O;exact UA _ _ _ _
 |tup ys=>
  obtain⟨p,us,rfl,hp,hl⟩:=(show∃p us,u=V.ref p/\H p=some (.tup us)/\IsL H ys us from h2)
  cases O;obtain⟨its,_,q,_⟩:=I.tuple (.inl (.of hp));exact SeqAt.EqAt.str_tuple _ _ q Z
 |_=>simp [nD] at U
theorem eqAt_intN (I:Inv X oq σ H s){z:Int}{t:Tok}{b:o6}(U:nD e=true)(h2:Is H e u)(O:RelV u b)(Z:A.units<cLine):SeqAt.EqAt A s (.int z t) b (eqN (.int z) e):=by
 cases e with
 |non=>
  cases(show u= .non from h2)
  cases O;exact SeqAt.EqAt.int_none _ _
 |str y=>
  obtain⟨rfl,_⟩:=(show u= .str y/\_ from h2)
  obtain⟨t2,rfl⟩:=O;exact Uz _ _ _ _
 |int y=>
  cases(show u= .int y from h2)
  obtain⟨t2,rfl⟩:=O;exact SeqAt.EqAt.int_int _ _ _ _
 |tup ys=>
  obtain⟨p,us,rfl,hp,hl⟩:=(show∃p us,u=V.ref p/\H p=some (.tup us)/\IsL H ys us from h2)
  cases O;obtain⟨its,_,q,_⟩:=I.tuple (.inl (.of hp));exact SeqAt.EqAt.int_tuple _ _ q Z
 |_=>simp [nD] at U
theorem parts_N {xs ys:oj D}{vs us:oj V}{its its':oj o6}{A:oh}(hd:nL xs=true)(he:nL ys=true)(hl:IsL H xs vs)(O:IsL H ys us)(rv:Vals vs its)(U:Vals us its')
  (ih:∀x∈xs,∀(e:D) (v u:V) (a b:o6),nD x=true->nD e=true->Is H x v->Is H e u->RelV v a->RelV u b->SeqAt.EqAt A s a b (eqN x e)):
  ∀j (a1:j<its.toArray.size) (a2:j<its'.toArray.size),SeqAt.EqAt A s its.toArray[j] its'.toArray[j] (eqN (xs.getD j .non) (ys.getD j .non)):=λj a1 a2=>by
 have l1:its.length=xs.length:=by rw [<-rv.length,hl.length]
 have l2:its'.length=ys.length:=by rw [<-U.length,O.length]
 have Z:j<xs.length:=by rw [<-l1];simpa using a1
 have j2:j<ys.length:=by rw [<-l2];simpa using a2
 obtain⟨v1,e1,i1⟩:=hl.get (i:=j) (d:=xs[j]) (by simp [Z])
 obtain⟨v2,e2,i2⟩:=O.get (i:=j) (d:=ys[j]) (by simp [j2])
 obtain⟨b1,f1,g1⟩:=rv.get e1;obtain⟨b2,f2,g2⟩:=U.get e2;have k1:its.toArray[j]=b1:=by
  have:=f1;rw [uj (by rwa [l1])] at this
  simpa using this
 have k2:its'.toArray[j]=b2:=by
  have:=f2;rw [uj (by rwa [l2])] at this
  simpa using this
 have d1:xs.getD j .non=xs[j]:=by simp [List.getD,Z]
 have d2:ys.getD j .non=ys[j]:=by simp [List.getD,j2]
 rw [k1,k2,d1,d2];exact ih _ (vd Z) _ _ _ _ _ (nL_get (j:=j) hd (by simp [Z])) (nL_get (j:=j) he (by simp [j2])) i1 i2 g1 g2
theorem eqAt_tupN (I:Inv X oq σ H s){xs:oj D}{e:D}{v u:V}{a b:o6}{A:oh}(hd:nD (.tup xs)=true)(he:nD e=true)(h1:Is H (.tup xs) v)(h2:Is H e u)(r1:RelV v a)(O:RelV u b)(hu:A.units<cLine)
  (ih:∀x∈xs,∀(e:D) (v u:V) (a b:o6),nD x=true->nD e=true->Is H x v->Is H e u->RelV v a->RelV u b->SeqAt.EqAt A.in1 s a b (eqN x e)):SeqAt.EqAt A s a b (eqN (.tup xs) e):=by
 obtain⟨p,vs,rfl,hp,hl⟩:=(show∃p vs,v=V.ref p/\H p=some (.tup vs)/\IsL H xs vs from h1)
 cases r1;obtain⟨its,rv,q,_⟩:=I.tuple (.inl (.of hp));cases e with
 |non=>
  cases(show u= .non from h2)
  cases O;exact SeqAt.EqAt.tuple_none q hu
 |str y=>
  obtain⟨rfl,_⟩:=(show u= .str y/\_ from h2)
  obtain⟨t2,rfl⟩:=O;exact SeqAt.EqAt.tuple_str _ _ q hu
 |int y=>
  cases(show u= .int y from h2)
  obtain⟨t2,rfl⟩:=O;exact SeqAt.EqAt.tuple_int _ _ q hu
 |tup ys=>
  by_cases hv:V.ref p=u
  ·have:=Is.detN (e:= .tup ys) hd he h1 (hv▸h2);subst hv;cases O;rw [<-this,(xO hd).mpr rfl];exact SeqAt.EqAt.same _
  ·obtain⟨p',us,rfl,aa,U⟩:=(show∃p' us,u=V.ref p'/\H p'=some (.tup us)/\IsL H ys us from h2)
   cases O;obtain⟨its',Z,q',_⟩:=I.tuple (.inl (.of aa));have l1:its.length=xs.length:=by rw [<-rv.length,hl.length]
   have l2:its'.length=ys.length:=by rw [<-Z.length,U.length]
   have ac:=UN (e:=λj=>eqN (xs.getD j .non) (ys.getD j .non)) q q' hu (parts_N (by simpa [nD] using hd) (by simpa [nD] using he) hl U rv Z ih)
   have e1:eqN (.tup xs) (.tup ys)=((List.range (min its.toArray.size its'.toArray.size)).all (λj=>eqN (xs.getD j .non) (ys.getD j .non))&&its.toArray.size==its'.toArray.size):=by
    rw [uu,uu,l1,l2,<-k8];simp only [eqN]
   rw [e1];exact SeqAt.EqAt.of_refs (λz=>hv (by rw [z])) ac
 |_=>simp [nD] at he
theorem eqAt_N (I:Inv X oq σ H s):∀(n:Nat) (d e:D) (v u:V) (a b:o6) (A:oh),dp d<=n->nD d=true->nD e=true->Is H d v->Is H e u->RelV v a->RelV u b->A.units+n<cLine->SeqAt.EqAt A s a b (eqN d e):=by
 intro n
 induction n with
 |zero=>
  intro d e v u a b A hn hd U h1 h2 Z r2 hu;cases d with
  |non=>
   cases(show v= .non from h1)
   cases Z;exact eqAt_nonN I U h2 r2 hu
  |int z=>
   cases(show v= .int z from h1)
   obtain⟨t,rfl⟩:=Z;exact eqAt_intN I U h2 r2 hu
  |str z=>simp [dp] at hn
  |tup xs=>simp [dp] at hn
  |_=>simp [nD] at hd
 |succ n ih=>
  intro d e v u a b A hn hd U h1 h2 Z r2 hu;have O:A.units<cLine:=UG (UU _ _) hu;cases d with
  |non=>
   cases(show v= .non from h1)
   cases Z;exact eqAt_nonN I U h2 r2 O
  |int z=>
   cases(show v= .int z from h1)
   obtain⟨t,rfl⟩:=Z;exact eqAt_intN I U h2 r2 O
  |str z=>
   obtain⟨rfl,_⟩:=(show v= .str z/\_ from h1)
   obtain⟨t,rfl⟩:=Z;exact eqAt_strN I U h2 r2 O
  |tup xs=>
   have hm:dpL xs<=n:=by
    have:dp (.tup xs)=1+dpL xs:=by simp only [dp]
    omega
   exact eqAt_tupN I hd U h1 h2 Z r2 O λx hx e v u a b k1 k2 k3 k4 k5 k6=>ih x e v u a b A.in1 ((zX xs).mp hm x hx) k1 k2 k3 k4 k5 k6 (by rw [uT];omega)
  |_=>simp [nD] at hd
inductive rCmpN (g:Bool->Bool) (x:V) (y:V) (H:Hp) (Q:VK):Prop
 |mk (ds es:List D) (_:Is H (.tup ds) x) (_:Is H (.tup es) y) (_:nL ds=true) (_:nL es=true) (_:dpL ds<=60) (_:Q (.bl (g (eqNL ds es))) H)
variable {ds:oj D}{y:V}
theorem rc_N (I:Inv X oq σ H s){es:oj D}{x:V}{v u:o6}(h1:Is H (.tup ds) x)(h2:Is H (.tup es) y)(hn:nL ds=true)(Z:nL es=true)(hd:dpL ds<=60)(rx:RelV x v)(ry:RelV y u)(hu:X.A.units+64<cLine):
  SeqAt.RcAt X.A s v u (eqNL ds es)/\SeqAt.RcNeAt X.A s v u (!eqNL ds es):=by
 obtain⟨p,vs,rfl,hp,hl⟩:=(show∃p vs,x=V.ref p/\H p=some (.tup vs)/\IsL H ds vs from h1)
 obtain⟨p',us,rfl,aa,O⟩:=(show∃p vs,y=V.ref p/\H p=some (.tup vs)/\IsL H es vs from h2)
 cases rx;cases ry;obtain⟨its,rv,q,_⟩:=I.tuple (.inl (.of hp));obtain⟨its',U,q',_⟩:=I.tuple (.inl (.of aa));have l1:its.length=ds.length:=by rw [<-rv.length,hl.length]
 have l2:its'.length=es.length:=by rw [<-U.length,O.length]
 have pe:=parts_N (A:=X.A.in1) hn Z hl O rv U λx hx e v u a b k1 k2 k3 k4 k5 k6=>eqAt_N I 60 x e v u a b X.A.in1 ((zX ds).mp hd x hx) k1 k2 k3 k4 k5 k6 (by rw [uT];omega)
 have e1:=UN (e:=λj=>eqN (ds.getD j .non) (es.getD j .non)) q q' () pe
 have e2:=SeqAt.RcNeAt.tuples (e:=λj=>eqN (ds.getD j .non) (es.getD j .non)) q q' () pe
 rw [uu,uu,l1,l2,<-k8] at e1 e2;exact⟨e1,e2⟩
theorem op_eqN (U:X.A.units+64<cLine):OpR X (compareOp .Eq) (rCmpN id):=by
 intro oq s σ H x y v u Q I Z ry h;obtain⟨ds,es,h1,h2,hn,O,hd,q⟩:=h;exact(rc_N I h1 h2 hn O hd Z ry U).1 X.prog X.w X.xe _ ⟨.bl _,H,I,1,q⟩
end
structure FF (K:o0)(mg:Str->om o6)(x:Str)(st:Stmt)(ps:oj Str)(f:o3)(fd:FuncData):Prop where
 F:Fun K x x st f fd
 b:XT K fd ps []
 m:mg x=some (.ref f)
structure FM (K:o0)(C:o3)(x q:Str)(st:Stmt)(ps:oj Str)(f:o3)(fd:FuncData):Prop where
 F:Fun K x q st f fd
 b:XT K fd ps []
 h:Meth K C x f
noncomputable def FZ (K:o0)(x q:Str)(st:Stmt)(f:o3):Prop:=∃(oc kV dc pm cd ct:o6) (od an:om o3) (sl:Array (om o6)),K.lookup f=some ⟨oc,od,.func (PySem.W.fnOf x q (Yb st) (yz st) (qj st) .none kV dc pm an cd ct),sl⟩/\PySem.W.codeIn K cd q=true/\PySem.W.keepIn K (.ref f)=true
noncomputable def FZg (K:o0)(x:Str)(st:Stmt)(f:o3):Prop:=PySem.W.nsIn K mainGlobals x=some (some (.ref f))/\FZ K x x st f
noncomputable def FZm (K:o0)(C:o3)(x q:Str)(st:Stmt)(f:o3):Prop:=PySem.W.findIn K (.ref C) x=some (some (.ref f))/\PySem.W.isFn K (.ref f)=true/\FZ K x q st f
noncomputable def BOk (x q:Str)(st:Stmt)(ps:oj Str):Prop:=∀(kV doc pm:o6) (an:om o3) (cdv ct:o6) (us:oj o6),us.length=ps.length->bindArgs (PySem.W.fnOf x q (Yb st) (yz st) (qj st) .none kV doc pm an cdv ct) ⟨us,[]⟩=pure (ps.zip us)
variable {K:o0}{h:o8}{mg:Str->om o6}{x:Str}{st:Stmt}{f:o3}
theorem Qf (X:K.In h)(G:h.Ns mainGlobals mg)(z:FZg K x st f)(ps:oj Str)(O:BOk x x st ps):∃fd,FF K mg x st ps f fd:=by
 obtain⟨a,oc,kV,dc,pm,U,ct,od,an,sl,l,c,k⟩:=z;have F:=fun_mk (st:=st) l c k;exact⟨_,F,F.binds O,uO X G a⟩
variable {C:o3}
theorem yM {q:Str}(z:FZm K C x q st f)(ps:oj Str)(O:BOk x q st ps):∃fd,FM K C x q st ps f fd:=by
 obtain⟨a,i,oc,kV,dc,pm,U,ct,od,an,sl,l,c,k⟩:=z;have F:=fun_mk (st:=st) l c k;exact⟨_,F,F.binds O,⟨a,i,k⟩⟩
theorem FF.law {ps:oj Str}{fd:FuncData}(T:FF K mg x st ps f fd){y:Str}(h:∀(kV doc pm:o6) (an:om o3) (cdv ct u:o6),bindArgs (PySem.W.fnOf x x (Yb st) (yz st) (qj st) .none kV doc pm an cdv ct) ⟨[u],[]⟩=pure [(y,u)])(s:o7)(u:o6):BindsTo s fd ⟨[u],[]⟩ [(y,u)]:=by
 obtain⟨oc,od,kV,doc,pm,an,cdv,ct,osl,rfl,lk,O⟩:=T.F.ex;exact .of_eq (h kV doc pm an cdv ct u)
noncomputable def txt? (u:o6):om Str:=match u with
 | .str z _=>some z
 |_=>none
noncomputable def TZ (K:o0)(q:o3)(l:oj Str):Prop:=∃(d:om o3) (i:Array o6) (n:Nat) (sl:Array (om o6)),K.lookup q=some ⟨.type "tuple",d,.seq i n,sl⟩/\i.toList.map txt? =l.map some
theorem strs_of:∀{l:oj Str}{us:oj o6},us.map txt? =l.map some->Vals (l.map V.str) us
 | [],[],_=> .nil
 |z::l,u::us,h=>by
  rw [uh,uh] at h;injection h with h1 h2
  cases u with
  |str y t=>
   have:y=z:=uI h1;subst this;exact .cons ⟨t,1⟩ (strs_of h2)
  |_=>cases h1
 | [],_::_,h=>by simp at h
 |_::_,[],h=>by simp at h
variable {H:Hp}{q:o3}{l:oj Str}
theorem TZ.sq (h:TZ K q l)(Z:l.length<=100):SqT K H q (l.map V.str):=by
 obtain⟨d,its,n,sl,U,e⟩:=h;have O:its.size=l.length:=by rw [<-vh];simpa using congrArg List.length e
 exact .inr ⟨_,its,n,U,1,1,by rw [O];exact Uj (XJ ()),strs_of e⟩
noncomputable def TZn (K:o0)(a:o3)(x:Str)(l:oj Str):Prop:=∃q,PySem.W.nsIn K a x=some (some (.ref q))/\TZ K q l
end L2
namespace L2
open PySem PyProof.Rows
variable {σ:St}{H:Hp}
theorem qG {t u:TS}{D:Ends}(h:∀N:St->Hp->Prop,(∀O H',u D O H'->N O H')->t {D with nx:=N} σ H):tSeq t u D σ H:=h (u D) λ_ _ h=>h
mutual
noncomputable def hvD (h:o8):D->o6->Prop
 | .non,v=>v= .none
 | .str z,v=>∃t,v= .str z t
 | .tup ds,v=>∃a o items n,v= .ref a/\h.get? a=some o/\o.cls= .type "tuple"/\o.data= .seq items n/\hvL h ds items.toList
 |_,_=>False
noncomputable def hvL (h:o8):oj D->oj o6->Prop
 | [],vs=>vs= []
 |d::ds,vs=>∃v r,vs=v::r/\hvD h d v/\hvL h ds r
end
mutual
noncomputable def kD:D->Bool
 | .non=>true
 | .str _=>true
 | .tup xs=>kL xs
 |_=>false
noncomputable def kL:oj D->Bool
 | []=>true
 |x::r=>kD x&&kL r
end
mutual
theorem kD_n:∀{d:D},kD d=true->nD d=true
 | .non,_=>by simp [nD]
 | .str _,_=>by simp [nD]
 | .tup xs,h=>by
  have:=kL_n (xs:=xs) (by simpa [kD] using h)
  simpa [nD] using this
 | .bl _,h=>by simp [kD] at h
 | .int _,h=>by simp [kD] at h
 | .lst,h=>by simp [kD] at h
 | .dct,h=>by simp [kD] at h
theorem kL_n:∀{xs:oj D},kL xs=true->nL xs=true
 | [],_=>by simp [nL]
 |x::r,h=>by
  have h':kD x=true/\kL r=true:=by simpa [kL] using h
  simp [nL,kD_n h'.1,kL_n h'.2]
end
end L2
namespace L2
open PySem PySem.Spec PyProof.Rows
section
variable {X:Cx}
inductive rEqA (x:V) (y:V) (H:Hp) (Q:VK):Prop
 |mk (d e:D) (_:Is H d x) (_:Is H e y) (_:kD d=true) (_:kD e=true) (_:dp d<=60) (_:Q (.bl (eqN d e)) H)
theorem op_eqA (hu:X.A.units+64<cLine):OpR X (compareOp .Eq) rEqA:=by
 intro oq s σ H x y v u Q I O U h;obtain⟨d,e,h1,h2,k1,k2,hd,q⟩:=h;have Z:X.A.units<cLine:=by omega
 cases d with
 |non=>
  cases(show x= .non from h1)
  cases e with
  |non=>
   cases(show y= .non from h2)
   exact Qn oq s σ H .non .non v u Q I O U ⟨1,by simpa [eqN] using q⟩
  |str z=>
   obtain⟨rfl,_⟩:=(show y= .str z/\_ from h2)
   exact Qn oq s σ H .non (.str z) v u Q I O U ⟨1,by simpa [eqN] using q⟩
  |tup ys=>
   obtain⟨p,us,rfl,hp,hl⟩:=(show∃p us,y=V.ref p/\H p=some (.tup us)/\IsL H ys us from h2)
   cases O;cases U;obtain⟨its,_,tq,_⟩:=I.tuple (.inl (.of hp));exact SeqAt.RcAt.none_tuple tq Z X.prog X.w X.xe _ ⟨.bl false,H,I,1,by simpa [eqN] using q⟩
  |_=>simp [kD] at k2
 |str z=>
  obtain⟨rfl,_⟩:=(show x= .str z/\_ from h1)
  cases e with
  |non=>
   cases(show y= .non from h2)
   exact Qn oq s σ H (.str z) .non v u Q I O U ⟨1,by simpa [eqN] using q⟩
  |str w=>
   obtain⟨rfl,_⟩:=(show y= .str w/\_ from h2)
   refine Qn oq s σ H (.str z) (.str w) v u Q I O U ⟨1,?_⟩;have e1:eqN (.str z) (.str w)=decide (V.str z=V.str w):=by
    simp only [eqN];by_cases c:z=w
    ·subst c;simp
    ·simp [c]
   rwa [e1] at q
  |tup ys=>
   obtain⟨p,us,rfl,hp,hl⟩:=(show∃p us,y=V.ref p/\H p=some (.tup us)/\IsL H ys us from h2)
   obtain⟨t,rfl⟩:=O;cases U;obtain⟨its,_,tq,_⟩:=I.tuple (.inl (.of hp));exact SeqAt.RcAt.str_tuple _ _ tq Z X.prog X.w X.xe _ ⟨.bl false,H,I,1,by simpa [eqN] using q⟩
  |_=>simp [kD] at k2
 |tup xs=>
  cases e with
  |non=>
   obtain⟨p,us,rfl,hp,hl⟩:=(show∃p us,x=V.ref p/\H p=some (.tup us)/\IsL H xs us from h1)
   cases(show y= .non from h2)
   cases O;cases U;obtain⟨its,_,tq,_⟩:=I.tuple (.inl (.of hp));exact SeqAt.RcAt.tuple_none tq Z X.prog X.w X.xe _ ⟨.bl false,H,I,1,by simpa [eqN] using q⟩
  |str w=>
   obtain⟨p,us,rfl,hp,hl⟩:=(show∃p us,x=V.ref p/\H p=some (.tup us)/\IsL H xs us from h1)
   obtain⟨rfl,_⟩:=(show y= .str w/\_ from h2)
   cases O;obtain⟨t,rfl⟩:=U;obtain⟨its,_,tq,_⟩:=I.tuple (.inl (.of hp));exact SeqAt.RcAt.tuple_str _ _ tq Z X.prog X.w X.xe _ ⟨.bl false,H,I,1,by simpa [eqN] using q⟩
  |tup ys=>
   refine op_eqN hu oq s σ H x y v u Q I O U ⟨xs,ys,h1,h2,kL_n (by simpa [kD] using k1),kL_n (by simpa [kD] using k2),?_,by simpa [eqN] using q⟩
   have:dp (.tup xs)=1+dpL xs:=by simp only [dp]
   omega
  |_=>simp [kD] at k2
 |_=>simp [kD] at k1
end
end L2
namespace L2
open PySem PyProof.Rows
theorem we {xs:oj V}{us:oj o6}(r:Vals xs us):∀is:oj Nat,Vals (is.filterMap (xs[·]?)) (is.filterMap (us[·]?))
 | []=> .nil
 |i::is=>by
  rw [vT,vT];have U:=r.length;cases e:xs[i]? with
  |none=>
   have:us[i]? =none:=List.getElem?_eq_none (by have:=List.getElem?_eq_none_iff.mp e;omega)
   rw [this];exact we r is
  |some x=>
   obtain⟨u,O,g⟩:=r.get e;rw [O];exact .cons g (we r is)
section
variable {X:Cx}
inductive ItStp (K:PySem.W.Frag) (Q:VK) (x:V) (H2:Hp):Prop
 |mk (a:_) (xs:_) (_:x= .ref a) (_:SqL K H2 a xs) (_:∀ys p,ys.length<=xs.length->(∀y∈ys,y∈xs)->H2 p=none->Q (.ref p) (upd H2 p (.lst ys)))
noncomputable def tStp (K:o0)(te:TE)(tl:TO):TE:=λσ H Q=>te σ H λx H1=>tl σ H1 λ_ H2=>ItStp K Q x H2
theorem pe_stepL {e:Expr}{te:TE}{lo:om Expr}{tl:TO}{k:Int}{j pos p1 p2}(hk:k≠0)(he:PE X e te)(hl:PO X lo tl)(U:subscripted (.Slice lo none (some (.Constant (.int k) j p1)) p2) false=λv u=>operate [v,u] (getItem v u)):PE X (.Subscript e (.Slice lo none (some (.Constant (.int k) j p1)) p2) pos) (tStp X.K te tl):=by
 intro oq s σ H Q I h;refine Subscript_ (thn (he oq s σ H _ I h) λv s1 ⟨x,H1,I1,r1,q1⟩=> ?_);refine wpAny_Slice (thn (hl oq s1 σ H1 _ I1 q1) λvl s2 ⟨lv,H2,I2,pl,q2⟩=> ?_);rw [evalPart_none];refine uB ?_;rw [evalPart_some];refine thn (qi (i:=k) oq s2 σ H2 (λy H3=>y= .int k/\H3=H2) I2 ⟨1,1⟩) λu O h3=> ?_;obtain⟨y,H3,I3,r3,rfl,rfl⟩:=h3;obtain⟨tk,rfl⟩:=r3;obtain⟨a,xs,rfl,hH,q⟩:=q2;cases r1;have I4:Inv X oq σ H3 {O with heap:=O.heap.push {cls:= .type "slice",data:= .fields #[vl,.none,.int k tk]}}:=I3.kept (t':=O.toks) λb ob q=>ud _ q
 obtain⟨its,r,Z,hz⟩:=I4.list hH;have aa:its.toArray.size=xs.length:=by rw [uu];exact r.length.symm
 show wpAny #[X,X] X.A (subscriptTail e (.Slice lo none (some (.Constant (.int k) j p1)) p2) (.ref a) (.ref O.heap.objs.size)) (EP X oq σ Q) X.xe {O with heap:=O.heap.push {cls:= .type "slice",data:= .fields #[vl,.none,.int k tk]}}
 refine tail_any (ops:= [.ref a,.ref O.heap.objs.size]) Z.isList.typeIs slot_list_getitem.lookup ?_ (by rw [U])
 refine wpAny_getItem_list_slice (st:=some k) Z.isList (Heap.IsSliceOf.new ..) pl .none (.int k tk) (by simpa using hk) ?_ (by rwa [aa])
 have hsz:=slicePick_size_le its.toArray lv none (some k);unfold slicePick at hsz⊢;generalize sliceRange (sliceBounds lv none (some k) its.toArray.size).1 (sliceBounds lv none (some k) its.toArray.size).2.1 (sliceBounds lv none (some k) its.toArray.size).2.2=is at hsz⊢;have ep:is.filterMap (its.toArray[·]?)=is.filterMap (its[·]?):=by simp
 rw [ep] at hsz⊢;have vp:=we r is;have ac:(is.filterMap (xs[·]?)).length<=xs.length:=by
  rw [vp.length];rwa [uu,uu,<-r.length] at hsz
 refine⟨.ref _,_,I4.laid (t':=O.toks) (o:= .lst (is.filterMap (xs[·]?))) (λb ob q=>ud _ q) (ui _) ⟨uL ac hz,_,(0),vp,uG _ rfl⟩,1,q _ _ ac (λy hy=> ?_) (I4.hok.fresh (ui _))⟩;obtain⟨i,_,hi⟩:=List.mem_filterMap.mp hy;exact uZ hi
end
end L2
namespace L2
open PySem PySem.Spec PyProof.Rows
section
variable {X:Cx}
theorem pe_lstItems {x:Str}{o:Expr}{to:TE}{p pos apos cpos:Pos}(hc:X.calm=true)(hg:Gl X x)(hm:X.mg x=none)(hv:bootBuiltins x=some (.type "list"))(ho:PE X o to)(hn:x≠"__name__")(ac:(x==("__debug__":Str))=false)
  (O:attributeBase o "items" X.env (eval o X.env)=eval o X.env) (U:(apos.endLine==cpos.line)=true)
  (he:starEach [.Call (.Attribute o "items" apos) [] [] cpos] X.env=(false,eval (.Call (.Attribute o "items" apos) [] [] cpos) X.env)::starEach [] X.env) (ad:(backTo pos (starEach [] X.env)).any (·.1)=false):
  PE X (.Call (.Name x p) [.Call (.Attribute o "items" apos) [] [] cpos] [] pos) (tItems .lst to):=by
 intro oq s σ H Q I h;refine Ud (Z8 I hg hm hv ?_ hn ac);refine vB ?_ he ad;rw [he];show wpAny _ _ (spliced ((false,eval (.Call (.Attribute o "items" apos) [] [] cpos) X.env)::backTo pos (starEach [] X.env))) _ _ s;refine vW (eval_items ho I O U h ?_);rintro s1 H1 x I1 ⟨d,kvs,rfl,hd,q⟩;refine⟨d,kvs,1,hd,Up ?_⟩;obtain⟨hz,lo,vs,Z,dd⟩:=wN I1.hok hd;obtain⟨o,es,ep,ho⟩:=id dd;have ae:s1.heap.DictAt (Qa X.prog X.w) d vs ep:=⟨o,es,ho⟩;have aa:(s1.heap.push {cls:= .type "dict_items",data:= .fields #[.ref d]}).IsItemsView s1.heap.objs.size d:=⟨_,uG _ rfl,1,1⟩;refine vb (n:=1) I1.tk ?_;have hsz:s1.heap.objs.size<=(s1.heap.push {cls:= .type "dict_items",data:= .fields #[.ref d]}).objs.size:=by rw [vi];exact Nat.le_succ _
 refine PySem.W.kdx_call (s:={s1 with heap:=s1.heap.push {cls:= .type "dict_items",data:= .fields #[.ref d]}}) (knd:=Qa X.prog X.w) (kvs:=vs) (ep:=ep) (I1.ok.hd hc) aa (ae.push _) (by rwa [<-Z.length]) λh' tk ah c as k1 kl k2 k3 ka htk=> ?_
 have ak:=Z.length;have k0:∀b u,s1.heap.get? b=some u->h'.get? b=some u:=λb u e=>k1 b u (ud _ e);have af:∀l:oj o3,Vals (l.map V.ref) (l.map Value.ref):=by
  intro l
  induction l with
  |nil=>exact .nil
  |cons a r ih=>exact .cons rfl ih
 obtain⟨H2,I2,sm,tn,ag,it⟩:=items_laid (h2:=h') (t:=(s1.heap.push {cls:= .type "dict_items",data:= .fields #[.ref d]}).objs.size) (o:= .lst (as.map V.ref)) (tk:=tk) I1 Z k0 k2 hsz k3 (λa _ u e=>e) hsz (λm=>vA _ (k3.above _ m)) ⟨0⟩ htk (λH' _ _=>⟨by rw [ua];omega,as.map Value.ref,c,af as,by rw [<-ka];exact kl⟩)
 exact⟨.ref _,H2,I2,1,q _ as H2 sm tn ag it⟩
end
section
variable {x q:Str}{st:Stmt}{a b c d:Str}
theorem bo1 (h:∀(kV doc pm:o6) (an:om o3) (cdv ct u:o6),bindArgs (PySem.W.fnOf x q (Yb st) (yz st) (qj st) .none kV doc pm an cdv ct) ⟨[u],[]⟩=pure [(a,u)]):BOk x q st [a]:=by
 intro k1 k2 k3 U k5 Z us O;rcases us with _|⟨u,_|⟨_,_⟩⟩
 ·cases O
 ·exact h k1 k2 k3 U k5 Z u
 ·cases O
theorem bo2 (h:∀(kV doc pm:o6) (an:om o3) (cdv ct u v:o6),bindArgs (PySem.W.fnOf x q (Yb st) (yz st) (qj st) .none kV doc pm an cdv ct) ⟨[u,v],[]⟩=pure [(a,u),(b,v)]):BOk x q st [a,b]:=by
 intro k1 k2 k3 U k5 Z us O;rcases us with _|⟨u,_|⟨v,_|⟨_,_⟩⟩⟩
 ·cases O
 ·cases O
 ·exact h k1 k2 k3 U k5 Z u v
 ·cases O
theorem bo3 (h:∀(kV doc pm:o6) (an:om o3) (cdv ct u v w:o6),bindArgs (PySem.W.fnOf x q (Yb st) (yz st) (qj st) .none kV doc pm an cdv ct) ⟨[u,v,w],[]⟩=pure [(a,u),(b,v),(c,w)]):BOk x q st [a,b,c]:=by
 intro k1 k2 k3 U k5 Z us O;rcases us with _|⟨u,_|⟨v,_|⟨w,_|⟨_,_⟩⟩⟩⟩
 ·cases O
 ·cases O
 ·cases O
 ·exact h k1 k2 k3 U k5 Z u v w
 ·cases O
theorem bo4 (h:∀(kV doc pm:o6) (an:om o3) (cdv ct u v w z:o6),bindArgs (PySem.W.fnOf x q (Yb st) (yz st) (qj st) .none kV doc pm an cdv ct) ⟨[u,v,w,z],[]⟩=pure [(a,u),(b,v),(c,w),(d,z)]):BOk x q st [a,b,c,d]:=by
 intro k1 k2 k3 U k5 Z us O;rcases us with _|⟨u,_|⟨v,_|⟨w,_|⟨z,_|⟨_,_⟩⟩⟩⟩⟩
 ·cases O
 ·cases O
 ·cases O
 ·cases O
 ·exact h k1 k2 k3 U k5 Z u v w z
 ·cases O
end
end L2
namespace K68
open PySem L2 PyProof.Rows
open Builtin.Int (intBits)
noncomputable def top (i:Nat):Stmt:=PySem.Challenge.pw_askwright_k68_reasons_judged.main.body.getD i (.Pass ⟨(0),(0),(0),(0)⟩)
noncomputable abbrev ZD:Stmt:=top 16
noncomputable abbrev Xv:Stmt:=top 17
noncomputable abbrev wt:Stmt:=top 18
noncomputable abbrev wy:Stmt:=top 20
noncomputable abbrev yQ:Stmt:=top 21
noncomputable abbrev xu:Stmt:=top 22
noncomputable abbrev wv:Stmt:=top 28
noncomputable abbrev xv:Stmt:=top 29
noncomputable abbrev Zq:Stmt:=top 30
noncomputable abbrev jU:Stmt:=top 31
noncomputable abbrev xf:Stmt:=top 32
noncomputable abbrev X7:Stmt:=top 33
noncomputable abbrev wp:Stmt:=top 34
noncomputable abbrev xp:Stmt:=top 37
noncomputable abbrev xS:Stmt:=top 38
noncomputable abbrev xB:Stmt:=top 39
noncomputable abbrev XX:Stmt:=top 40
noncomputable abbrev X2:Stmt:=top 41
noncomputable abbrev xD:Stmt:=top 42
noncomputable abbrev Jh:Stmt:=top 43
noncomputable abbrev xg:Stmt:=top 44
noncomputable abbrev xG:Stmt:=top 45
noncomputable abbrev XY:Stmt:=top 46
noncomputable abbrev xc:Stmt:=top 47
noncomputable abbrev Yp:Stmt:=top 49
noncomputable abbrev Yg:Stmt:=top 50
noncomputable abbrev YU:Stmt:=Qd (top 51) 0
noncomputable abbrev jp:Stmt:=Qd (top 51) 1
noncomputable abbrev Yc:Stmt:=Qd (top 51) 2
noncomputable abbrev Ys:Stmt:=Qd (top 51) 3
noncomputable abbrev YA:Stmt:=Qd (top 51) 6
noncomputable abbrev yb:Stmt:=Qd (top 51) 7
noncomputable abbrev Ye:Stmt:=Qd (top 51) 8
noncomputable abbrev Y0:Stmt:=Qd (top 51) 9
noncomputable abbrev jW:Stmt:=Qd (top 53) 0
noncomputable abbrev jy:Stmt:=Qd (top 53) 1
noncomputable abbrev Je:Stmt:=Qd (top 53) 2
noncomputable abbrev YV:Stmt:=Qd (top 53) 3
noncomputable abbrev Jq:Stmt:=Qd (top 53) 4
noncomputable abbrev Jl:Stmt:=Qd (top 53) 5
noncomputable abbrev yO:Stmt:=Qd (top 54) 0
noncomputable abbrev QN:Stmt:=Qd (top 54) 1
noncomputable abbrev QM:Stmt:=Qd (top 54) 2
noncomputable abbrev yr:Stmt:=Qd (top 54) 3
noncomputable abbrev yo:Stmt:=Qd (top 54) 4
noncomputable abbrev yl:Stmt:=Qd (top 54) 5
noncomputable abbrev yu:Stmt:=Qd (top 54) 6
noncomputable abbrev yx:Stmt:=Qd (top 54) 7
noncomputable abbrev QQ:Stmt:=Qd (top 54) 8
noncomputable abbrev Ya:Stmt:=top 55
noncomputable abbrev xh:Stmt:=top 56
noncomputable abbrev Jf:Stmt:=top 57
noncomputable abbrev jq:Stmt:=top 58
noncomputable abbrev Ji:Stmt:=top 59
noncomputable abbrev jX:Stmt:=top 60
noncomputable abbrev kc:Stmt:=top 62
noncomputable abbrev X0:Stmt:=top 63
noncomputable abbrev WX:Stmt:=top 64
noncomputable abbrev YZ:Stmt:=top 65
noncomputable abbrev Y3:Stmt:=top 66
noncomputable abbrev xj:Stmt:=top 69
noncomputable abbrev yS:Stmt:=Qd (top 70) 0
noncomputable abbrev Y4:Stmt:=Qd (top 70) 1
noncomputable abbrev ym:Stmt:=Qd (top 70) 2
noncomputable abbrev QP:Stmt:=Qd (top 70) 3
noncomputable abbrev jj:Stmt:=top 71
noncomputable abbrev js:Stmt:=top 73
noncomputable abbrev ZO:Stmt:=top 74
noncomputable abbrev zo:Stmt:=top 75
noncomputable abbrev zc:Stmt:=top 76
noncomputable abbrev JI:Stmt:=top 77
noncomputable abbrev JA:Stmt:=top 78
noncomputable abbrev xU:Stmt:=top 79
noncomputable abbrev JK:Stmt:=top 80
noncomputable abbrev Ja:Stmt:=top 81
noncomputable abbrev jt:Stmt:=top 82
noncomputable abbrev jr:Stmt:=top 83
noncomputable abbrev Jj:Stmt:=top 84
noncomputable abbrev xt:Stmt:=top 85
noncomputable abbrev s_law:Stmt:=top 86
set_option genInjectivity false in
set_option genSizeOf false in
structure Ad where
 f_is_text:o3
 d_is_text:FuncData
 f_is_tree:o3
 d_is_tree:FuncData
 f_is_name:o3
 d_is_name:FuncData
 f_is_pair:o3
 d_is_pair:FuncData
 jc:o3
 ja:FuncData
 ZU:o3
 Zy:FuncData
 f_part_of:o3
 d_part_of:FuncData
 Z7:o3
 wg:FuncData
 f_row_of:o3
 d_row_of:FuncData
 zr:o3
 zp:FuncData
 wA:o3
 wu:FuncData
 Wg:o3
 WJ:FuncData
 f_is_rule:o3
 d_is_rule:FuncData
 xo:o3
 Zt:FuncData
 xb:o3
 wB:FuncData
 xw:o3
 Z5:FuncData
 X4:o3
 WI:FuncData
 XW:o3
 WQ:FuncData
 xN:o3
 Z0:FuncData
 Jd:o3
 zu:FuncData
 xQ:o3
 Zs:FuncData
 xx:o3
 wn:FuncData
 X5:o3
 WR:FuncData
 xz:o3
 ZG:FuncData
 Jm:o3
 Jk:FuncData
 jG:o3
 jI:FuncData
 Y2:o3
 J4:FuncData
 Xs:o3
 Xo:FuncData
 jJ:o3
 jB:FuncData
 jT:o3
 jZ:FuncData
 Jr:o3
 j8:FuncData
 Yh:o3
 Yi:FuncData
 jE:o3
 jD:FuncData
 JT:o3
 J7:FuncData
 Ju:o3
 zw:FuncData
 Xu:o3
 XG:FuncData
 zN:o3
 zC:FuncData
 xa:o3
 J1:FuncData
 zD:o3
 zE:FuncData
 zA:o3
 zI:FuncData
 yR:o3
 Y7:FuncData
 yG:o3
 yt:FuncData
 yA:o3
 yC:FuncData
 YL:o3
 YR:FuncData
 YF:o3
 Yw:FuncData
 Yt:o3
 YC:FuncData
 YO:o3
 YM:FuncData
 YI:o3
 YS:FuncData
 yI:o3
 yD:FuncData
 jC:o3
 jH:FuncData
 ZM:o3
 wI:FuncData
 zV:o3
 zT:FuncData
 Xd:o3
 Xf:FuncData
 zY:o3
 zQ:FuncData
 zy:o3
 zt:FuncData
 f_stands:o3
 d_stands:FuncData
 Wl:o3
 WM:FuncData
 f_reason:o3
 d_reason:FuncData
 JU:o3
 J3:FuncData
 J2:o3
 J6:FuncData
 Zx:o3
 Zv:FuncData
 YX:o3
 JS:FuncData
 zm:o3
 zj:FuncData
 Yz:o3
 Yu:FuncData
 Yy:o3
 YB:FuncData
 Xg:o3
 Xh:FuncData
 Xe:o3
 xV:FuncData
 f_law_pot:o3
 d_law_pot:FuncData
 Wv:o3
 Wu:FuncData
 WG:o3
 WE:FuncData
 Ww:o3
 WV:FuncData
 Wm:o3
 WW:FuncData
 Z4:o3
 wK:FuncData
 w8:o3
 w9:FuncData
 zK:o3
 zW:FuncData
 xZ:o3
 Xy:FuncData
 Xz:o3
 Xk:FuncData
 zJ:o3
 zR:FuncData
 wM:o3
 wz:FuncData
 f_law:o3
 d_law:FuncData
 qo:o3
 qJ:o3
 qm:o3
 qD:o3
structure Tx (K:o0)(mg:Str->om o6)(a:Ad):Prop where
 g_is_text:FF K mg "is_text" ZD ["value"] a.f_is_text a.d_is_text
 g_is_tree:FF K mg "is_tree" Xv ["value"] a.f_is_tree a.d_is_tree
 g_is_name:FF K mg "is_name" wt ["value"] a.f_is_name a.d_is_name
 g_is_pair:FF K mg "is_pair" wy ["value"] a.f_is_pair a.d_is_pair
 g_is_row_of_names:FF K mg "is_row_of_names" yQ ["tree"] a.jc a.ja
 g_is_answer:FF K mg "is_answer" xu ["ask","answer"] a.ZU a.Zy
 g_part_of:FF K mg "part_of" wv ["kind","piece","count"] a.f_part_of a.d_part_of
 g_pieces_of:FF K mg "pieces_of" xv ["line","form"] a.Z7 a.wg
 g_row_of:FF K mg "row_of" Zq ["line","count"] a.f_row_of a.d_row_of
 g_read_lines:FF K mg "read_lines" jU ["value"] a.zr a.zp
 g_rule_rows:FF K mg "rule_rows" xf ["tree"] a.wA a.wu
 g_bad_line:FF K mg "bad_line" X7 ["tree"] a.Wg a.WJ
 g_is_rule:FF K mg "is_rule" wp ["value"] a.f_is_rule a.d_is_rule
 g_text_made:FF K mg "text_made" xp ["boxes","own","parts"] a.xo a.Zt
 g_self_made:FF K mg "self_made" xS ["boxes","own","parts"] a.xb a.wB
 g_copy_made:FF K mg "copy_made" xB ["boxes","own","parts"] a.xw a.Z5
 g_row_made:FF K mg "row_made" XX ["boxes","own","parts"] a.X4 a.WI
 g_put_made:FF K mg "put_made" X2 ["boxes","own","parts"] a.XW a.WQ
 g_join_made:FF K mg "join_made" xD ["boxes","own","parts"] a.xN a.Z0
 g_first_made:FF K mg "first_made" Jh ["boxes","own","parts"] a.Jd a.zu
 g_rest_made:FF K mg "rest_made" xg ["boxes","own","parts"] a.xQ a.Zs
 g_size_made:FF K mg "size_made" xG ["boxes","own","parts"] a.xx a.wn
 g_cut_made:FF K mg "cut_made" XY ["boxes","own","parts"] a.X5 a.WR
 g_glue_made:FF K mg "glue_made" xc ["boxes","own","parts"] a.xz a.ZG
 g_is_jump_taken:FF K mg "is_jump_taken" Yp ["boxes","word","parts"] a.Jm a.Jk
 g_asked_or_fault:FF K mg "asked_or_fault" Yg ["word","held"] a.jG a.jI
 g_Machine_init:FM K a.qo "__init__" "Machine.__init__" YU ["self","rule","own"] a.Y2 a.J4
 g_Machine_now:FM K a.qo "now" "Machine.now" jp ["self"] a.Xs a.Xo
 g_Machine_answer:FM K a.qo "answer" "Machine.answer" Yc ["self","tree"] a.jJ a.jB
 g_Machine_asked:FM K a.qo "asked" "Machine.asked" Ys ["self"] a.jT a.jZ
 g_Machine_go_on:FM K a.qo "go_on" "Machine.go_on" YA ["self"] a.Jr a.j8
 g_Machine_is_waiting:FM K a.qo "is_waiting" "Machine.is_waiting" yb ["self"] a.Yh a.Yi
 g_Machine_do_row:FM K a.qo "do_row" "Machine.do_row" Ye ["self","row"] a.jE a.jD
 g_Machine_hold:FM K a.qo "hold" "Machine.hold" Y0 ["self","box","tree"] a.JT a.J7
 g_Going_init:FM K a.qJ "__init__" "Going.__init__" jW ["self","name","source","order"] a.Ju a.zw
 g_Going_begin:FM K a.qJ "begin" "Going.begin" jy ["self","rule"] a.Xu a.XG
 g_Going_look:FM K a.qJ "look" "Going.look" Je ["self"] a.zN a.zC
 g_Going_wanted:FM K a.qJ "wanted" "Going.wanted" YV ["self"] a.xa a.J1
 g_Going_take:FM K a.qJ "take" "Going.take" Jq ["self","answer"] a.zD a.zE
 g_Going_full:FM K a.qJ "full" "Going.full" Jl ["self"] a.zA a.zI
 g_PlainOrder_init:FM K a.qm "__init__" "PlainOrder.__init__" yO ["self","project"] a.yR a.Y7
 g_PlainOrder_begin_anew:FM K a.qm "begin_anew" "PlainOrder.begin_anew" QN ["self","project"] a.yG a.yt
 g_PlainOrder_go_through:FM K a.qm "go_through" "PlainOrder.go_through" QM ["self","name"] a.yA a.yC
 g_PlainOrder_enter:FM K a.qm "enter" "PlainOrder.enter" yr ["self","name"] a.YL a.YR
 g_PlainOrder_settle:FM K a.qm "settle" "PlainOrder.settle" yo ["self","going"] a.YF a.Yw
 g_PlainOrder_runner:FM K a.qm "runner" "PlainOrder.runner" yl ["self","rule","own"] a.Yt a.YC
 g_PlainOrder_leave:FM K a.qm "leave" "PlainOrder.leave" yu ["self","going"] a.YO a.YM
 g_PlainOrder_go_on:FM K a.qm "go_on" "PlainOrder.go_on" yx ["self","going"] a.YI a.YS
 g_PlainOrder_answer_yet:FM K a.qm "answer_yet" "PlainOrder.answer_yet" QQ ["self","name"] a.yI a.yD
 g_answer_at_once:FF K mg "answer_at_once" Ya ["source"] a.jC a.jH
 g_answer_by:FF K mg "answer_by" xh ["end"] a.ZM a.wI
 g_check_name:FF K mg "check_name" Jf ["name"] a.zV a.zT
 g_check_names:FF K mg "check_names" jq ["names"] a.Xd a.Xf
 g_order_from:FF K mg "order_from" Ji ["project","name"] a.zY a.zQ
 g_order_over:FF K mg "order_over" jX ["project","names"] a.zy a.zt
 g_stands:FF K mg "stands" kc ["project","name"] a.f_stands a.d_stands
 g_standing:FF K mg "standing" X0 ["order","name"] a.Wl a.WM
 g_reason:FF K mg "reason" WX ["project","other","name"] a.f_reason a.d_reason
 g_first_unlike:FF K mg "first_unlike" YZ ["asks","others"] a.JU a.J3
 g_reason_holds:FF K mg "reason_holds" Y3 ["project","other","name","told"] a.J2 a.J6
 g_is_source:FF K mg "is_source" xj ["value"] a.Zx a.Zv
 g_Project_init:FM K a.qD "__init__" "Project.__init__" yS ["self","sources"] a.YX a.JS
 g_Project_sources:FM K a.qD "sources" "Project.sources" Y4 ["self"] a.zm a.zj
 g_Project_source_of:FM K a.qD "source_of" "Project.source_of" ym ["self","name"] a.Yz a.Yu
 g_Project_looked_up:FM K a.qD "looked_up" "Project.looked_up" QP ["self","ask"] a.Yy a.YB
 g_longest_row:FF K mg "longest_row" jj ["names"] a.Xg a.Xh
 g_law_cell_at:FF K mg "_law_cell_at" js ["script","k"] a.Xe a.xV
 g_law_pot:FF K mg "_law_pot" ZO ["cell","salt"] a.f_law_pot a.d_law_pot
 g_law_take:FF K mg "_law_take" zo ["pot","many"] a.Wv a.Wu
 g_law_word:FF K mg "_law_word" zc ["pot","names"] a.WG a.WE
 g_law_line:FF K mg "_law_line" JI ["pot","names","many","k"] a.Ww a.WV
 g_law_rule:FF K mg "_law_rule" JA ["pot","names"] a.Wm a.WW
 g_law_maker:FF K mg "_law_maker" xU ["pot","names"] a.Z4 a.wK
 g_law_leaf:FF K mg "_law_leaf" JK ["pot","names"] a.w8 a.w9
 g_law_source:FF K mg "_law_source" Ja ["pot","names"] a.zK a.zW
 g_law_sources:FF K mg "_law_sources" jt ["script"] a.xZ a.Xy
 g_law_changed:FF K mg "_law_changed" jr ["pairs","pot","names"] a.Xz a.Xk
 g_law_spoilt:FF K mg "_law_spoilt" Jj ["told","pot","names"] a.zJ a.zR
 g_law_right:FF K mg "_law_right" xt ["project","other","name","pot","names"] a.wM a.wz
 g_law:FF K mg "law" s_law ["script"] a.f_law a.d_law
 qu:Cls K a.qo
 M_Machine:Mk K a.qo a.Y2
 m_Machine:mg "Machine"=some (.ref a.qo)
 yW:QH K a.qo "rows"
 wU:QH K a.qo "rule"
 XC:QH K a.qo "own"
 Qs:QH K a.qo "boxes"
 Qh:QH K a.qo "place"
 yf:QH K a.qo "done"
 Yx:QH K a.qo "given"
 qK:QH K a.qo "there"
 qO:Cls K a.qJ
 M_Going:Mk K a.qJ a.Ju
 m_Going:mg "Going"=some (.ref a.qJ)
 yY:QH K a.qJ "name"
 XH:QH K a.qJ "order"
 yF:QH K a.qJ "made_by"
 yP:QH K a.qJ "rule_asks"
 qV:QH K a.qJ "rule_run"
 Q2:QH K a.qJ "end"
 qx:Cls K a.qm
 M_PlainOrder:Mk K a.qm a.yR
 m_PlainOrder:mg "PlainOrder"=some (.ref a.qm)
 Qb:QH K a.qm "given_project"
 Qz:QH K a.qm "stack"
 Qv:QH K a.qm "under_way"
 Qu:QH K a.qm "full_runs"
 QB:QH K a.qm "found"
 yH:Cls K a.qD
 M_Project:Mk K a.qD a.YX
 m_Project:mg "Project"=some (.ref a.qD)
 Q7:QH K a.qD "by_name"
 m_MOST_SIGNS:∃t,mg "MOST_SIGNS"=some (.int 300 t)
 m_MOST_PARTS:∃t,mg "MOST_PARTS"=some (.int 40 t)
 m_MOST_SIZE:∃t,mg "MOST_SIZE"=some (.int 600 t)
 m_MOST_DEPTH:∃t,mg "MOST_DEPTH"=some (.int 12 t)
 XO:∃t,mg "MOST_NAME_SIGNS"=some (.int 24 t)
 m_LETTERS:∃t,mg "LETTERS"=some (.str "abcdefghijklmnopqrstuvwxyz" t)
 m_NAME_SIGNS:∃t,mg "NAME_SIGNS"=some (.str "abcdefghijklmnopqrstuvwxyz0123456789./" t)
 m_PERCENT:∃t,mg "PERCENT"=some (.int 37 t)
 m_MOST_LINES:∃t,mg "MOST_LINES"=some (.int 40 t)
 m_MOST_DONE:∃t,mg "MOST_DONE"=some (.int 300 t)
 m_MOST_NAMES:∃t,mg "MOST_NAMES"=some (.int 60 t)
 z_ord:mg "ord"=none
 Yd:mg "len"=none
 qP:mg "isinstance"=none
 Zh:mg "str"=none
 QD:mg "tuple"=none
 z_all:mg "all"=none
 z_int:mg "int"=none
 jf:mg "range"=none
 z_zip:mg "zip"=none
 z_dict:mg "dict"=none
 z_sorted:mg "sorted"=none
 z_abs:mg "abs"=none
 z_min:mg "min"=none
 z_sum:mg "sum"=none
 z_list:mg "list"=none
 z_bool:mg "bool"=none
theorem w6:qv ["value","sign"] ["value"] (qj ZD):=by trivial
theorem yp:qv ["value","size","waiting","pair","part","depth"] ["value"] (qj Xv):=by trivial
theorem sc_is_name:qv ["value"] ["value"] (qj wt):=by trivial
theorem sc_is_pair:qv ["value"] ["value"] (qj wy):=by trivial
theorem Xr:qv ["tree"] ["tree"] (qj yQ):=by trivial
theorem sc_is_answer:qv ["ask","answer"] ["ask","answer"] (qj xu):=by trivial
theorem WB:qv ["kind","piece","count","numbers"] ["kind","piece","count"] (qj wv):=by trivial
theorem sc_pieces_of:qv ["line","form"] ["line","form"] (qj xv):=by trivial
theorem Jw:qv ["line","count","word","form","pieces","parts"] ["line","count"] (qj Zq):=by trivial
theorem Yl:qv ["value","rows","line","row"] ["value"] (qj jU):=by trivial
theorem zx:qv ["tree","read"] ["tree"] (qj xf):=by trivial
theorem sc_bad_line:qv ["tree"] ["tree"] (qj X7):=by trivial
theorem sc_is_rule:qv ["value"] ["value"] (qj wp):=by trivial
theorem sc_text_made:qv ["boxes","own","parts"] ["boxes","own","parts"] (qj xp):=by trivial
theorem sc_self_made:qv ["boxes","own","parts"] ["boxes","own","parts"] (qj xS):=by trivial
theorem sc_copy_made:qv ["boxes","own","parts"] ["boxes","own","parts"] (qj xB):=by trivial
theorem sc_row_made:qv ["boxes","own","parts"] ["boxes","own","parts"] (qj XX):=by trivial
theorem wL:qv ["boxes","own","parts","row"] ["boxes","own","parts"] (qj X2):=by trivial
theorem Jo:qv ["boxes","own","parts","one","other"] ["boxes","own","parts"] (qj xD):=by trivial
theorem Xx:qv ["boxes","own","parts","whole"] ["boxes","own","parts"] (qj Jh):=by trivial
theorem zU:qv ["boxes","own","parts","whole"] ["boxes","own","parts"] (qj xg):=by trivial
theorem sc_size_made:qv ["boxes","own","parts"] ["boxes","own","parts"] (qj xG):=by trivial
theorem xi:qv ["boxes","own","parts","whole","between"] ["boxes","own","parts"] (qj XY):=by trivial
theorem Jt:qv ["boxes","own","parts","row","between"] ["boxes","own","parts"] (qj xc):=by trivial
theorem Zm:qv ["boxes","word","parts"] ["boxes","word","parts"] (qj Yp):=by trivial
theorem zk:qv ["word","held"] ["word","held"] (qj Yg):=by trivial
theorem wG:qv ["self","rule","own"] ["self","rule","own"] (qj YU):=by trivial
theorem wT:qv ["self"] ["self"] (qj jp):=by trivial
theorem je:qv ["self","tree","ask"] ["self","tree"] (qj Yc):=by trivial
theorem Zf:qv ["self"] ["self"] (qj Ys):=by trivial
theorem Zj:qv ["self"] ["self"] (qj YA):=by trivial
theorem j9:qv ["self"] ["self"] (qj yb):=by trivial
theorem yK:qv ["self","row","word","parts"] ["self","row"] (qj Ye):=by trivial
theorem wk:qv ["self","box","tree"] ["self","box","tree"] (qj Y0):=by trivial
theorem kC:qv ["self","name","source","order"] ["self","name","source","order"] (qj jW):=by trivial
theorem wQ:qv ["self","rule"] ["self","rule"] (qj jy):=by trivial
theorem W4:qv ["self"] ["self"] (qj Je):=by trivial
theorem Zu:qv ["self"] ["self"] (qj YV):=by trivial
theorem kJ:qv ["self","answer"] ["self","answer"] (qj Jq):=by trivial
theorem Xt:qv ["self","asks"] ["self"] (qj Jl):=by trivial
theorem Xp:qv ["self","project"] ["self","project"] (qj yO):=by trivial
theorem jd:qv ["self","project"] ["self","project"] (qj QN):=by trivial
theorem QJ:qv ["self","name","top","missing"] ["self","name"] (qj QM):=by trivial
theorem xr:qv ["self","name"] ["self","name"] (qj yr):=by trivial
theorem JN:qv ["self","going"] ["self","going"] (qj yo):=by trivial
theorem JQ:qv ["self","rule","own"] ["self","rule","own"] (qj yl):=by trivial
theorem xF:qv ["self","going"] ["self","going"] (qj yu):=by trivial
theorem yj:qv ["self","going","ask","answer"] ["self","going"] (qj yx):=by trivial
theorem yq:qv ["self","name","at_once"] ["self","name"] (qj QQ):=by trivial
theorem zi:qv ["source"] ["source"] (qj Ya):=by trivial
theorem sc_answer_by:qv ["end"] ["end"] (qj xh):=by trivial
theorem kT:qv ["name"] ["name"] (qj Jf):=by trivial
theorem J9:qv ["names","name"] ["names"] (qj jq):=by trivial
theorem kK:qv ["project","name"] ["project","name"] (qj Ji):=by trivial
theorem jA:qv ["project","names","order","name"] ["project","names"] (qj jX):=by trivial
theorem sc_stands:qv ["project","name"] ["project","name"] (qj kc):=by trivial
theorem ww:qv ["order","name","answer"] ["order","name"] (qj X0):=by trivial
theorem yw:qv ["project","other","name","one","two","names","places","asks","others","place","ask"] ["project","other","name"] (qj WX):=by trivial
theorem YD:qv ["asks","others","place"] ["asks","others"] (qj YZ):=by trivial
theorem wx:qv ["project","other","name","told"] ["project","other","name","told"] (qj Y3):=by trivial
theorem sc_is_source:qv ["value"] ["value"] (qj xj):=by trivial
theorem yE:qv ["self","sources","by_name","name","source"] ["self","sources"] (qj yS):=by trivial
theorem JR:qv ["self","name"] ["self","name"] (qj ym):=by trivial
theorem JM:qv ["self","ask"] ["self","ask"] (qj QP):=by trivial
theorem yT:qv ["names","row","name"] ["names"] (qj jj):=by trivial
theorem wW:qv ["script","k"] ["script","k"] (qj js):=by trivial
theorem Yn:qv ["cell","salt","step","big","k"] ["cell","salt"] (qj ZO):=by trivial
theorem Z2:qv ["pot","many","digit"] ["pot","many"] (qj zo):=by trivial
theorem ZT:qv ["pot","names","some"] ["pot","names"] (qj zc):=by trivial
theorem yn:qv ["pot","names","many","k","words","word","one","two","three","at"] ["pot","names","many","k"] (qj JI):=by trivial
theorem jo:qv ["pot","names","body","many","lines"] ["pot","names"] (qj JA):=by trivial
theorem YN:qv ["pot","names","asked","lines"] ["pot","names"] (qj xU):=by trivial
theorem wc:qv ["pot","names","kind"] ["pot","names"] (qj JK):=by trivial
theorem XL:qv ["pot","names","kind"] ["pot","names"] (qj Ja):=by trivial
theorem yd:qv ["script","names","pairs","k","cell"] ["script"] (qj jt):=by trivial
theorem yV:qv ["pairs","pot","names","found","k","name"] ["pairs","pot","names"] (qj jr):=by trivial
theorem QA:qv ["told","pot","names","way","numbers","last","k","word","kind","asked"] ["told","pot","names"] (qj Jj):=by trivial
theorem Q1:qv ["project","other","name","pot","names","due","made","turn","told","found"] ["project","other","name","pot","names"] (qj xt):=by trivial
theorem zS:qv ["script","names","pairs","project","pot","turn","other","name"] ["script"] (qj s_law):=by trivial
structure Ga where
 (boxes asking forms makers br bn:o3)
noncomputable def NOMK:oj Str:= ["ask","has","names","go","like","rowed","none","say","fault"]
structure Fx (K:o0)(w:og)(mg:Str->om o6)(g:Ga)(a:Ad):Prop where
 m_BOXES:mg "BOXES"=some (.ref g.boxes)
 m_ASKING:mg "ASKING"=some (.ref g.asking)
 m_FORMS:mg "FORMS"=some (.ref g.forms)
 m_MAKERS:mg "MAKERS"=some (.ref g.makers)
 boxes:∀H,SqT K H g.boxes (BX.map V.str)
 asking:∀H,SqT K H g.asking [.str "ask",.str "has",.str "names"]
 kd:KDict K w g.forms
 forms:∀x∈FRM,∃q,PySem.W.nsIn K g.forms x.1=some (some (.ref q))/\∀H,SqT K H q (x.2.map λk=>V.str k.t)
 km:KDict K w g.makers
 k_text:PySem.W.nsIn K g.makers "text"=some (some (.ref a.xo))
 k_self:PySem.W.nsIn K g.makers "self"=some (some (.ref a.xb))
 k_copy:PySem.W.nsIn K g.makers "copy"=some (some (.ref a.xw))
 k_row:PySem.W.nsIn K g.makers "row"=some (some (.ref a.X4))
 k_put:PySem.W.nsIn K g.makers "put"=some (some (.ref a.XW))
 k_join:PySem.W.nsIn K g.makers "join"=some (some (.ref a.xN))
 k_first:PySem.W.nsIn K g.makers "first"=some (some (.ref a.Jd))
 k_rest:PySem.W.nsIn K g.makers "rest"=some (some (.ref a.xQ))
 k_size:PySem.W.nsIn K g.makers "size"=some (some (.ref a.xx))
 k_cut:PySem.W.nsIn K g.makers "cut"=some (some (.ref a.X5))
 k_glue:PySem.W.nsIn K g.makers "glue"=some (some (.ref a.xz))
 k_no:∀z∈NOMK,PySem.W.nsIn K g.makers z=some none
 none_:∀z,JZ z=none->PySem.W.nsIn K g.forms z=some none
 m_BadRule:mg "BadRule"=some (.ref g.br)
 x_BadRule:PySem.W.excIn K g.br VE "ValueError.__new__"=true
 m_BadName:mg "BadName"=some (.ref g.bn)
 x_BadName:PySem.W.excIn K g.bn VE "ValueError.__new__"=true
variable {n:Nat}
theorem yJ (h:n<=1000):n<=sizeLine:=Uj (XJ h)
theorem sml (h:Nat.ble n 1000=true):n<=sizeLine:=yJ (Nat.le_of_ble_eq_true h)
theorem fits (h:n<=16000000):n<=sizeLine:=by rw [uE];omega
variable {i:Int}
theorem jl {α:Type}{xs:oj α}{c:α}(h:atI xs i=some c):c∈xs:=by
 unfold atI at h;obtain⟨j,_,e⟩:=Option.bind_eq_some_iff.mp h;exact uZ e
end K68
namespace K68
open PySem L2 PyProof.Rows
variable {z:Str}
theorem okText_long (h:300<z.length):Qy z=false:=by
 unfold Qy;rw [ug ()]
 rfl
noncomputable def isTx:D->Bool
 | .str z=>Qy z
 |_=>false
inductive Wx (vs:List V) (H:Hp) (Q:VK) (E_:XK):Prop
 |mk (v:_) (d:_) (_:vs= [v]) (_:Is H d v) (_:Q (.bl (isTx d)) H)
inductive We (vs:List V) (H:Hp) (Q:VK) (E_:XK):Prop
 |mk (v:_) (d:_) (_:vs= [v]) (_:Is H d v) (_:∀H',Same H H'->Q (.bl (isT d)) H')
noncomputable def pr (p:D×Nat):D:= .tup [p.1,.int (p.2:Int)]
theorem okText_bad {i c:Nat}(h:z.cps[i]? =some c)(O:QC c=false):Qy z=false:=by
 unfold Qy;have hm:c∈z.cps.toList:=by
  have:z.cps.toList[i]? =some c:=by simpa using h
  exact uZ this
 have:z.cps.toList.all QC=false:=by
  rw [List.all_eq_false];exact⟨c,hm,by rw [O];exact ub⟩
 rw [this,Bool.and_false]
section
variable {P:o9}{w:og}{K:o0}{mg:Str->om o6}{base:o8}{a:Ad}
theorem Wj (T:Tx K mg a):#[K,1,a.f_is_text,a.d_is_text,["value"],Wx]:=by
 exists 9,T.g_is_text,w6
 obtain⟨v,d,rfl,hv,k⟩:=h;exists _,%[@qI _ _ _ _ _ _ _ _ #[ZK,#[Qx,#[Qj,#[qz,#[qT,2,rfl],T.qP,uU,#v[pv 0,#[Q0,.ty "str",T.Zh,UI]]]]],#[xY,#[qr,op_gt,#[qz,zP,T.Yd,uJ,#v[pv 0]],#[kj,T.m_MOST_SIGNS],qy _]]].pt %[|#[qp,jN]] qw,#[jL,#[pi_str,4,pv 0],#[qX,(1),w6.nd],%[|@qI _ _ _ _ _ _ _ _ #[ZK,#[qr,op_lt_str,pv 1,ql,qy _],#[ZK,#[qr,op_gt_str,pv 1,ql,qy _],#[xY,#[qr,Qn,#[qz,call_ord,T.z_ord,boot_ord,#v[pv 1]],#[kj,T.m_PERCENT],qy _]]]].pt %[|#[qp,jN]] qw]]|#[qp,jN]]
 exists 7
 exists 0,v,"str",tyD d,isStr d,1,hv.ty,jg d,0;cases d with
 |str z=>
  obtain⟨rfl,hz⟩:=hv;refine iteF ?_;exists 0,z,1,hz,_,0,1,0;refine ite2 (λc=> ?_) (λc=> ?_)
  ·have c':(300:Int)<(z.length:Int):=uq c;have e:isTx (.str z)=false:=okText_long ()
   rwa [e] at k
  ·have c':¬(300:Int)<(z.length:Int):=λq=>c (ue q);exists 0,z,1
   let J1_:Nat->L2.St->Hp->Prop:=λi σ H'=>(∃x,σ= [some (.str z),x])/\H'=H/\(z.cps.toList.take i).all QC=true
   refine for_str J1_ ⟨⟨0⟩,1,1⟩ ?_ ?_
   ·rintro i c σ H' hc ⟨⟨x,rfl⟩,rfl,O⟩;have U:QC c=false->Q (.bl false) H':=λe=>by
     have e':isTx (.str z)=false:=okText_bad hc e;rwa [e'] at k
    exists 0,_,0,1,0;rw [show decide ((⟨#[c]⟩:Str).cps.toList<(" ":Str).cps.toList)=decide (c<32) from lt_one c 32]
    refine ite2 (λc1=> ?_) (λc1=> ?_)
    ·refine iteT (U ?_);have:=uq c1;unfold QC;rw [ug ()]
     rfl
    ·have aa:¬c<32:=λq=>c1 (ue q);exists 0,_,0,1,0;rw [show decide (("~":Str).cps.toList<(⟨#[c]⟩:Str).cps.toList)=decide (126<c) from one_gt c 126]
     refine ite2 (λc2=> ?_) (λc2=> ?_)
     ·refine iteT (U ?_);have:=uq c2;unfold QC;rw [ug (p:=c<=126) (),Bool.and_false]
      rfl
     ·have ac:¬126<c:=λq=>c2 (ue q);exists 0,0,1,1,0;refine ite2 (λc3=> ?_) (λc3=> ?_)
      ·have Z:c=37:=by
        have:=uq c3;have:=V.int.inj this;exact Int.ofNat.inj this
       exact U (by subst Z;rfl)
      ·have Z:c≠37:=λq=>c3 (ue (by rw [q];rfl))
       exists ⟨0⟩,1;rw [vS,show z.cps.toList[i]? =some c by simpa using hc,UH,O]
       show(true&&(QC c&&true))=true;unfold QC;rw [ue (),ue (p:=c<=126) (),ue Z]
       rfl
   ·rintro σ H' ⟨⟨x,rfl⟩,rfl,O⟩;have e:isTx (.str z)=true:=by
     show Qy z=true;unfold Qy;rw [uR (by simp)] at O
     rw [O,ue ()]
     rfl
    rwa [e] at k
 |_=>exact iteT (iteT k)
theorem map_snoc {α β:Type}(f:α->β)(xs:oj α)(x:α):(xs++ [x]).map f=xs.map f++ [f x]:=by simp
theorem last_at {α:Type}(us:oj α)(x:α):(us++ [x])[(us++ [x]).length-1]? =some x:=by simp
theorem drop_last {α:Type}(us:oj α)(x:α):(us++ [x]).dropLast=us:=by simp
noncomputable def Wt (v:V)(d:D)(H:Hp)(L:o3)(m:Nat)(σ:L2.St)(H':Hp):Prop:=
 ∃(n:Nat) (w:oj (D×Nat)) (ws:oj V) (x3 x4 x5:om V),σ= [some v,some (.int n),some (.ref L),x3,x4,x5]/\Same H H'/\H' L=some (.lst ws)/\IsL H' (w.map pr) ws/\G w n=isT d/\n<=600/\w.length<=1+40*n/\m=ndL (w.map (·.1))
theorem Y8 (T:Tx K mg a):#[K,2,a.f_is_tree,a.d_is_tree,["value"],We]:=by
 have ZL:=#[Wj,T];refine T.g_is_tree.F.ok yp () (λ_ _ _ _ H vs Q E hr h=> ?_)
 obtain⟨v,d,rfl,hv,k⟩:=h;exists _,%[#[qC,(1),yp.nd,qi],#[qC,(2),yp.nd,#[QW,#v[#[qB,#v[pv 0,qi]]]]],#[JE,#[pt_truth,3,pv 2,(λ_=>rfl)],%[#[qC,(3),yp.nd,#[pe_bm0,9,uV,PySem.F.slot_list_pop,PySem.F.type_list_pop,mt_pop,pv 2,_,_]],#[qC,(4),yp.nd,#[qN,qM,pv 3,qi]],#[qC,2,(5),4,yp.nd,rfl,Or.inr rfl,#[qN,qM,pv 3,qi],_,_],@qI _ _ _ _ _ _ _ _ #[pw_and,7,#[Qj,#[qz,#[qT,2,rfl],T.qP,uU,#v[pv 4,#[Q0,.ty "tuple",T.QD,vg]]]],#[pw_and1,4,#[qr,op_le,#[qz,kI,T.Yd,uJ,#v[pv 4]],#[kj,T.m_MOST_PARTS],qy _]]].pt %[#[ps_aug,2,(1),6,yp.nd,rfl,Or.inl rfl,qi,ip_add,_]|#[qY,#[jx,uV,PySem.F.slot_list_extend,PySem.F.type_list_extend,mt_extend,pv 2,#v[#[ZJ,["below","depth"],[5],lcsN (qj Xv) ["value","size","waiting","pair","part","depth"],#[ko,4,pv 4],(λ_ _ _ _ _ _=>#[qX,(0),(show List.Nodup (["below","depth"]:oj Str) by decide+kernel)]),(λ_ _ _ _ _ _=>#[qB,#v[pv 0,#[qS,QL,pv 1,qi]]])]]]]] %[|#[qI,#[Qj,#[qt,ZL,hr.mono (),T.g_is_text,#v[pv 4]]],%[|#[ps_aug,2,(1),6,yp.nd,rfl,Or.inl rfl,#[qS,QL,qi,#[qz,kI,T.Yd,uJ,#v[pv 4]]],ip_add,_]],%[|#[qp,jN]]]]|@qI _ _ _ _ _ _ _ _ #[ZK,#[qr,op_gt,pv 5,#[kj,T.m_MOST_DEPTH],qy _],#[xY,#[qr,op_gt,pv 1,#[kj,T.m_MOST_SIZE],qy _]]].pt %[|#[qp,jN]] qw]]|#[qp,jN]]
 exists 7
 have no:∀{H':Hp}{w:oj (D×Nat)}{n:Nat},Same H H'->G w n=isT d->G w n=false->Q (.bl false) H':=λ{H' w n} sm e1 e2=>by
  have q:=k H' sm;rwa [<-e1,e2] at q
 refine⟨0,(sml rfl),λt1 h1=>⟨(sml rfl),λL hL=> ?_⟩⟩;have s1:Same H (upd H t1 (.tup [v,.int 1])):=qf h1 _;have s2:Same H (upd (upd H t1 (.tup [v,.int 1])) L (.lst [.ref t1])):=s1.trans (qf hL _);have ah:H L=none:=s1.free hL;have i1:Is (upd H t1 (.tup [v,.int 1])) (pr (d,1)) (.ref t1):=Is.new (ds:= [d,.int 1]) ⟨v,0,hv,_,0,1,1⟩ h1;exists Wt v d H L,⟨_,(0),[(d,1)],[.ref t1],none,none,none,1,s2,qg,IsL.one (i1.mono (qf hL _).tk),G_start d,(),by simp,1⟩
 rintro m σ H' ⟨n,w,ws,x3,x4,x5,rfl,sm,hl,hw,hG,hn,am,rfl⟩;exists 0,!ws.isEmpty,.inl ⟨ws,SqL.of hl,1⟩;rcases List.eq_nil_or_concat w with rfl|⟨w',⟨e,j⟩,rfl⟩
 ·cases(show ws= [] from hw)
  refine iteF ?_;have q:=k H' sm;rwa [<-hG,G_nil hn] at q
 ·rw [List.concat_eq_append] at*;rw [map_snoc] at hw;obtain⟨us,x,rfl,hu,hx⟩:=hw.unsnoc;have ne:(!(us++ [x]).isEmpty)=true:=by simp
  rw [ne];refine iteT ⟨λσ' ao=>∃m',m'<ndL ((w'++ [(e,j)]).map (·.1))/\Wt v d H L m' σ' ao,λ_ _ h=>h,?_⟩;have hm:ndL ((w'++ [(e,j)]).map (·.1))=ndL (w'.map (·.1))+nd e:=by
   rw [map_snoc,X1];simp [ndL]
  have aq:w'.length<=40*n:=by
   rw [uA,vL] at am;omega
  have lu:=hu.length;rw [ua] at lu;exists 0,.inl ⟨1,_,SqL.of hl⟩,L,_,x,1,1,hl,last_at us x;rw [drop_last];have t2:Tk H' (upd H' L (.lst us)):=Tk.updL hl;have O:Same H (upd H' L (.lst us)):=λb o z=>by rw [qh (qk z ah)];exact sm b o z
  have ad:Is (upd H' L (.lst us)) (.tup [e,.int (j:Int)]) x:=hx.mono t2;have ae:IsL (upd H' L (.lst us)) (w'.map pr) us:=hu.mono t2;have U:upd H' L (.lst us) L=some (.lst us):=qg;generalize upd H' L (.lst us)=H2 at t2 O ad ae U⊢;clear t2 hl hx hu sm;refine⟨0,xq (i:=0) ad rfl λy hy=> ?_⟩;refine⟨0,xq (i:=1) ad rfl λy1 ap=> ?_⟩;cases(show y1= .int (j:Int) from ap)
  show tSeq _ _ _ _ H2;refine qG λN0 n0=>n0 _ _ ?_;exists 8,BB,bb;have tail:∀(n':Nat) (w2:oj (D×Nat)) (aa:oj V) (H3:Hp),Same H H3->H3 L=some (.lst aa)->IsL H3 (w2.map pr) aa->(j<=12->n'<=600->G w2 n'=isT d)->(12<j∨600<n'->isT d=false)->w2.length<=1+40*n'->ndL (w2.map (·.1))<ndL ((w'++ [(e,j)]).map (·.1))->
    BB [some v,some (V.int (n':Int)),some (V.ref L),some x,some y,some (V.int (j:Int))] H3:=by
   intro n' w2 aa H3 s3 l3 i3 g3 b3 ak m3;have al:isT d=false->Q (.bl false) H3:=λe=>by
    have q:=k H3 s3;rwa [e] at q
   refine bb _ _ ?_;exists 0,_,0,1,0;refine ite2 (λc=>iteT (al (b3 (.inl ?_)))) (λc=>⟨0,_,0,1,0,?_⟩)
   ·have:=uq c;omega
   ·have c':¬(12:Int)<(j:Int):=λq=>c (ue q);refine ite2 (λc2=>al (b3 (.inr ?_))) (λc2=> ?_)
    ·have:=uq c2;omega
    ·have au:¬(600:Int)<(n':Int):=λq=>c2 (ue q);exact⟨_,m3,n',w2,aa,_,_,0,s3,l3,i3,g3 () (),(),ak,1⟩
  exists 0,y,"tuple",tyD e,XN e,1,hy.ty,xk e,0;cases e with
  |tup xs=>
   refine iteT ?_;obtain⟨a0,vs,rfl,ac,af⟩:=hy;have lv:=af.length;exists 0,_,vs.length,1,.inr ⟨vs,SqT.of ac,1⟩,_,0,1,0;refine ite2 (λc=> ?_) (λc=> ?_)
   ·have c':(vs.length:Int)<=40:=uq c;exists 0,_,0,1;refine⟨0,.inl ⟨1,_,SqL.of U⟩,0,a0,vs,1,SqT.of ac,λaw A0 ag=> ?_⟩;refine lc_tupS (tl:= [some (.int (j:Int))]) (λZ=> .tup [Z,.int ((j+1:Nat):Int)]) ac af (fits ()) ag (λZ x0 H3 R _ s3 i3 r=> ?_) λH3 ys s3 l3 i3=> ?_
    ·refine⟨0,0,_,0,1,(sml rfl),λp hp=> ?_⟩;exact r _ _ (qf hp _) (Is.new (ds:= [Z,.int ((j+1:Nat):Int)]) ⟨x0,0,i3,_,0,1,1⟩ hp)
    ·have ly:=i3.length;rw [ua] at ly;have eA:A0≠L:=λz=>by rw [z,U] at ag;cases ag
     exists L,A0,us,ys,1,1,s3 _ _ U,l3,fits ()
     have t4:Tk H3 (upd H3 L (.lst (us++ys))):=Tk.updL (s3 _ _ U);have em:(w'++xs.map λZ=>(Z,j+1)).map pr=w'.map pr++xs.map λZ=> .tup [Z,.int ((j+1:Nat):Int)]:=by
      rw [uw,uN];rfl
     have ef:(w'++xs.map λZ=>(Z,j+1)).map (·.1)=w'.map (·.1)++xs:=by
      rw [uw,uN]
      congr 1
      exact List.map_id xs
     refine tail (n+1) (w'++xs.map λZ=>(Z,j+1)) (us++ys) _ (λb o z=>by rw [qh (qk z ah)];exact s3 b o (O b o z)) qg (by rw [em];exact((ae.mono s3.tk).mono t4).append (i3.mono t4)) (λh1 h2=> ?_) (λh=> ?_) ?_ ?_
     ·rw [<-hG,G_tup () h1]
     ·rw [<-hG];rcases h with h|h
      ·exact G_deep h
      ·exact G_big1 h
     ·rw [uA,ua];omega
     ·rw [ef,hm,X1];simp only [nd];omega
   ·have c':¬(vs.length:Int)<=40:=λq=>c (ue q);exists 0,_,.tup xs,1,(show Is _ (.tup xs) (.ref a0) from⟨a0,vs,1,ac,af⟩),0
    refine iteF ?_;refine no O hG (G_bad ?_);simp only [good];rw [ug ()]
    rfl
  |str z=>
   refine iteF ?_;obtain⟨rfl,hz⟩:=hy;exists 0,_,.str z,1,⟨1,hz⟩,0;cases ht:Qy z with
   |false=>
    have e1:isTx (.str z)=false:=ht;rw [e1];refine iteF ?_;refine no O hG (G_bad ?_);simp only [good];exact ht
   |true=>
    have e1:isTx (.str z)=true:=ht;rw [e1];refine iteT ?_;exists 0,0,_,z.length,1,⟨hz,1⟩,_,0,1,_,0,1;have en:(n:Int)+(1+(z.length:Int))=((n+(1+z.length):Nat):Int):=by omega
    show BB [some v,some (V.int ((n:Int)+(1+(z.length:Int)))),some (V.ref L),some x,some (V.str z),some (V.int (j:Int))] _;rw [en];refine tail (n+(1+z.length)) w' us _ O U ae (λh1 h2=> ?_) (λh=> ?_) () (by rw [hm];simp only [nd];omega)
    ·rw [<-hG,G_str ht h1]
    ·rw [<-hG];rcases h with h|h
     ·exact G_deep h
     ·refine G_big ?_;simp only [sz];omega
  |_=>
   refine iteF ?_;exact⟨0,_,0,hy,0,iteF (no O hG (G_bad rfl))⟩
noncomputable def LET:Str:="abcdefghijklmnopqrstuvwxyz"
noncomputable def NSG:Str:="abcdefghijklmnopqrstuvwxyz0123456789./"
noncomputable def nm (z:Str):Bool:=decide (1<=(z.length:Int))&&decide ((z.length:Int)<=24)&&inS ⟨#[z.cps.getD 0 0]⟩ LET&&(z.cps.toList.map λc=>inS ⟨#[c]⟩ NSG).all id
noncomputable def isNm:D->Bool
 | .str z=>nm z
 |_=>false
inductive sp_name (vs:List V) (H:Hp) (Q:VK) (E_:XK):Prop
 |mk (v:_) (d:_) (_:vs= [v]) (_:Is H d v) (_:∀H',Same H H'->Q (.bl (isNm d)) H')
theorem first_at (h:1<=z.length):atI z.cps.toList 0=some (z.cps.getD 0 0):=by
 have h':0<z.cps.size:=h;have q:z.cps.toList[0]? =some (z.cps.getD 0 0):=by simp [Array.getD,h']
 exact QF q
theorem allMap (z:Str):(z.cps.toList.map λc=>V.bl (inS ⟨#[c]⟩ NSG))=(z.cps.toList.map λc=>inS ⟨#[c]⟩ NSG).map V.bl:=by
 rw [uN]
 rfl
theorem nm_len (h:¬(1<=(z.length:Int)/\(z.length:Int)<=24)):nm z=false:=by
 unfold nm;by_cases h1:1<=(z.length:Int)
 ·have h2:¬(z.length:Int)<=24:=λq=>h ⟨h1,q⟩;rw [ug h2];simp
 ·rw [ug h1];simp
theorem nm_first (h:inS ⟨#[z.cps.getD 0 0]⟩ LET=false):nm z=false:=by
 unfold nm;rw [h];simp
theorem nm_rest (h1:1<=(z.length:Int))(h2:(z.length:Int)<=24)(h:inS ⟨#[z.cps.getD 0 0]⟩ LET=true):nm z=(z.cps.toList.map λc=>inS ⟨#[c]⟩ NSG).all id:=by
 unfold nm;rw [h,ue h1,ue h2];simp
theorem XM (T:Tx K mg a):#[K,1,a.f_is_name,a.d_is_name,["value"],sp_name]:=by
 exists 9,T.g_is_name,sc_is_name
 obtain⟨x,d,rfl,hv,k⟩:=h;exists _,%[@qI _ _ _ _ _ _ _ _ #[ZK,#[Qx,#[Qj,#[qz,#[qT,2,rfl],T.qP,uU,#v[pv 0,#[Q0,.ty "str",T.Zh,UI]]]]],#[xY,#[Qx,#[pt_chain,12,op_le,op_le,qi,#[qz,zP,T.Yd,uJ,#v[pv 0]],#[kj,T.XO],_]]]].pt %[|#[qp,jN]] qw,#[qI,#[qr,op_notIn_str,#[qN,ix_str,pv 0,qi],#[pe_gS,4,_,T.m_LETTERS,_],#[w]],%[|#[qp,jN]],qw]|#[qp,#[qz,#[Z3,1,rfl],T.z_all,boot_all,#v[#[ZJ,["sign"],[],lcs0,#[pi_str,4,pv 0],(λ_ _ _ _ _ _=>#[qX,(0),(show List.Nodup (["sign"]:oj Str) by decide+kernel)]),(λ_ _ _ _ _ _=>#[QZ,op_in_str,pv 0,#[pe_gS,4,_,T.m_NAME_SIGNS,_],#[w]])]]]]]
 exists 7
 exists 0,x,"str",tyD d,isStr d,1,hv.ty,jg d,0;cases hd:isStr d with
 |false=>
  refine iteT (iteT ?_);have:=k H (Same.refl H);have e:isNm d=false:=by cases d<;>first|rfl|simp [isStr] at hd
  rwa [e] at this
 |true=>
  obtain⟨z,rfl⟩:∃z,d= .str z:=by cases d<;>simp [isStr] at hd;exact⟨0⟩
  obtain⟨rfl,U⟩:=hv;have k:∀H',Same H H'->Q (.bl (nm z)) H':=k;refine iteF ?_;exists 0,z,1,U,_,0,1,0;have stop:nm z=false->Q (.bl false) H:=λe=>by
   have:=k H (Same.refl H);rwa [e] at this
  refine ite2 (λZ=> ?_) (λZ=> ?_)
  ·have aa:1<=(z.length:Int):=uq Z;exists _,0,1,0;by_cases O:(z.length:Int)<=24
   ·rw [ue O];refine iteF ?_;exists 0,_,_,0,1,U,first_at (),_,0,1,0
    cases e:inS ⟨#[z.cps.getD 0 0]⟩ LET with
    |false=>
     have e':(!(Builtin.Str.occurrences ("abcdefghijklmnopqrstuvwxyz":Str) ⟨#[z.cps.getD 0 0]⟩ 0 ("abcdefghijklmnopqrstuvwxyz":Str).length 1).isEmpty)=false:=e;rw [e'];refine iteT ?_;exact stop (nm_first e)
    |true=>
     have e':(!(Builtin.Str.occurrences ("abcdefghijklmnopqrstuvwxyz":Str) ⟨#[z.cps.getD 0 0]⟩ 0 ("abcdefghijklmnopqrstuvwxyz":Str).length 1).isEmpty)=true:=e;rw [e'];refine iteF ?_;refine⟨0,z,1,λD hD=> ?_⟩;refine lc_str (λc=> .bl (inS ⟨#[c]⟩ NSG)) (U) hD (λi c H' R hc sm r=>⟨0,_,0,1,r⟩) λH' sm hl=> ?_;exists D,z.cps.toList.map λc=>inS ⟨#[c]⟩ NSG,1,SqL.of (by rw [hl,allMap])
     have:=k H' sm;rwa [nm_rest aa O e] at this
   ·rw [ug O];refine iteT ?_;exact stop (nm_len λq=>O q.2)
  ·exists 0;refine iteT ?_;exact stop (nm_len λq=>Z (ue q.1))
end
noncomputable def optD:om Pt->D
 |none=> .non
 |some p=>p.d
inductive sp_part (vs:List V) (H:Hp) (Q:VK) (E_:XK):Prop
 |mk (n:Nat) (kd:Kd) (z:Str) (_:vs= [.str kd.t,.str z,.int (n:Int)]) (_:n<=40) (_:z.length<=300) (_:∀(v:V) (H':Hp),Same H H'->Is H' (optD (y6 n kd z)) v->Q v H')
inductive sp_pieces (K:PySem.W.Frag) (vs:List V) (H:Hp) (Q:VK) (E_:XK):Prop
 |mk (z:Str) (ks:List Kd) (q:Addr) (_:vs= [.str z,.ref q]) (_:z.length<=300) (_:ks.length<=3) (_:SqT K H q (ks.map λk=>V.str k.t)) (_:∀p,H p=none->Q (.ref p) (upd H p (.lst ((pcs ks z).map V.str))))
theorem Qp {c:Bool}{A B:Prop}(h:c=false)(b:B):if c=true then A else B:=by rw [A2 (by rw [h];exact ub)];exact b
theorem QK {c:Bool}{A B:Prop}(h:c=true)(a:A):if c=true then A else B:=by rw [A3 h];exact a
theorem X3 (ks:oj Kd):(ks.map λk=>V.str k.t)=(ks.map Kd.t).map V.str:=by rw [uN];rfl
theorem words_in (ks:oj Kd):inV (.str "words") (ks.map λk=>V.str k.t)=decide (Kd.words∈ks):=by
 rw [X3,zh,uX,List.mem_map];constructor
 ·rintro⟨k,O,e⟩;cases k with
  |words=>exact O
  |box=>exact absurd e ()
  |line=>exact absurd e ()
 ·intro h;exact⟨_,h,1⟩
theorem form_few:∀x∈FRM,x.2.length<=3:=by decide+kernel
variable {n:Nat}
theorem ku (h:z∉BX):y6 n .box z=none:=by
 unfold y6;exact A2 h
theorem x9 (h:z∈BX):y6 n .box z=some (.s z):=by
 unfold y6;exact A3 h
theorem wZ (h:z∉(List.range n).map λi:Nat=>(toString (1+(i:Int)):Str)):y6 n .line z=none:=by
 unfold y6;rw [Option.map_eq_none_iff,Uf];intro i hi e;exact h (A8.mpr ⟨i,hi,uq e⟩)
theorem J0 (h:z∈(List.range n).map λi:Nat=>(toString (1+(i:Int)):Str)):∃j:Int,1<=j/\j<=n/\z=(Pt.n j).t/\y6 n .line z=some (.n j):=by
 obtain⟨i,hi,e⟩:=A8.mp h;unfold y6;cases O:(List.range n).find? λi:Nat=>decide ((toString (1+(i:Int)):Str)=z) with
 |none=>exact absurd (ue e) (List.find?_eq_none.mp O i hi)
 |some j=>
  have h1:=List.find?_some O;have h2:=List.mem_range.mp (U0 O);exact⟨1+(j:Int),(),(),(uq h1).symm,by show Option.map _ _=_;rw [O];rfl⟩
section
variable {P:o9}{w:og}{K:o0}{mg:Str->om o6}{base:o8}{a:Ad}{g:Ga}
theorem ok_part (T:Tx K mg a)(C:Fx K w mg g a):#[K,1,a.f_part_of,a.d_part_of,["kind","piece","count"],sp_part]:=by
 exists 9,T.g_part_of,WB
 obtain⟨n,kd,z,rfl,hn,hz,k⟩:=h;exists _,%[#[qI,#[qr,Qn,pv 0,ql,qy _],%[|#[qp,pv 1]],qw],#[qI,#[qr,Qn,pv 0,ql,qy _],%[|#[qp,#[Q6,#[qr,QI,pv 1,#[pe_gR,C.m_BOXES],#[w]],pv 1,qU]]],qw],#[ps_setLC,2,["number"],(1),[],(3),12,WB.nd,rfl,Or.inl rfl,lcs0,rfl,#[pi_range2,7,_,T.jf,#v[qi,#[qS,QL,pv 2,qi]],_,_],(λ_ _ _ _ _ _=>#[qX,(0),(show List.Nodup (["number"]:oj Str) by decide+kernel)]),(λ_ _ _ _ _ _=> @Yo _),(λ_ _ _ _ _ _=>#[qW,Jg,T.Zh,UI,#v[pv 0]]),_,_,_]|#[qp,#[Q6,#[qr,QI,pv 1,pv 3,#[w]],#[qW,call_intS,T.z_int,boot_int,#v[pv 1]],qU]]]
 exists 7
 exists 0,1,0;cases kd with
 |words=>
  refine QK () ⟨0,?_⟩
  exact k _ H (Same.refl _) ⟨1,yJ ()⟩
 |box=>
  refine Qp () ⟨0,1,0,?_⟩
  refine QK () ⟨0,g.boxes,0,.inr (C.boxes _),1,wq _,0,?_⟩
  rw [A2 ub,zh];refine ite2 (λc=> ?_) (λc=> ?_)
  ·have U:z∈BX:=uq c;rw [x9 U] at k;exact⟨0,k _ H (Same.refl _) ⟨1,yJ ()⟩⟩
  ·have U:z∉BX:=λq=>c (ue q);rw [ku U] at k;exact k _ H (Same.refl _) rfl
 |line=>
  refine Qp () ⟨0,1,0,?_⟩
  refine Qp () ?_
  refine⟨0,_,0,1,(1),(n:Int)+1,1,⟨(),(),(),()⟩,λL hL=> ?_⟩
  rw [show((n:Int)+1-1).toNat=n by omega]
  refine Zp (lo:=1) (tl:= []) (λi ys H'=>ys=(List.range i).map (λi:Nat=>V.str (toString (1+(i:Int))))/\Same H H') (fits ()) ⟨1,qf hL _⟩ ?_ ?_
  ·rintro i ys H' hi ⟨rfl,sm⟩ O Z R hR;refine⟨0,0,?_,hR _ _ O ⟨?_,?_⟩⟩
   ·have h1:(1+(i:Int)).natAbs<=41:=by omega
    have h2:=Nat.log2_le_self (1+(i:Int)).natAbs;omega
   ·rw [List.range_succ,uw]
    rfl
   ·intro b o e;rw [qh (qk e hL)];exact sm b o e
  ·rintro ys H' ⟨rfl,sm⟩ O;have Z:(List.range n).map (λi:Nat=>V.str (toString (1+(i:Int))))=((List.range n).map λi:Nat=>(toString (1+(i:Int)):Str)).map V.str:=by rw [uN];rfl
   refine⟨0,0,L,0,.inl (SqL.of O),1,by rw [Z];exact wq _,0,?_⟩
   rw [A2 ub,Z,zh];refine ite2 (λc=> ?_) (λc=> ?_)
   ·obtain⟨j,j1,j2,rfl,ej⟩:=J0 (uq c);rw [ej] at k;have hj:=num_small j1 ()
    exact⟨0,_,j,1,W5 j1 (),uL hj.1 (),k _ _ sm rfl⟩
   ·rw [wZ λq=>c (ue q)] at k;exact k _ _ sm rfl
theorem ok_pieces (T:Tx K mg a):#[K,1,a.Z7,a.wg,["line","form"],(sp_pieces K)]:=by
 exists 9,T.g_pieces_of,sc_pieces_of,Z
 obtain⟨z,ks,q,rfl,hz,hk,U,k⟩:=h;exists _,%[#[qI,#[qr,QI,ql,pv 1,#[w]],%[|#[qp,#[jx,uS,Ub,Uc,mt_splitN,pv 0,#v[ql,#[qz,qQ,T.Yd,uJ,#v[pv 1]]]]]],qw]|#[qp,#[jx,uS,Ub,Uc,mt_split,pv 0,#v[ql]]]]
 exists 7
 refine⟨0,q,0,.inr U,1,by rw [X3];exact wq _,0,?_⟩
 rw [A2 ub,words_in];unfold pcs at k;refine ite2 (λc=> ?_) (λc=> ?_)
 ·have O:Kd.words∈ks:=uq c;rw [A3 O] at k;have h0:0<ks.length:=List.length_pos_iff.mpr λe=>by rw [e] at O;simp at O
  exact⟨0,1,0,q,0,.inr U,_,ks.length,1,by rw [ua],(),h0,(),k⟩
 ·have O:Kd.words∉ks:=λz=>c (ue z);rw [A2 O] at k;exact⟨0,1,0,1,(),k⟩
noncomputable def optR:om Rw->D
 |none=> .non
 |some r=>rowD r
noncomputable def Qi (n:Nat):D->om Rw
 | .str z=>ZZ n z
 |_=>none
inductive sp_row_of (vs:List V) (H:Hp) (Q:VK) (E_:XK):Prop
 |mk (v:V) (d:D) (n:Nat) (_:vs= [v,.int (n:Int)]) (_:Is H d v) (_:n<=40) (_:∀(v':V) (H':Hp),Same H H'->Is H' (optR (Qi n d)) v'->Q v' H')
theorem rowOfD_bad:∀{d:D},isTx d=false->Qi n d=none
 | .str z,h=>by
  show ZZ n z=none;unfold ZZ;exact A2 (by rw [show Qy z=false from h];exact ub)
 | .non,_=>rfl
 | .int _,_=>rfl
 | .bl _,_=>rfl
 | .lst,_=>rfl
 | .dct,_=>rfl
 | .tup _,_=>rfl
theorem txt_str:∀{d:D},isTx d=true->∃z,d= .str z
 | .str z,_=>⟨z,1⟩
noncomputable def jP (n:Nat)(ks:oj Kd)(zs:oj Str):oj (om Pt):=List.zipWith (y6 n) ks zs
theorem WC {n:Nat}:∀{ks:oj Kd}{zs:oj Str},(jP n ks zs).any Option.isNone=true->Yf n ks zs=none
 | [],_,h=>by simp [jP] at h
 |_::_,[],h=>by simp [jP] at h
 |k::ks,z::zs,h=>by
  rw [jP,List.zipWith_cons_cons,Uq,Bool.or_eq_true] at h;unfold Yf;rcases h with h|h
  ·rw [Option.isNone_iff_eq_none.mp h]
  ·rw [WC h];split
   ·rename_i h1 h2;cases h2
   ·rfl
theorem Wc {n:Nat}:∀{ks:oj Kd}{zs:oj Str},zs.length=ks.length->(jP n ks zs).any Option.isNone=false->∃ps,Yf n ks zs=some ps/\jP n ks zs=ps.map some
 | [],[],_,_=>⟨[],1,1⟩
 | [],_::_,hl,_=>by simp at hl
 |_::_,[],hl,_=>by simp at hl
 |k::ks,z::zs,hl,h=>by
  rw [jP,List.zipWith_cons_cons,Uq,Bool.or_eq_false_iff] at h;obtain⟨ps,O,U⟩:=Wc (ks:=ks) (zs:=zs) (by simpa using hl) h.2
  cases e:y6 n k z with
  |none=>rw [e] at h;cases h.1
  |some p=>
   refine⟨p::ps,?_,?_⟩
   ·unfold Yf;rw [e,O]
   ·rw [jP,List.zipWith_cons_cons,e,uh]
    congr 1
theorem vals_o {H:Hp}:∀{os:oj (om Pt)}{vs:oj V},L2.IsL H (os.map optD) vs->vs.all Zg=true/\inV .non vs=os.any Option.isNone
 | [],_,h=>by cases(show _= [] from h);exact⟨1,1⟩
 |q::ps,_,h=>by
  obtain⟨v,r,rfl,h1,h2⟩:=h;obtain⟨U,Z⟩:=vals_o h2;have O:Zg v=true/\eqV v .non=q.isNone:=by
   cases q with
   |none=>cases(show v= .non from h1);exact⟨1,1⟩
   |some q=>
    cases q with
    |s z=>obtain⟨rfl,_⟩:=h1;exact⟨1,1⟩
    |n i=>cases(show v= .int i from h1);exact⟨1,1⟩
  refine⟨?_,?_⟩
  ·rw [vo,O.1,U];rfl
  ·show(eqV v .non||inV .non r)=_
   rw [O.2,Z];rfl
theorem range_map {α:Type}(l:oj α)(h:α->D)(f:Nat->D)(O:∀i q,l[i]? =some q->f i=h q):(List.range l.length).map f=l.map h:=by
 apply List.ext_getElem
 ·simp
 ·intro i h1 h2;simp only [ua,List.length_range] at h1;simp only [List.getElem_map,List.getElem_range];exact O i l[i] (uj h1)
theorem ok_row_of (T:Tx K mg a)(C:Fx K w mg g a):#[K,2,a.f_row_of,a.d_row_of,["line","count"],sp_row_of]:=by
 have ZL:=#[Wj,T];have Z:=#[ok_part,T,C];have O:=#[ok_pieces,T];refine T.g_row_of.F.ok Jw () (λ_ _ _ _ H vs Q E hr h=> ?_)
 obtain⟨v,d,n,rfl,hv,hn,k⟩:=h;exists _,%[#[qI,#[Qx,#[Qj,#[qt,ZL,hr.mono (),T.g_is_text,#v[pv 0]]]],%[|#[qp,qU]],qw],#[qC,(2),Jw.nd,#[qN,qM,#[jx,uS,PySem.F.slot_str_partition,PySem.F.type_str_partition,mt_part,pv 0,#v[ql]],qi]],#[qI,#[qr,op_notK,pv 2,#[pe_gR,C.m_FORMS],#[w]],%[|#[qp,qU]],qw],#[qC,(3),Jw.nd,#[qN,ix_K,#[pe_gR,C.m_FORMS],pv 2]],#[qC,(4),Jw.nd,#[qt,O,hr.mono (),T.g_pieces_of,#v[pv 0,pv 3]]],#[qI,#[qr,op_ne,#[qz,qQ,T.Yd,uJ,#v[pv 4]],#[qS,QL,qi,#[qz,qQ,T.Yd,uJ,#v[pv 3]]],qy _],%[|#[qp,qU]],qw],#[qC,(5),Jw.nd,#[qW,qR,T.QD,vg,#v[#[ZJ,2,["kind","piece","count"],(2),[1],9,lcsN (qj Zq) ["line","count","word","form","pieces","parts"],rfl,#[pi_zip,9,_,T.z_zip,#v[pv 3,#[Qk,sl_list,pv 4,#[Qo,qi],QV]],_,_],(λ_ _ _ _ _ _=>#[pg_tupK,1,K,3,(2),1,rfl,rfl,yU #[qX,(0),(show List.Nodup (["kind","piece","count"]:oj Str) by decide+kernel)] (yU #[qX,(1),(show List.Nodup (["kind","piece","count"]:oj Str) by decide+kernel)] W8),_,_]),(λ_ _ _ _ _ _=> @Yo _),(λ_ _ _ _ _ _=>#[qt,Z,hr.mono (),T.g_part_of,#v[pv 0,pv 1,pv 2]]),_]]]]|#[qp,#[Q6,#[qr,QI,qU,pv 5,#[w]],qU,#[qB,#v[pv 2,pv 5]]]]]
 exists 7
 exists 0,v,d,1,hv,0;cases e0:isTx d with
 |false=>
  rw [rowOfD_bad e0] at k;exact QK rfl (k _ H (Same.refl _) rfl)
 |true=>
 obtain⟨z,rfl⟩:=txt_str e0;obtain⟨rfl,aq⟩:=hv;have ht:Qy z=true:=e0;have hz:z.length<=300:=by
  have U:=ht;unfold Qy at U;rw [uz,v9] at U;exact U.1
 have k:∀(v':V) (H':Hp),Same H H'->Is H' (optR (ZZ n z)) v'->Q v' H':=k;refine Qp rfl ?_;refine⟨0,1,0,1,(),λt1 x1 x2 g1=> ?_⟩
 exists t1,_,(0),0,1,SqT.of qg,1;have s1:Same H (upd H t1 (.tup [.str (hd z),.str x1,.str x2])):=qf g1 _;generalize upd H t1 (.tup [.str (hd z),.str x1,.str x2])=H1 at s1⊢;unfold ZZ at k;rw [A3 ht] at k;cases ef:JZ (hd z) with
 |none=>
  rw [ef] at k;exact⟨0,hd z,g.forms,0,1,C.kd,C.none_ _ ef,0,QK rfl (k _ _ s1 rfl)⟩
 |some ks=>
 have hk:=ze ef;rw [ef] at k;simp only at k;obtain⟨q,ag,aa⟩:=C.forms _ hk;have hf:ks.length<=3:=form_few _ hk;exists 0,hd z,g.forms,0,1,C.kd,ag,0;refine Qp rfl ?_;exists 0,hd z,g.forms,_,.ref q,1,1,C.kd,ag,1;refine⟨0,0,z,ks,q,1,hz,hf,aa _,λp2 g2=> ?_⟩;have s2:Same H1 (upd H1 p2 (.lst ((pcs ks z).map V.str))):=qf g2 _;have e2:(upd H1 p2 (.lst ((pcs ks z).map V.str))) p2=some (.lst ((pcs ks z).map V.str)):=qg;generalize upd H1 p2 (.lst ((pcs ks z).map V.str))=H2 at s2 e2⊢;exists 0,p2,0,.inl (SqL.of e2),0,q,0,.inr (aa _),_,0,1,1,0;by_cases hl:(pcs ks z).length=1+ks.length
 case neg=>
  rw [A2 hl] at k;refine QK ?_ (k _ _ (s1.trans s2) rfl);rw [ua,ua];show(!decide (V.int _=V.int _))=true;rw [ug]
  ·rfl
  ·intro q;have:((pcs ks z).length:Int)=1+(ks.length:Int):=V.int.inj q;omega
 rw [A3 hl] at k;refine Qp ?_ ?_
 ·rw [ua,ua,show((pcs ks z).length:Int)=1+(ks.length:Int) by omega]
  simp
 have ae:((pcs ks z).drop 1).length=ks.length:=by rw [vn];omega
 have ah:∀p∈(pcs ks z).drop 1,p.length<=300:=λp hp=>by
  have U:=ht;unfold Qy at U;rw [uz,v9] at U;exact(spl_ok U.1 U.2 p (List.mem_of_mem_drop hp)).1
 refine⟨0,0,0,p2,0,SqL.of e2,λp3 g3=> ?_⟩;have ak:cutV ((pcs ks z).map V.str) (some 1) none=((pcs ks z).drop 1).map V.str:=by
  rw [show(some (1:Int))=some (((1:Nat)):Int) from rfl,ZY (by rw [ua];omega),List.map_drop]
 rw [ak];generalize (pcs ks z).drop 1=zs at ae ah k⊢;have s3:Same H2 (upd H2 p3 (.lst (zs.map V.str))):=qf g3 _;have e3:(upd H2 p3 (.lst (zs.map V.str))) p3=some (.lst (zs.map V.str)):=qg;generalize upd H2 p3 (.lst (zs.map V.str))=H3 at s3 e3⊢;have am:(jP n ks zs).length=ks.length:=by rw [jP,List.length_zipWith];omega
 refine⟨q,p3,_,0,aa _,SqL.of e3,λA1 gA=> ?_⟩;refine lc_zip (K:=K) (tl:= [some (.int (n:Int))]) (xs:=ks.map λk:Kd=>V.str k.t) (ys:=zs.map V.str) (λi=>optD ((jP n ks zs).getD i none)) (λH' _=>aa H') (λH' sm=>SqL.of (sm _ _ e3)) (by simp [ae]) (by rw [ua];exact yJ ()) gA ?_ ?_
 ·intro i x y H4 R hx hy s4 hR;rw [uH] at hx hy;cases af:ks[i]? with
  |none=>rw [af] at hx;cases hx
  |some kd=>
   rw [af] at hx;cases hx;cases ac:zs[i]? with
   |none=>rw [ac] at hy;cases hy
   |some z1=>
    rw [ac] at hy;cases hy;refine⟨0,0,0,n,kd,z1,1,hn,ah _ (uZ ac),λv H5 s5 hv=>hR v H5 s5 ?_⟩;have e:(jP n ks zs).getD i none=y6 n kd z1:=by simp [List.getD,jP,List.getElem?_zipWith,af,ac]
    simp only [e];exact hv
 intro H5 vs s5 e5 h5;have al:L2.IsL H5 ((jP n ks zs).map optD) vs:=by
  rw [ua,<-am] at h5;rw [range_map (jP n ks zs) optD _ (λi q1 hi=>by simp [List.getD,hi])] at h5
  exact h5
 refine⟨A1,vs,1,.inl ⟨SqL.of e5,λt6 g6=> ?_⟩⟩;have s6:Same H5 (upd H5 t6 (.tup vs)):=qf g6 _;have i6:Is (upd H5 t6 (.tup vs)) (.tup ((jP n ks zs).map optD)) (.ref t6):=Is.new al g6;have e6:(upd H5 t6 (.tup vs)) t6=some (.tup vs):=qg;generalize upd H5 t6 (.tup vs)=H6 at s6 i6 e6⊢;obtain⟨f1,f2⟩:=vals_o al;have ad:=s1.trans (s2.trans (s3.trans (s5.trans s6)));exists 0,t6,vs,1,.inr (SqT.of e6),1,f1,0;rw [A2 ub,f2];refine ite2 (λc=> ?_) (λc=> ?_)
 ·rw [WC c] at k;exact k _ _ ad rfl
 ·have c':(jP n ks zs).any Option.isNone=false:=by
   cases h:(jP n ks zs).any Option.isNone with
   |false=>rfl
   |true=>exact absurd h c
  obtain⟨ps,q1,q2⟩:=Wc ae c';rw [q1] at k;rw [q2,uN] at i6;refine⟨0,0,(sml rfl),λt7 g7=> ?_⟩;have ao:(hd z).length<=sizeLine:=by
   have ap:∀x∈FRM,x.1.length<=100:=by decide+kernel
   have:=ap _ hk;exact yJ (by simp only at this;omega)
  exact k _ _ (ad.trans (qf g7 _)) (Is.new (ds:= [.str (hd z),.tup (ps.map Pt.d)]) ⟨_,0,⟨1,ao⟩,_,0,i6,1⟩ g7)
theorem part_line {M:Nat}(hn:n<=40){k:Kd}{p:Pt}(h:ptOk n M k p):y6 n k p.t=some p:=by
 cases k with
 |words=>
  cases p with
  |s z=>rfl
  |n i=>cases h
 |box=>
  cases p with
  |s z=>exact x9 h
  |n i=>cases h
 |line=>
  cases p with
  |s z=>cases h
  |n i=>
   have h1:1<=i/\i<=n:=h;have hm:(Pt.n i).t∈(List.range n).map λi:Nat=>(toString (1+(i:Int)):Str):=A8.mpr ⟨(i-1).toNat,List.mem_range.mpr (),by show(toString (1+(((i-1).toNat:Nat):Int)):Str)=toString i;rw [show 1+(((i-1).toNat:Nat):Int)=i by omega]⟩
   obtain⟨j,U,j2,Z,e⟩:=J0 hm;rw [e];have b1:=W5 (i:=i) h1.1 ()
   have b2:=W5 (i:=j) U ()
   have O:(toString i:Str)=toString j:=Z;rw [O,b2] at b1;rw [uI b1]
theorem Wo {n M:Nat}(hn:n<=40):∀{ks:oj Kd}{ps:oj Pt},xm n M ks ps->Yf n ks (ps.map Pt.t)=some ps
 | [],[],_=>rfl
 |k::ks,p::ps,h=>by
  rw [uh];unfold Yf;rw [part_line hn h.1,Wo hn h.2]
 | [],_::_,h=>h.elim
 |_::_,[],h=>h.elim
variable {ks:oj Kd}
theorem form_line {w:Str}(h:(w,ks)∈FRM):JZ w=some ks:=by
 cases e:JZ w with
 |none=>exact absurd rfl (wf e _ h)
 |some O=>
  have:=form_nd _ (ze e) _ h rfl;rw [(Prod.mk.inj this).2]
variable {r:Rw}
theorem rowOf_line {M:Nat}(hn:n<=40)(h:jO n M r)(Z:Qy (y8 r)=true):ZZ n (y8 r)=some r:=by
 have hh:=line_hd h;obtain⟨ks,U,O⟩:=h;unfold ZZ;rw [A3 Z,hh,form_line U];simp only;have hs:pcs ks (y8 r)=txs r:=line_spl hn U O;have hl:=zL O;rw [hs,A3 (by unfold txs;rw [um,ua];omega)]
 show Option.map _ (Yf n ks (r.2.map Pt.t))=_;rw [Wo hn O]
 rfl
noncomputable def xy (rs:oj Rw):D:= .tup (rs.map λr=> .str (y8 r))
structure ye (rs:oj Rw):Prop where
 n0:1<=rs.length
 n1:rs.length<=40
 ok:∀r∈rs,jO rs.length 300 r
 tree:isT (xy rs)=true
theorem goodL_mem:∀{ds:oj D}{d:D},goodL ds=true->d∈ds->good d=true
 |x::xs,d,h,hm=>by
  simp only [goodL,uz] at h;rcases A5.mp hm with rfl|hm
  ·exact h.1
  ·exact goodL_mem h.2 hm
variable {rs:oj Rw}
theorem ye.text (h:ye rs)(O:r∈rs):Qy (y8 r)=true:=by
 have h1:=h.tree;unfold isT at h1;rw [uz,uz] at h1;have h2:=h1.1.1;unfold xy at h2;simp only [good,uz] at h2;have:=goodL_mem h2.2 (A8.mpr ⟨r,O,1⟩)
 simpa only [good] using this
noncomputable def yc:D->om (oj Rw)
 | .tup ds=>if(decide (1<=ds.length)&&decide (ds.length<=40)&&ds.all (λd=>(Qi ds.length d).isSome)&&isT (.tup ds))=true then some (ds.filterMap (Qi ds.length)) else none
 |_=>none
theorem Xc (ds:oj D):yc (.tup ds)=if(decide (1<=ds.length)&&decide (ds.length<=40)&&ds.all (λd=>(Qi ds.length d).isSome)&&isT (.tup ds))=true then some (ds.filterMap (Qi ds.length)) else none:=rfl
theorem rows_back {n:Nat}:∀{rs:oj Rw},(∀r∈rs,Qi n (.str (y8 r))=some r)->(rs.map λr=>D.str (y8 r)).filterMap (Qi n)=rs
 | [],_=>rfl
 |r::rs,h=>by
  rw [uh,U3 (h r uf),rows_back λx O=>h x (uc _ O)]
theorem ye.rowD (h:ye rs)(O:r∈rs):Qi rs.length (.str (y8 r))=some r:=rowOf_line h.n1 (h.ok r O) (h.text O)
theorem ye.read (h:ye rs):yc (xy rs)=some rs:=by
 have Z:(rs.map λr=>D.str (y8 r)).length=rs.length:=ua ..;have U:=h.tree;unfold xy at U⊢;rw [Xc,Z,A3]
 ·rw [rows_back λr O=>h.rowD O]
 ·rw [ue h.n0,ue h.n1,U,List.all_eq_true.mpr]
  ·rfl
  ·intro d hd;obtain⟨r,O,rfl⟩:=A8.mp hd;rw [h.rowD O]
   rfl
noncomputable def RdOk (d x y:D):Prop:=(∀rs,yc d=some rs->x= .tup (rs.map L2.rowD)/\y= .non)/\(yc d=none->∃i:Int,y= .int i)
inductive sp_read (vs:List V) (H:Hp) (Q:VK) (E_:XK):Prop
 |mk (v:V) (d:D) (_:vs= [v]) (_:Is H d v) (_:∀(u:V) (H':Hp) (x y:D),Same H H'->RdOk d x y->Is H' (.tup [x,y]) u->Q u H')
variable {i:Int}
theorem rd_bad {d x:D}(h:yc d=none):RdOk d x (.int i):=⟨λrs e=>(by rw [h] at e;cases e),λ_=>⟨i,1⟩⟩
theorem XI {α:Type}{o:om α}(h:o.isSome=true):∃x,o=some x:=by cases o with
 |none=>cases h
 |some x=>exact⟨x,1⟩
variable {ds:oj D}
theorem rows_take {i:Nat}{d:D}(h1:ds[i]? =some d)(h2:Qi n d=some r):(ds.take (i+1)).filterMap (Qi n)=(ds.take i).filterMap (Qi n)++ [r]:=by
 rw [vS,h1,List.filterMap_append];simp [h2]
theorem rows_len {n:Nat}:∀{ds:oj D},(∀z∈ds,(Qi n z).isSome=true)->(ds.filterMap (Qi n)).length=ds.length
 | [],_=>rfl
 |z::ds,h=>by
  obtain⟨r,e⟩:=XI (h z uf);rw [U3 e,um,um];exact congrArg (·+1) (rows_len λy O=>h y (uc _ O))
theorem ok_read (T:Tx K mg a)(C:Fx K w mg g a):#[K,3,a.zr,a.zp,["value"],sp_read]:=by
 have yy:=#[Y8,T];have aa:=#[ok_row_of,T,C];refine T.g_read_lines.F.ok Yl () (λ_ _ _ _ H vs Q E hr h=> ?_)
 obtain⟨v,d,rfl,hv,k⟩:=h;exists _,%[@qI _ _ _ _ _ _ _ _ #[ZK,#[Qx,#[Qj,#[qz,#[qT,2,rfl],T.qP,uU,#v[pv 0,#[Q0,.ty "tuple",T.QD,vg]]]]],#[xY,#[Qx,#[pt_chain,12,op_le,op_le,qi,#[qz,qQ,T.Yd,uJ,#v[pv 0]],#[kj,T.m_MOST_LINES],_]]]].pt %[|#[qp,#[qB,#v[#[qB,qd],qi]]]] qw,#[qC,(1),Yl.nd,#[QW,qd]],#[jL,#[pi_tup,4,pv 0],#[qX,(2),Yl.nd],%[#[qC,(3),Yl.nd,#[qt,aa,hr.mono (),T.g_row_of,#v[pv 2,#[qz,qQ,T.Yd,uJ,#v[pv 0]]]]],#[qI,#[qr,yX,pv 3,qU,qy _],%[|#[qp,#[qB,#v[#[qW,qR,T.QD,vg,#v[pv 1]],#[qS,QL,#[qz,qQ,T.Yd,uJ,#v[pv 1]],qi]]]]],qw]|#[qY,#[jx,uV,vy,vz,Yv,pv 1,#v[pv 3]]]]]|#[qp,#[qB,#v[#[qW,qR,T.QD,vg,#v[pv 1]],#[Q6,#[Qj,#[qt,yy,hr.mono (),T.g_is_tree,#v[pv 0]]],qU,qi]]]]]
 exists 7
 exists 0,v,"tuple",_,XN d,1,hv.ty,xk d,0;have U:yc d=none->∀(t:o3),H t=none->∀t2,(upd H t (.tup [])) t2=none->Q (.ref t2) (upd (upd H t (.tup [])) t2 (.tup [.ref t,.int 1])):=λhn t g t2 Z=>
  k _ _ (.tup []) (.int 1) ((qf g _).trans (qf Z _)) (rd_bad hn) (Is.new (ds:= [.tup [],.int 1]) ⟨_,0,Is.new (ds:= []) rfl g,_,0,1,1⟩ Z)
 cases ht:XN d with
 |false=>
  have hn:yc d=none:=by
   cases d with
   |tup ds=>cases ht
   |_=>rfl
  exact iteT (iteT ⟨(sml rfl),λt g1=>⟨(sml rfl),λt2 Z=>U hn t g1 t2 Z⟩⟩)
 |true=>
 obtain⟨ds,rfl⟩:∃ds,d= .tup ds:=by
  cases d with
  |tup ds=>exact⟨ds,1⟩
  |_=>cases ht
 refine iteF ?_;have ad:=hv;obtain⟨va,us,rfl,ha,hu⟩:=ad;have ae:us.length=ds.length:=hu.length;exists 0,va,us,1,.inr (SqT.of ha),_,0,1,0;have no:¬(1<=ds.length/\ds.length<=40/\(∀z∈ds,(Qi ds.length z).isSome=true)/\isT (.tup ds)=true)->yc (.tup ds)=none:=λhc=>by
  unfold yc;refine A2 λz=>hc ?_;simp only [uz,v9,U9] at z;exact⟨z.1.1.1,z.1.1.2,z.1.2,z.2⟩
 by_cases c1:1<=ds.length
 case neg=>
  refine Qp (ug ()) ⟨0,?_⟩
  exact iteT ⟨(sml rfl),λt g1=>⟨(sml rfl),λt2 Z=>U (no λz=>c1 z.1) t g1 t2 Z⟩⟩
 refine QK (ue ()) ?_
 exists _,0,1,0;by_cases c2:ds.length<=40
 case neg=>
  refine QK (by rw [ug ()];rfl) ?_
  exact⟨(sml rfl),λt g1=>⟨(sml rfl),λt2 Z=>U (no λz=>c2 z.2.1) t g1 t2 Z⟩⟩
 refine Qp (by rw [ue ()];rfl) ?_
 refine⟨(sml rfl),λL1 g1=> ?_⟩;exists 0,va,1,⟨us,SqT.of (qf g1 _ _ _ ha)⟩
 let J1_:Nat->L2.St->Hp->Prop:=λi σ H'=>i<=ds.length/\(∀z∈ds.take i,(Qi ds.length z).isSome=true)/\∃(ws:oj V) (x2 x3:om V),σ= [some (.ref va),some (.ref L1),x2,x3]/\H' L1=some (.lst ws)/\L2.IsL H' (((ds.take i).filterMap (Qi ds.length)).map L2.rowD) ws/\Same H H'
 refine kP (K:=K) (a:=va) (xs:=us) J1_
  ⟨v7 _,(λz hz=>by simp at hz),[],none,none,1,qg,1,qf g1 _⟩ (λi σ H' _ ⟨_,_,_,_,_,_,_,_,sm⟩=>SqT.of (sm _ _ ha)) ?_ ?_
 ·rintro i x σ H' hx ⟨ak,O,ws,x2,x3,rfl,e1,hw,sm⟩;have ac:i<ds.length:=by
   obtain⟨h,_⟩:=Aa.mp hx;omega
  obtain⟨x',af,al⟩:=hu.get (i:=i) (d:=ds[i]) (uj ac);rw [hx] at af;cases af;have am:ws.length=i:=by
   rw [hw.length,ua,rows_len O,vP];omega
  refine⟨0,0,va,us,1,.inr (SqT.of (sm _ _ ha)),x,ds[i],ds.length,by rw [ae];rfl,al.mono sm.tk,c2,λv H2 s2 hv=> ?_⟩
  have e2:=s2 _ _ e1;cases er:Qi ds.length ds[i] with
  |some r=>
   rw [er] at hv;have hv:Is H2 (L2.rowD r) v:=hv;have ad:=hv;obtain⟨ag,ao,rfl,_,_⟩:=ad;exists 0,1,0;refine Qp (ug λz=>by cases z) ?_
   exists 0,.inl ⟨1,_,SqL.of e2⟩,0,L1,ws,0,1,e2,XJ ()
   have t3:Tk H2 (upd H2 L1 (.lst (ws++ [.ref ag]))):=Tk.updL e2;refine⟨ac,λz hz=> ?_,ws++ [.ref ag],_,0,qg,?_,λb o e=> ?_⟩
   ·rw [vS,uj ac] at hz;rcases A7.mp hz with hz|hz
    ·exact O z hz
    ·have:z=ds[i]:=by simpa using hz
     rw [this,er]
     rfl
   ·rw [rows_take (uj ac) er,uw];exact((hw.mono s2.tk).mono t3).append (IsL.one (hv.mono t3))
   ·rw [qh (qk e g1)];exact s2 b o (sm b o e)
  |none=>
   rw [er] at hv;cases(show v= .non from hv)
   exists 0,1,0;refine QK rfl ?_;refine⟨0,L1,ws,1,.inl ⟨SqL.of e2,λt1 Z=> ?_⟩⟩;have s3:Same H2 (upd H2 t1 (.tup ws)):=qf Z _;have i3:Is (upd H2 t1 (.tup ws)) (.tup (((ds.take i).filterMap (Qi ds.length)).map L2.rowD)) (.ref t1):=Is.new (hw.mono s2.tk) Z;refine⟨0,L1,ws,1,.inl (SqL.of (s3 _ _ e2)),_,0,1,(sml rfl),λt4 g4=> ?_⟩;exact k _ _ _ (.int _) (sm.trans (s2.trans (s3.trans (qf g4 _)))) (rd_bad (no λz=>by have:=z.2.2.1 _ (vd ac);rw [er] at this;cases this)) (Is.new (ds:= [.tup (((ds.take i).filterMap (Qi ds.length)).map L2.rowD),.int _]) ⟨_,0,i3,_,0,1,1⟩ g4)
 ·rintro σ H' ⟨ak,O,ws,x2,x3,rfl,e1,hw,sm⟩;rw [ae,UV] at hw O;refine⟨0,L1,ws,1,.inl ⟨SqL.of e1,λt1 Z=> ?_⟩⟩;have s2:Same H' (upd H' t1 (.tup ws)):=qf Z _;have i2:Is (upd H' t1 (.tup ws)) (.tup ((ds.filterMap (Qi ds.length)).map L2.rowD)) (.ref t1):=Is.new hw Z;generalize upd H' t1 (.tup ws)=H2 at s2 i2⊢;refine⟨0,_,.tup ds,1,hv.mono (sm.trans s2).tk,λH3 s3=> ?_⟩;exists 0;cases hT:isT (.tup ds) with
  |true=>
   refine QK rfl ⟨(sml rfl),λt4 g4=> ?_⟩;have ah:yc (.tup ds)=some (ds.filterMap (Qi ds.length)):=by
    rw [Xc,A3];rw [ue c1,ue c2,hT,List.all_eq_true.mpr O]
    rfl
   exact k _ _ _ .non (sm.trans (s2.trans (s3.trans (qf g4 _)))) ⟨λrs e=>(by rw [ah] at e;cases e;exact⟨1,1⟩),λe=>(by rw [ah] at e;cases e)⟩ (Is.new (ds:= [.tup ((ds.filterMap (Qi ds.length)).map L2.rowD),.non]) ⟨_,0,i2.mono s3.tk,_,0,1,1⟩ g4)
  |false=>
   refine Qp rfl ⟨(sml rfl),λt4 g4=> ?_⟩;exact k _ _ _ (.int 1) (sm.trans (s2.trans (s3.trans (qf g4 _)))) (rd_bad (no λz=>by have:=z.2.2.2;rw [hT] at this;cases this)) (Is.new (ds:= [.tup ((ds.filterMap (Qi ds.length)).map L2.rowD),.int 1]) ⟨_,0,i2.mono s3.tk,_,0,1,1⟩ g4)
inductive sp_rows (br:Addr) (vs:List V) (H:Hp) (Q:VK) (E:XK):Prop
 |mk (v:V) (d:D) (_:vs= [v]) (_:Is H d v) (_:(∀rs,yc d=some rs->∀(u:V) (H':Hp),Same H H'->Is H' (.tup (rs.map L2.rowD)) u->Q u H')) (_:(yc d=none->∀(e:Addr) (H':Hp),Same H H'->E (.ref e) (some br) H'))
theorem ok_rows (T:Tx K mg a)(C:Fx K w mg g a):FnOk P w K mg base (CX1 P w) 4 a.wA a.wu ["tree"] (sp_rows g.br):=by
 have Jx:=#[ok_read,T,C];refine T.g_rule_rows.F.okX zx () (λ_ _ _ _ H _ Q E hr h=> ?_)
 obtain⟨v,d,rfl,hv,k,kB⟩:=h;exists _,%[#[qC,(1),zx.nd,#[qt,Jx,hr.mono (),T.g_read_lines,#v[pv 0]]],#[qI,#[qr,ZP,#[qN,qM,pv 1,qi],qU,qy _],%[|#[ps_raise,22,C.x_BadRule,_,C.m_BadRule,ql,_,_]],qw]|#[qp,#[qN,qM,pv 1,qi]]]
 exists 7
 refine⟨0,v,d,1,hv,λu H1 x y s1 hd U=> ?_⟩;exists 0;dsimp only [tC];refine xq (i:=1) (d:=y) U rfl λz Z=> ?_;cases O:yc d with
 |none=>
  obtain⟨i,rfl⟩:=hd.2 O;cases(show z= .int i from Z)
  exists 1,0;refine QK (by rw [ug (λz=>by cases z)];rfl) ?_
  exact⟨1,λe=>kB O e H1 s1⟩
 |some rs=>
  obtain⟨rfl,rfl⟩:=hd.1 rs O;cases(show z= .non from Z)
  exists 1,0;refine Qp rfl ?_;exists 0;dsimp only [tC];refine xq (i:=0) (d:= .tup (rs.map L2.rowD)) U rfl λq hq=> ?_;exact k rs O q H1 s1 hq
noncomputable def kvB (f:Str->V):oj (Key×V):=BX.map λz=>(Sum.inr z,f z)
theorem val_B {f:Str->V}:∀{zs:oj Str}{z:Str},z∈zs->valV (zs.map λz=>((Sum.inr z:Key),f z)) (Sum.inr z)=some (f z)
 |y::ys,z,h=>by
  rw [uh];by_cases e:y=z
  ·subst e;exact QO rfl
  ·have h':z∈ys:=by
    rcases A5.mp h with rfl|h
    ·exact absurd rfl e
    ·exact h
   have:=val_B (f:=f) h';unfold valV at this⊢;rw [uY];have O:decide ((Sum.inr y:Key)=Sum.inr z)=false:=ug λq=>e (Ui q);simp only [O];exact this
variable {u:V}
theorem put_B {f:Str->V}(h:z∈BX):putK (kvB f) (Sum.inr z) u=kvB λy=>if y=z then u else f y:=by
 unfold putK;rw [A3]
 ·unfold kvB;rw [uN];refine U7 λy _=> ?_;by_cases e:y=z
  ·simp [e]
  ·simp [e]
 ·rw [List.any_eq_true];exact⟨(Sum.inr z,f z),A8.mpr ⟨z,h,1⟩,by simp⟩
noncomputable def Ym (H:Hp)(d:o3)(B:Str->D):Prop:=∃f:Str->V,H d=some (.dK (kvB f))/\∀z∈BX,Is H (B z) (f z)
noncomputable def setB (B:Str->D)(z:Str)(e:D):Str->D:=λy=>if y=z then e else B y
variable {H H':Hp}
theorem Ym.same {d:o3}{B:Str->D}(h:Ym H d B)(s:Same H H'):Ym H' d B:=let⟨f,e,i⟩:=h;⟨f,s _ _ e,λz O=>(i z O).mono s.tk⟩
theorem Ym.move {d:o3}{B:Str->D}(h:Ym H d B)(t:Tk H H')(e:H' d=H d):Ym H' d B:=let⟨f,e1,i⟩:=h;⟨f,e.trans e1,λz O=>(i z O).mono t⟩
theorem Ym.get {d:o3}{B:Str->D}(h:Ym H d B)(O:z∈BX):∃v,DGet H d (.str z) (some v)/\Is H (B z) v:=by
 obtain⟨f,e,i⟩:=h;refine⟨f z,?_,i z O⟩;have:=DGet.k (k:=(Sum.inr z:Key)) e;rw [show valV (kvB f) (Sum.inr z)=some (f z) from val_B O] at this
 exact this
variable {e:D}
theorem Ym.put {d:o3}{B:Str->D}(h:Ym H d B)(U:z∈BX)(Z:Is H e u):∃kvs,DPut H d (.str z) u (upd H d (.dK kvs))/\Ym (upd H d (.dK kvs)) d (setB B z e)/\Tk H (upd H d (.dK kvs)):=by
 obtain⟨f,O,i⟩:=h;refine⟨kvB λy=>if y=z then u else f y,.inl ⟨_,Sum.inr z,O,1,by show BX.length<sizeLine;rw [uE];decide,by rw [put_B U]⟩,⟨_,qg,λy hy=> ?_⟩,Tk.updD O⟩
 have t:Tk H (upd H d (.dK (kvB λy=>if y=z then u else f y))):=Tk.updD O
 unfold setB;by_cases c:y=z
 ·rw [A3 c,A3 c];exact Z.mono t
 ·rw [A2 c,A2 c];exact(i y hy).mono t
noncomputable def JW:oj D->Bool
 | []=>true
 | .str _::r=>JW r
 |_=>false
noncomputable def J5:oj D->oj Str
 | .str z::r=>z::J5 r
 |_=> []
noncomputable def b0 (ps:oj Pt):Str:=(ps.getD 0 (.s "")).t
noncomputable def b1 (ps:oj Pt):Str:=(ps.getD 1 (.s "")).t
noncomputable def b2 (ps:oj Pt):Str:=(ps.getD 2 (.s "")).t
noncomputable def firstD:D->D
 | .str z=>if z.length=0 then .non else .str ⟨#[z.cps.getD 0 0]⟩
 | .tup (x::_)=>x
 |_=> .non
noncomputable def restD:D->D
 | .str z=>if z.length=0 then .non else .str (Txt.slice z (some 1) none)
 | .tup (_::r)=> .tup r
 |_=> .non
noncomputable def lenD:D->Nat
 | .str z=>z.length
 | .tup xs=>xs.length
 |_=>0
noncomputable def putD:D->D->D
 | .tup xs,e=> .tup (xs++ [e])
 |_,_=> .non
noncomputable def joinD:D->D->D
 | .str x,.str y=> .str (x++y)
 |_,_=> .non
noncomputable def cutD:D->D->D
 | .str z,.str y=>if y.length=0 then .non else .tup ((spG z y).map .str)
 |_,_=> .non
noncomputable def glueD:D->D->D
 | .tup xs,.str y=>if JW xs=true then .str (Str.join y (J5 xs)) else .non
 |_,_=> .non
noncomputable def made (w:Str)(B:Str->D)(own:Str)(ps:oj Pt):D:=
 if w="text" then .str (b1 ps) else if w="self" then .str own else if w="copy" then B (b1 ps) else if w="row" then .tup [] else
 if w="put" then putD (B (b0 ps)) (B (b1 ps)) else if w="join" then joinD (B (b0 ps)) (B (b1 ps)) else if w="first" then firstD (B (b1 ps)) else if w="rest" then restD (B (b1 ps)) else
 if w="size" then .str (toString ((lenD (B (b1 ps)):Nat):Int)) else if w="cut" then cutD (B (b1 ps)) (B (b2 ps)) else glueD (B (b1 ps)) (B (b2 ps))
variable {ps:oj Pt}
theorem QT {m:Nat}{w:Str}(h:jO n m (w,ps))(O:(w,ks)∈FRM):xm n m ks ps:=by
 obtain⟨U,h1,h2⟩:=h;have:=form_nd _ h1 _ O rfl;cases this;exact h2
theorem sh_b {m:Nat}(h:xm n m [.box] ps):∃x,ps= [.s x]/\x∈BX:=by
 match ps,h with
 | [.s x],h=>exact⟨x,1,h.1⟩
 | [.n _],h=>exact h.1.elim
theorem ZQ {m:Nat}(h:xm n m [.box,.box] ps):∃x y,ps= [.s x,.s y]/\x∈BX/\y∈BX:=by
 match ps,h with
 | [.s x,.s y],h=>exact⟨x,y,1,h.1,h.2.1⟩
 | [.n _,_],h=>exact h.1.elim
 | [.s _,.n _],h=>exact h.2.1.elim
theorem sh_bbb {m:Nat}(h:xm n m [.box,.box,.box] ps):∃x y z,ps= [.s x,.s y,.s z]/\x∈BX/\y∈BX/\z∈BX:=by
 match ps,h with
 | [.s x,.s y,.s z],h=>exact⟨x,y,z,1,h.1,h.2.1,h.2.2.1⟩
 | [.n _,_,_],h=>exact h.1.elim
 | [.s _,.n _,_],h=>exact h.2.1.elim
 | [.s _,.s _,.n _],h=>exact h.2.2.1.elim
theorem sh_bw {m:Nat}(h:xm n m [.box,.words] ps):∃x y,ps= [.s x,.s y]/\x∈BX/\y.length<=m/\y.cps.toList.all QC=true:=by
 match ps,h with
 | [.s x,.s y],h=>exact⟨x,y,1,h.1,h.2.1⟩
 | [.n _,_],h=>exact h.1.elim
 | [.s _,.n _],h=>exact h.2.1.elim
theorem sh_bl {m:Nat}(h:xm n m [.box,.line] ps):∃x,∃i:Int,ps= [.s x,.n i]/\x∈BX/\1<=i/\i<=n:=by
 match ps,h with
 | [.s x,.n i],h=>exact⟨x,i,1,h.1,h.2.1⟩
 | [.n _,_],h=>exact h.1.elim
 | [.s _,.s _],h=>exact h.2.1.elim
theorem sh_bbl {m:Nat}(h:xm n m [.box,.box,.line] ps):∃x y,∃i:Int,ps= [.s x,.s y,.n i]/\x∈BX/\y∈BX/\1<=i/\i<=n:=by
 match ps,h with
 | [.s x,.s y,.n i],h=>exact⟨x,y,i,1,h.1,h.2.1,h.2.2.1⟩
 | [.n _,_,_],h=>exact h.1.elim
 | [.s _,.n _,_],h=>exact h.2.1.elim
 | [.s _,.s _,.s _],h=>exact h.2.2.1.elim
noncomputable def PtsAt (H:Hp)(t:o3)(ps:oj Pt):Prop:=Is H (.tup (ps.map Pt.d)) (.ref t)
noncomputable def Tr (B:Str->D):Prop:=∀z∈BX,isT (B z)=true
inductive Xm (w:Str) (vs:List V) (H:Hp) (Q:VK) (E_:XK):Prop
 |mk (d t:Addr) (own:Str) (B:Str->D) (ps:List Pt) (n:Nat) (_:vs= [.ref d,.str own,.ref t]) (_:Ym H d B) (_:Tr B) (_:own.length<=100) (_:jO n 300 (w,ps)) (_:PtsAt H t ps) (_:∀(v:V) (H':Hp),Same H H'->Is H' (made w B own ps) v->Q v H')
variable {Q:VK}
theorem box_at {K:o0}{t:o3}{i:Nat}(h:PtsAt H t ps)(e:ps[i]? =some (.s z))(q:Q (.str z) H):rIxT K (.ref t) (.int (i:Int)) H Q:=
 xq (d:= .str z) h (QF (by rw [uH,e];rfl)) λx O=>by obtain⟨rfl,_⟩:=O;exact q
theorem JX {d:D}(h:isT d=true):dp d<=12:=by
 unfold isT at h;rw [uz] at h;exact uq h.2
theorem isT_sz {d:D}(h:isT d=true):sz d<=600:=by
 unfold isT at h;rw [uz,uz] at h;exact uq h.1.2
theorem YY {d:D}(h:isT d=true):lenD d<=600:=by
 have h1:=isT_sz h;cases d with
 |str z=>simp only [sz] at h1;show z.length<=600;omega
 |tup xs=>
  unfold isT at h;rw [uz,uz] at h;have h2:=h.1.1;simp only [good,uz] at h2;have:=uq h2.1;show xs.length<=600;omega
 |_=>exact v7 _
theorem app_len (z y:Str):(z++y:Str).length=z.length+y.length:=by
 show(z.cps++y.cps).size=z.cps.size+y.cps.size;exact Array.size_append
theorem bget {K:o0}{t d:o3}{B:Str->D}{i:Nat}(O:Ym H d B)(h:PtsAt H t ps)(e:ps[i]? =some (.s z))(U:z∈BX)(q:∀v,Is H (B z) v->Q v H):rIxT K (.ref t) (.int (i:Int)) H (λy H2=>ItDGet Q (.ref d) y H2):=by
 obtain⟨v,Z,iv⟩:=O.get U;exact box_at h e ⟨d,v,1,Z,q v iv⟩
theorem ok_text (T:Tx K mg a):#[K,1,a.xo,a.Zt,["boxes","own","parts"],(Xm "text")]:=by
 exists 9,T.g_text_made,sc_text_made,Z
 obtain⟨d,t,own,B,ps,n,rfl,hB,hT,ho,O,U,k⟩:=h;exists _,%[|#[qp,#[qN,qM,pv 2,qi]]]
 exists 7
 obtain⟨x,y,rfl,hx,hy,hs⟩:=sh_bw (QT O ())
 exact⟨0,box_at (i:=1) U rfl (k _ H (Same.refl _) ⟨1,yJ (by show y.length<=1000;omega)⟩)⟩
theorem ok_self (T:Tx K mg a):#[K,1,a.xb,a.wB,["boxes","own","parts"],(Xm "self")]:=by
 exists 9,T.g_self_made,sc_self_made,U
 obtain⟨d,t,own,B,ps,n,rfl,Z,hT,ho,O,hp,k⟩:=h;exists _,%[|#[qp,pv 1]]
 exists 7
 exact⟨0,k _ H (Same.refl _) ⟨1,yJ (by show own.length<=1000;omega)⟩⟩
theorem ok_row (T:Tx K mg a):#[K,1,a.X4,a.WI,["boxes","own","parts"],(Xm "row")]:=by
 exists 9,T.g_row_made,sc_row_made,Z
 obtain⟨d,t,own,B,ps,n,rfl,hB,hT,ho,U,hp,k⟩:=h;exists _,%[|#[qp,#[qB,qd]]]
 exists 7
 exact⟨(sml rfl),λl O=>k _ _ (qf O _) (Is.new (ds:= []) rfl O)⟩
theorem ok_copy (T:Tx K mg a):#[K,1,a.xw,a.Z5,["boxes","own","parts"],(Xm "copy")]:=by
 exists 9,T.g_copy_made,sc_copy_made,U
 obtain⟨d,t,own,B,ps,n,rfl,Z,hT,ho,O,hp,k⟩:=h;exists _,%[|#[qp,#[QE,6,Q9 U,pv 0,#[qN,qM,pv 2,qi],(λ_ _=>rfl)]]]
 exists 7
 obtain⟨x,y,rfl,hx,hy⟩:=ZQ (QT O ())
 exists 0,0;exact bget (i:=1) Z hp rfl hy λv iv=>k _ H (Same.refl _) iv
theorem ok_put (T:Tx K mg a):#[K,1,a.XW,a.WQ,["boxes","own","parts"],(Xm "put")]:=by
 exists 9,T.g_put_made,wL
 obtain⟨d,t,own,B,ps,n,rfl,hB,hT,ho,aa,O,k⟩:=h;exists _,%[#[qC,(3),wL.nd,#[QE,pv 0,#[qN,qM,pv 2,qi]]],#[qI,#[Qx,#[Qj,#[qz,#[qT,2,rfl],T.qP,uU,#v[pv 3,#[Q0,.ty "tuple",T.QD,vg]]]]],%[|#[qp,qU]],qw]|#[qp,#[qS,yi,pv 3,#[qB,#v[#[QE,pv 0,#[qN,qM,pv 2,qi]]]]]]]
 exists 7
 obtain⟨x,y,rfl,hx,hy⟩:=ZQ (QT aa ())
 exists 0,0;refine bget (i:=0) hB O rfl hx λv iv=> ?_;exists 0,v,"tuple",tyD (B x),XN (B x),1,iv.ty,xk _,0;have U:=YY (hT x hx);have k':∀(v:V) (H':Hp),Same H H'->Is H' (putD (B x) (B y)) v->Q v H':=k;generalize B x=dx at iv k' U⊢;cases dx with
 |tup xs=>
  refine iteF ?_;obtain⟨r,rs,rfl,er,ir⟩:=iv;exists 0,0,0;refine bget (i:=1) hB O rfl hy λu iu=> ?_;refine⟨(sml rfl),λl Z=>⟨r,l,rs,[u],1,1,SqT.of (qf Z _ _ _ er),SqT.of qg,?_,λe=> ?_,λ_ e=>(by cases e),λ_ _ p O=> ?_⟩⟩
  ·rw [ir.length];have:xs.length<=600:=U;exact yJ (by show xs.length+1<=1000;omega)
  ·subst e;have e2:xs= []:=vt ir.length.symm;subst e2;exact k' _ _ (qf Z _) (Is.new (ds:= [B y]) (IsL.one iu) Z)
  ·have t1:Tk H (upd H l (.tup [u])):=(qf Z _).tk;exact k' _ _ ((qf Z _).trans (qf O _)) (Is.new (ds:=xs++ [B y]) ((ir.mono t1).append (IsL.one (iu.mono t1))) O)
 |_=>exact iteT (k' _ H (Same.refl _) rfl)
theorem ok_join (T:Tx K mg a):#[K,1,a.xN,a.Z0,["boxes","own","parts"],(Xm "join")]:=by
 exists 9,T.g_join_made,Jo
 obtain⟨d,t,own,B,ps,n,rfl,hB,hT,ho,aa,hp,k⟩:=h;exists _,%[#[qC,(3),Jo.nd,#[QE,pv 0,#[qN,qM,pv 2,qi]]],#[qC,(4),Jo.nd,#[QE,pv 0,#[qN,qM,pv 2,qi]]],@qI _ _ _ _ _ _ _ _ #[ZK,#[Qx,#[Qj,#[qz,#[qT,2,rfl],T.qP,uU,#v[pv 3,#[Q0,.ty "str",T.Zh,UI]]]]],#[xY,#[Qx,#[Qj,#[qz,#[qT,2,rfl],T.qP,uU,#v[pv 4,#[Q0,.ty "str",T.Zh,UI]]]]]]].pt %[|#[qp,qU]] qw|#[qp,#[qS,Qr,pv 3,pv 4]]]
 exists 7
 obtain⟨x,y,rfl,hx,hy⟩:=ZQ (QT aa ())
 exists 0,0;refine bget (i:=0) hB hp rfl hx λv iv=> ?_;exists 0,0;refine bget (i:=1) hB hp rfl hy λu iu=> ?_;have lx:=YY (hT x hx);have ly:=YY (hT y hy);have O:∀(v:V) (H':Hp),Same H H'->Is H' (joinD (B x) (B y)) v->Q v H':=k;generalize B x=dx at iv O lx⊢;generalize B y=U at iu O ly⊢;exists 0,v,"str",tyD dx,isStr dx,1,iv.ty,jg _,0;cases dx with
 |str z=>
  refine iteF ⟨0,u,"str",tyD U,isStr U,1,iu.ty,jg _,0,?_⟩;cases U with
  |str Z=>
   refine iteF ?_;obtain⟨rfl,_⟩:=iv;obtain⟨rfl,_⟩:=iu;have h1:z.length<=600:=lx;have h2:Z.length<=600:=ly;exact⟨0,0,_,0,1,fits (),O _ H (Same.refl _) ⟨1,by rw [show(z++Z).length=z.length+Z.length from app_len z Z];exact fits ()⟩⟩
  |_=>exact iteT (O _ H (Same.refl _) rfl)
 |_=>exact iteT (O _ H (Same.refl _) (by cases U<;>rfl))
theorem ok_first (T:Tx K mg a):#[K,1,a.Jd,a.zu,["boxes","own","parts"],(Xm "first")]:=by
 exists 9,T.g_first_made,Xx
 obtain⟨d,t,own,B,ps,n,rfl,hB,hT,ho,Z,hp,k⟩:=h;exists _,%[#[qC,(3),Xx.nd,#[QE,pv 0,#[qN,qM,pv 2,qi]]]|#[qp,#[Q6,#[qr,op_gt,#[qz,Jp,T.Yd,uJ,#v[pv 3]],qi,qy _],#[qN,JV,pv 3,qi],qU]]]
 exists 7
 obtain⟨x,y,rfl,hx,hy⟩:=ZQ (QT Z ())
 exists 0,0;refine bget (i:=1) hB hp rfl hy λv U=> ?_;have ly:=YY (hT y hy);have hg:=hT y hy;have O:∀(v:V) (H':Hp),Same H H'->Is H' (firstD (B y)) v->Q v H':=k;generalize B y=dy at U O ly hg⊢;cases dy with
 |str z=>
  obtain⟨rfl,hz⟩:=U;refine⟨0,.inl ⟨z,1,hz,_,0,1,0,?_⟩⟩;refine ite2 (λc=> ?_) (λc=> ?_)
  ·have h0:1<=z.length:=by have:=uq c;omega
   have k2:Is H (firstD (.str z)) (.str ⟨#[z.cps.getD 0 0]⟩):=by
    show Is H (if z.length=0 then D.non else _) _
    rw [A2 ()]
    exact⟨1,yJ (by show 1<=1000;decide)⟩
   exact⟨0,.inr (.inr ⟨z,(0),0,1,hz,first_at h0,O _ H (Same.refl _) k2⟩)⟩
  ·have h0:z.length=0:=by
    rcases Nat.eq_zero_or_pos z.length with e|e
    ·exact e
    ·exact absurd (ue ()) c
   exact O _ H (Same.refl _) (by show Is H (if z.length=0 then D.non else _) _;rw [A3 h0];rfl)
 |tup xs=>
  have aa:=U;obtain⟨r,rs,rfl,er,ir⟩:=aa;refine⟨0,.inr ⟨r,rs,1,.inr (SqT.of er),λ_=>⟨_,0,1,0,?_⟩⟩⟩;have hl:=ir.length;cases xs with
  |nil=>exact Qp (ug (by rw [hl];decide)) (O _ H (Same.refl _) rfl)
  |cons e es=>
   refine QK (ue (by rw [hl,um];omega)) ?_
   exact⟨0,.inr (.inl (xq (i:=0) (d:=e) U (QF (j:=0) rfl) λq hq=>O _ H (Same.refl _) hq))⟩
 |_=>simp [isT,good] at hg
theorem Wb:∀xs:oj D,JW xs=xs.all isStr
 | []=>rfl
 | .str _::r=>by show JW r=_;rw [Wb r];rfl
 | .non::_| .bl _::_| .int _::_| .lst::_| .dct::_| .tup _::_=>rfl
theorem strs_map:∀{xs:oj D},JW xs=true->xs=(J5 xs).map D.str
 | [],_=>rfl
 | .str z::r,h=>by
  show D.str z::r=D.str z::(J5 r).map D.str;rw [<-strs_map (show JW r=true from h)]
theorem IsL.strs {H:Hp}:∀{l:oj Str}{vs:oj V},L2.IsL H (l.map D.str) vs->vs=l.map V.str
 | [],_,h=>h
 |_::_,_,h=>by
  obtain⟨v,r,rfl,h1,h2⟩:=h;rw [IsL.strs h2,h1.1];rfl
theorem IsL.ofStrs {H:Hp}:∀{l:oj Str},(∀z∈l,z.length<=sizeLine)->L2.IsL H (l.map D.str) (l.map V.str)
 | [],_=>rfl
 |z::l,h=>⟨_,0,⟨1,h z uf⟩,IsL.ofStrs λy O=>h y (uc _ O)⟩
theorem sum_lens:∀(l:oj Str),(l.map (·.length)).sum+l.length=szL (l.map D.str)
 | []=>rfl
 |z::l=>by
  have:=sum_lens l;simp only [uh,Ur,um,szL,sz];omega
theorem join_le (sep:Str):∀(l:oj Str),(Str.join sep l).length<=(l.map (·.length)).sum+l.length*sep.length
 | []=>v7 _
 | [x]=>by simp [Str.join]
 |x::y::r=>by
  have O:=join_le sep (y::r);have e:(Str.join sep (x::y::r)).length=x.length+sep.length+(Str.join sep (y::r)).length:=by
   show((x.cps++sep.cps)++(Str.join sep (y::r)).cps).size=_;rw [Array.size_append,Array.size_append]
   rfl
  rw [e,uh,Ur,um,Nat.succ_mul];omega
theorem ok_rest (T:Tx K mg a):#[K,1,a.xQ,a.Zs,["boxes","own","parts"],(Xm "rest")]:=by
 exists 9,T.g_rest_made,zU
 obtain⟨d,t,own,B,ps,n,rfl,hB,hT,ho,Z,U,k⟩:=h;exists _,%[#[qC,(3),zU.nd,#[QE,pv 0,#[qN,qM,pv 2,qi]]]|#[qp,#[Q6,#[qr,op_gt,#[qz,Jp,T.Yd,uJ,#v[pv 3]],qi,qy _],#[Qk,sl_any,pv 3,#[Qo,qi],QV],qU]]]
 exists 7
 obtain⟨x,y,rfl,hx,hy⟩:=ZQ (QT Z ())
 exists 0,0;refine bget (i:=1) hB U rfl hy λv iv=> ?_;have ly:=YY (hT y hy);have hg:=hT y hy;have O:∀(v:V) (H':Hp),Same H H'->Is H' (restD (B y)) v->Q v H':=k;generalize B y=dy at iv O ly hg⊢;cases dy with
 |str z=>
  obtain⟨rfl,hz⟩:=iv;refine⟨0,.inl ⟨z,1,hz,_,0,1,0,?_⟩⟩;refine ite2 (λc=> ?_) (λc=> ?_)
  ·have h0:1<=z.length:=by have:=uq c;omega
   have k2:Is H (restD (.str z)) (.str (Txt.slice z (some 1) none)):=by
    show Is H (if z.length=0 then D.non else _) _
    rw [A2 ()]
    exact⟨1,uL (Txt.slice_le z _ _) hz⟩
   exact⟨0,0,.inl ⟨z,1,hz,O _ H (Same.refl _) k2⟩⟩
  ·have h0:z.length=0:=by
    rcases Nat.eq_zero_or_pos z.length with e|e
    ·exact e
    ·exact absurd (ue ()) c
   exact O _ H (Same.refl _) (by show Is H (if z.length=0 then D.non else _) _;rw [A3 h0];rfl)
 |tup xs=>
  have aa:=iv;obtain⟨r,rs,rfl,er,ir⟩:=aa;refine⟨0,.inr ⟨r,rs,1,.inr (SqT.of er),λ_=>⟨_,0,1,0,?_⟩⟩⟩;have hl:=ir.length;cases xs with
  |nil=>exact Qp (ug (by rw [hl];decide)) (O _ H (Same.refl _) rfl)
  |cons e es=>
   refine QK (ue (by rw [hl,um];omega)) ?_
   obtain⟨v0,r0,rfl,i0,i1⟩:=ir;refine⟨0,0,.inr ⟨r,v0::r0,1,SqT.of er,λh=> ?_,λ_ p U=> ?_⟩⟩
   ·exfalso;have:=h.1;simp [HT.sIx] at this
   ·have e1:cutV (v0::r0) (some 1) none=r0:=by
     rw [show(some (1:Int))=some (((1:Nat)):Int) from rfl,ZY (by simp)]
     rfl
    rw [e1];exact O _ _ (qf U _) (Is.new i1 U)
 |_=>simp [isT,good] at hg
theorem ok_size (T:Tx K mg a):#[K,1,a.xx,a.wn,["boxes","own","parts"],(Xm "size")]:=by
 exists 9,T.g_size_made,sc_size_made
 obtain⟨d,t,own,B,ps,n,rfl,hB,hT,ho,O,hp,k⟩:=h;exists _,%[|#[qp,#[qW,Jg,T.Zh,UI,#v[#[qz,Jp,T.Yd,uJ,#v[#[QE,pv 0,#[qN,qM,pv 2,qi]]]]]]]]
 exists 7
 obtain⟨x,y,rfl,hx,U⟩:=ZQ (QT O ())
 exists 0,0;refine bget (i:=1) hB hp rfl U λv Z=> ?_;have ly:=YY (hT y U);have hg:=hT y U;have k':∀(v:V) (H':Hp),Same H H'->Is H' (.str (toString ((lenD (B y):Nat):Int))) v->Q v H':=k;generalize B y=dy at Z k' ly hg⊢;have sm:∀n:Nat,n<=600->((n:Int)).natAbs.log2<1920/\((toString (n:Int):Str)).length<=sizeLine:=by
  intro n hn;have h2:=Nat.log2_le_self ((n:Int)).natAbs;exact⟨(),int_text_fits ()⟩
 cases dy with
 |str z=>
  obtain⟨rfl,hz⟩:=Z;have h2:=sm z.length ly;exact .inl ⟨z,1,hz,0,h2.1,k' _ H (Same.refl _) ⟨1,h2.2⟩⟩
 |tup xs=>
  have aa:=Z;obtain⟨r,rs,rfl,er,ir⟩:=aa;have h2:=sm xs.length ly;refine .inr ⟨r,rs,1,.inr (SqT.of er),λ_=>⟨0,?_,?_⟩⟩
  ·rw [ir.length];exact h2.1
  ·rw [ir.length];exact k' _ H (Same.refl _) ⟨1,h2.2⟩
 |_=>simp [isT,good] at hg
theorem ok_cut (T:Tx K mg a):#[K,1,a.X5,a.WR,["boxes","own","parts"],(Xm "cut")]:=by
 exists 9,T.g_cut_made,xi
 obtain⟨d,t,own,B,ps,n,rfl,hB,hT,ho,aa,Z,k⟩:=h;exists _,%[#[qC,(3),xi.nd,#[QE,pv 0,#[qN,qM,pv 2,qi]]],#[qC,(4),xi.nd,#[QE,pv 0,#[qN,qM,pv 2,qi]]],@qI _ _ _ _ _ _ _ _ #[ZK,#[Qx,#[Qj,#[qz,#[qT,2,rfl],T.qP,uU,#v[pv 3,#[Q0,.ty "str",T.Zh,UI]]]]],#[ZK,#[Qx,#[Qj,#[qz,#[qT,2,rfl],T.qP,uU,#v[pv 4,#[Q0,.ty "str",T.Zh,UI]]]]],#[xY,#[qr,Qn,pv 4,ql,qy _]]]].pt %[|#[qp,qU]] qw|#[qp,#[qW,qR,T.QD,vg,#v[#[jx,uS,Ub,Uc,mt_splitG,pv 3,#v[pv 4]]]]]]
 exists 7
 obtain⟨x0,x,y,rfl,ac,hx,hy⟩:=sh_bbb (QT aa ())
 exists 0,0;refine bget (i:=1) hB Z rfl hx λv iv=> ?_;exists 0,0;refine bget (i:=2) hB Z rfl hy λu iu=> ?_;have lx:=YY (hT x hx);have ly:=YY (hT y hy);have U:∀(v:V) (H':Hp),Same H H'->Is H' (cutD (B x) (B y)) v->Q v H':=k;generalize B x=dx at iv U lx⊢;generalize B y=dy at iu U ly⊢;exists 0,v,"str",tyD dx,isStr dx,1,iv.ty,jg _,0;cases dx with
 |str z=>
  refine iteF ⟨0,u,"str",tyD dy,isStr dy,1,iu.ty,jg _,0,?_⟩;cases dy with
  |str O=>
   refine iteF ?_;obtain⟨rfl,_⟩:=iv;obtain⟨rfl,_⟩:=iu;have h1:z.length<=600:=lx;have h2:O.length<=600:=ly;exists 0,1,0;refine ite2 (λc=> ?_) (λc=> ?_)
   ·have e:O="":=by have:=uq c;injection this
    subst e;exact U _ H (Same.refl _) rfl
   ·have h3:O.length≠0:=λh=>c (ue (by
     have:O="":=by
      have h4:O.cps= #[]:=Array.eq_empty_of_size_eq_zero h;cases O;simp only at h4;subst h4
      decide+kernel
     rw [this]))
    refine⟨0,1,0,z,O,1,1,(),(),λp Z=>⟨p,0,.inl ⟨SqL.of qg,λl hl=> ?_⟩⟩⟩
    have s1:Same H (upd H p (.lst ((spG z O).map V.str))):=qf Z _;refine U _ _ (s1.trans (qf hl _)) ?_;show Is _ (if O.length=0 then D.non else .tup ((spG z O).map D.str)) _
    rw [A2 h3];exact Is.new (IsL.ofStrs λq hq=>yJ (by have:=spG_mem hq;omega)) hl
  |_=>exact iteT (U _ H (Same.refl _) rfl)
 |_=>exact iteT (U _ H (Same.refl _) (by cases dy<;>rfl))
theorem ok_glue (T:Tx K mg a):#[K,1,a.xz,a.ZG,["boxes","own","parts"],(Xm "glue")]:=by
 exists 9,T.g_glue_made,Jt
 obtain⟨d,t,own,B,ps,n,rfl,hB,hT,ho,ae,hp,k⟩:=h;exists _,%[#[qC,(3),Jt.nd,#[QE,pv 0,#[qN,qM,pv 2,qi]]],#[qC,(4),Jt.nd,#[QE,pv 0,#[qN,qM,pv 2,qi]]],@qI _ _ _ _ _ _ _ _ #[ZK,#[Qx,#[Qj,#[qz,#[qT,2,rfl],T.qP,uU,#v[pv 3,#[Q0,.ty "tuple",T.QD,vg]]]]],#[xY,#[Qx,#[Qj,#[qz,#[qT,2,rfl],T.qP,uU,#v[pv 4,#[Q0,.ty "str",T.Zh,UI]]]]]]].pt %[|#[qp,qU]] qw,#[qI,#[Qx,#[Qj,#[qz,#[Z3,1,rfl],T.z_all,boot_all,#v[#[ZJ,["part"],[],lcs0,#[ko,4,pv 3],(λ_ _ _ _ _ _=>#[qX,(0),(show List.Nodup (["part"]:oj Str) by decide+kernel)]),(λ_ _ _ _ _ _=>#[qz,#[qT,2,rfl],T.qP,uU,#v[pv 0,#[Q0,.ty "str",T.Zh,UI]]])]]]]],%[|#[qp,qU]],qw]|#[qp,#[jx,uS,vY,vZ,mt_joinT,pv 4,#v[pv 3]]]]
 exists 7
 obtain⟨x0,x,y,rfl,ah,hx,hy⟩:=sh_bbb (QT ae ())
 exists 0,0;refine bget (i:=1) hB hp rfl hx λv iv=> ?_;exists 0,0;refine bget (i:=2) hB hp rfl hy λu iu=> ?_;have lx:=YY (hT x hx);have hg:=hT x hx;have ly:=YY (hT y hy);have U:∀(v:V) (H':Hp),Same H H'->Is H' (glueD (B x) (B y)) v->Q v H':=k;generalize B x=dx at iv U lx hg⊢;generalize B y=dy at iu U ly⊢;exists 0,v,"tuple",tyD dx,XN dx,1,iv.ty,xk _,0;cases dx with
 |tup xs=>
  refine iteF ⟨0,u,"str",tyD dy,isStr dy,1,iu.ty,jg _,0,?_⟩;cases dy with
  |str Z=>
   refine iteF ?_;obtain⟨r,rs,rfl,er,ir⟩:=iv;obtain⟨rfl,_⟩:=iu;have h1:xs.length<=600:=lx;have h2:Z.length<=600:=ly;refine⟨0,r,rs,1,SqT.of er,λak A0 af=> ?_⟩;refine lc_tupS (tl:= []) (λd=> .bl (isStr d)) er ir (fits ()) af (λd0 x0 H3 R al s3 i3 q=>⟨0,x0,"str",tyD d0,isStr d0,1,i3.ty,jg _,q _ H3 (Same.refl _) rfl⟩) λH1 ys s1 l1 i1=> ?_
   have ey:ys=(xs.map isStr).map V.bl:=IsL.bls (by rwa [uN])
   subst ey;exists A0,xs.map isStr,1,SqL.of l1,0;have aa:(xs.map isStr).all id=JW xs:=by rw [Wb,Uy];rfl
   rw [aa];cases O:JW xs with
   |false=>exact iteT (U _ H1 s1 (by show Is H1 (if JW xs=true then _ else D.non) _;rw [O];rfl))
   |true=>
    have ac:=strs_map O;have ag:rs=(J5 xs).map V.str:=IsL.strs (by rwa [<-ac])
    have hsz:=isT_sz hg;have ad:=sum_lens (J5 xs);rw [<-ac] at ad;simp only [sz] at hsz;have am:(J5 xs).length*Z.length<=600*600:=Nat.mul_le_mul () h2
    have hj:=join_le Z (J5 xs);refine iteF ⟨0,1,0,Z,r,J5 xs,1,1,SqT.of (by rw [s1 _ _ er,ag]),(),?_⟩
    refine U _ H1 s1 ?_;show Is H1 (if JW xs=true then .str (Str.join Z (J5 xs)) else D.non) _
    rw [O];exact⟨1,fits ()⟩
  |_=>exact iteT (U _ H (Same.refl _) rfl)
 |_=>exact iteT (U _ H (Same.refl _) (by cases dy<;>rfl))
noncomputable def jump (w:Str)(B:Str->D)(ps:oj Pt):Bool:=if w="like" then eqD (B (b0 ps)) (B (b1 ps)) else if w="rowed" then XN (B (b0 ps)) else if w="none" then decide (lenD (B (b0 ps))=0) else true
noncomputable def JMP:oj Str:= ["go","like","rowed","none"]
noncomputable def ASK:oj Str:= ["ask","has","names"]
noncomputable def flt (w:Str):D:= .tup [.str "fault",.str w]
noncomputable def askF (w:Str)(held:D):D:=if w="names" then(if isStr held=true then .tup [.str "asks",.tup [.str "names",held]] else flt "kind") else if isNm held=true then .tup [.str "asks",.tup [.str (if w="ask" then "thing" else "has"),held]] else flt "name"
inductive sp_jump (vs:List V) (H:Hp) (Q:VK) (E_:XK):Prop
 |mk (d t:Addr) (w:Str) (B:Str->D) (ps:List Pt) (n:Nat) (_:vs= [.ref d,.str w,.ref t]) (_:Ym H d B) (_:Tr B) (_:w∈JMP) (_:jO n 300 (w,ps)) (_:PtsAt H t ps) (_:Q (.bl (jump w B ps)) H)
inductive sp_asked (vs:List V) (H:Hp) (Q:VK) (E_:XK):Prop
 |mk (w:Str) (v:V) (d:D) (_:vs= [.str w,v]) (_:w∈ASK) (_:Is H d v) (_:∀(u:V) (H':Hp),Same H H'->Is H' (askF w d) u->Q u H')
mutual
theorem good_pu:∀{d:D},good d=true->puD d=true
 | .str _,_=>rfl
 | .tup xs,h=>by
  simp only [good,uz] at h;show puL xs=true;exact goodL_pu h.2
 | .non,h| .bl _,h| .int _,h| .lst,h| .dct,h=>by simp [good] at h
theorem goodL_pu:∀{xs:oj D},goodL xs=true->puL xs=true
 | [],_=>rfl
 |x::r,h=>by
  simp only [goodL,uz] at h;simp only [puL,good_pu h.1,goodL_pu h.2,Us]
end
theorem good_tr {d:D}(h:good d=true):trD d=true:=by
 cases d with
 |str z=>rfl
 |tup xs=>exact good_pu (d:= .tup xs) h
 |_=>simp [good] at h
theorem yB {d:D}(h:isT d=true):good d=true:=by
 unfold isT at h;rw [uz,uz] at h;exact h.1.1
theorem isT_tr {d:D}(h:isT d=true):trD d=true:=good_tr (yB h)
theorem ok_jump (T:Tx K mg a):#[K,1,a.Jm,a.Jk,["boxes","word","parts"],sp_jump]:=by
 exists 9,T.g_is_jump_taken,Zm
 obtain⟨d,t,w,B,ps,n,rfl,hB,hT,hw,U,hp,k⟩:=h;exists _,%[#[qI,#[qr,Qn,pv 1,ql,qy _],%[|#[qp,#[QZ,#[op_eqD,1,hr.units],#[QE,pv 0,#[qN,qM,pv 2,qi]],#[QE,pv 0,#[qN,qM,pv 2,qi]],qy _]]],qw],#[qI,#[qr,Qn,pv 1,ql,qy _],%[|#[qp,#[qz,#[qT,2,rfl],T.qP,uU,#v[#[QE,pv 0,#[qN,qM,pv 2,qi]],#[Q0,.ty "tuple",T.QD,vg]]]]],qw],#[qI,#[qr,Qn,pv 1,ql,qy _],%[|#[qp,#[QZ,Qn,#[qz,Jp,T.Yd,uJ,#v[#[QE,pv 0,#[qN,qM,pv 2,qi]]]],qi,qy _]]],qw]|#[qp,jN]]
 exists 7
 exists 0,1,0;simp only [JMP,uC,uD,uM] at hw;rcases hw with rfl|rfl|rfl|rfl
 ·refine Qp () ?_
  refine⟨0,1,0,Qp () ?_⟩
  refine⟨0,1,0,Qp () ?_⟩
  exact k
 ·refine QK () ?_
  obtain⟨x,y,i,rfl,O,hy,_⟩:=sh_bbl (QT U ())
  exists 0,0;dsimp only [tC];refine bget (i:=0) hB hp rfl O λv Z=> ?_;exists 0,0;dsimp only [tC];refine bget (i:=1) hB hp rfl hy λu iu=> ?_;refine⟨B x,B y,Z,iu,isT_tr (hT x O),isT_tr (hT y hy),?_,k⟩
  ·have:=JX (hT x O);omega
 ·refine Qp () ?_
  refine⟨0,1,0,QK () ?_⟩
  obtain⟨x,i,rfl,O,_⟩:=sh_bl (QT U ())
  exists 0,0;refine bget (i:=0) hB hp rfl O λv Z=> ?_;exact⟨v,"tuple",tyD (B x),XN (B x),1,Z.ty,xk _,k⟩
 ·refine Qp () ?_
  refine⟨0,1,0,Qp () ?_⟩
  refine⟨0,1,0,QK () ?_⟩
  obtain⟨x,i,rfl,O,_⟩:=sh_bl (QT U ())
  exists 0,0;refine bget (i:=0) hB hp rfl O λv Z=> ?_;have k':Q (.bl (decide (lenD (B x)=0))) H:=k;have hg:=hT x O;generalize B x=dx at Z k' hg⊢;have hn:∀n:Nat,decide (V.int (n:Int)=V.int 0)=decide (n=0):=λn=>by
   rw [uX];constructor
   ·intro h;injection h with h;omega
   ·rintro rfl;rfl
  cases dx with
  |str z=>
   obtain⟨rfl,hz⟩:=Z;refine .inl ⟨z,1,hz,1,?_⟩;rw [hn];exact k'
  |tup xs=>
   obtain⟨r,rs,rfl,er,ir⟩:=Z;refine .inr ⟨r,rs,1,.inr (SqT.of er),λ_=>⟨1,?_⟩⟩;rw [hn,ir.length];exact k'
  |_=>simp [isT,good] at hg
theorem ok_asked (T:Tx K mg a):#[K,2,a.jG,a.jI,["word","held"],sp_asked]:=by
 have Q5:=#[XM,T];exists 9,T.g_asked_or_fault,zk
 obtain⟨w,v,d,rfl,hw,iv,k⟩:=h;exists _,%[#[qI,#[qr,Qn,pv 0,ql,qy _],%[|#[qp,#[Q6,#[Qj,#[qz,#[qT,2,rfl],T.qP,uU,#v[pv 1,#[Q0,.ty "str",T.Zh,UI]]]],#[qB,#v[ql,#[qB,#v[ql,pv 1]]]],#[qB,#v[ql,ql]]]]],qw],#[qI,#[Qx,#[Qj,#[qt,Q5,hr.mono (),T.g_is_name,#v[pv 1]]]],%[|#[qp,#[qB,#v[ql,ql]]]],qw]|#[qp,#[qB,#v[ql,#[qB,#v[#[Q6,#[qr,Qn,pv 0,ql,qy _],ql,ql],pv 1]]]]]]
 exists 7
 have two:(2:Nat)<=sizeLine:=by decide
 have st:∀{H:Hp} (z:Str),z.length<=100->Is H (.str z) (.str z):=λz hz=>⟨1,yJ ()⟩
 have fl:∀(z:Str) (H:Hp) (l:o3),z.length<=100->H l=none->Is (upd H l (.tup [.str "fault",.str z])) (flt z) (.ref l):=λz H l hz U=>Is.new (ds:= [.str "fault",.str z]) ⟨_,0,st _ (),_,0,st _ hz,1⟩ U
 exists 0,1,0;by_cases c:w="names"
 ·subst c;refine QK () ?_
  have ea:askF "names" d=if isStr d=true then .tup [.str "asks",.tup [.str "names",d]] else flt "kind":=by unfold askF;rw [A3 rfl]
  rw [ea] at k;exists 0,v,"str",tyD d,isStr d,1,iv.ty,jg _,0;cases hs:isStr d with
  |true=>
   rw [hs] at k;refine iteT ⟨0,two,λl U=>⟨two,λZ O=> ?_⟩⟩;have t1:Same H (upd H l (.tup [.str "names",v])):=qf U _;refine k _ _ (t1.trans (qf O _)) ?_;exact Is.new (ds:= [.str "asks",.tup [.str "names",d]]) ⟨_,0,st _ (),_,0,Is.new (ds:= [.str "names",d]) ⟨_,0,st _ (),_,0,iv,1⟩ U,1⟩ O
  |false=>
   rw [hs] at k;exact iteF ⟨two,λl U=>k _ _ (qf U _) (fl "kind" H l () U)⟩
 ·refine Qp (ug λh=>c (by injection h)) ?_
  have ea:askF w d=if isNm d=true then .tup [.str "asks",.tup [.str (if w="ask" then "thing" else "has"),d]] else flt "name":=by unfold askF;rw [A2 c]
  rw [ea] at k;refine⟨0,v,d,1,iv,λH1 s1=>⟨0,?_⟩⟩;cases hs:isNm d with
  |false=>
   rw [hs] at k;exact iteT ⟨two,λl U=>k _ _ (s1.trans (qf U _)) (fl "name" H1 l () U)⟩
  |true=>
   rw [hs] at k;refine iteF ⟨0,1,0,?_⟩;have aa:∀z:Str,z.length<=100->z=(if w="ask" then("thing":Str) else "has")->∀l,H1 l=none->∀Z,(upd H1 l (.tup [.str z,v])) Z=none->Q (.ref Z) (upd (upd H1 l (.tup [.str z,v])) Z (.tup [.str "asks",.ref l])):=by
    intro z hz ez l U Z O;have t1:Same H1 (upd H1 l (.tup [.str z,v])):=qf U _;refine k _ _ (s1.trans (t1.trans (qf O _))) ?_;rw [<-ez];exact Is.new (ds:= [.str "asks",.tup [.str z,d]]) ⟨_,0,st _ (),_,0,Is.new (ds:= [.str z,d]) ⟨_,0,st _ hz,_,0,iv.mono s1.tk,1⟩ U,1⟩ O
   refine ite2 (λc2=> ?_) (λc2=> ?_)
   ·have e:w="ask":=by have:=uq c2;injection this
    exact⟨0,two,λl U=>⟨two,λZ O=>aa "thing" () (by rw [A3 e]) l U Z O⟩⟩
   ·have e:w≠"ask":=λe=>c2 (ue (by rw [e]))
    exact⟨0,two,λl U=>⟨two,λZ O=>aa "has" () (by rw [A2 e]) l U Z O⟩⟩
end
structure Mc where
 (x db dg:o3)
 rs:oj Rw
 own:Str
structure Rn where
 B:Str->D
 p:Int
 n:Nat
 gs:oj D
 th:D
noncomputable def MTH:oj Str:= ["now","answer","asked","lines","copy","go_on","is_waiting","do_row","hold"]
structure Fl (fs:oj (Str×V))(rv ru:V)(own:Str)(db dg:o3)(place:Int)(done:Nat)(tv:V):Prop where
 rows:fs.lookup ("rows":Str)=some rv
 rule:fs.lookup ("rule":Str)=some ru
 own:fs.lookup ("own":Str)=some (.str own)
 boxes:fs.lookup ("boxes":Str)=some (.ref db)
 place:fs.lookup ("place":Str)=some (.int place)
 done:fs.lookup ("done":Str)=some (.int (done:Int))
 given:fs.lookup ("given":Str)=some (.ref dg)
 there:fs.lookup ("there":Str)=some tv
 meth:∀m∈MTH,fs.lookup m=none
 len:fs.length<=20
theorem YT {f:Str}{v:V}:∀{fs:oj (Str×V)}{u:V},fs.lookup f=some u->(putF f v fs).length=fs.length
 |(g,x)::r,u,h=>by
  unfold putF;by_cases c:g=f
  ·rw [A3 c];rfl
  ·rw [A2 c,um,um];have e:(f==g)=false:=by simp;exact λz=>c z.symm
   rw [ve,e] at h;rw [YT (u:=u) h]
 | [],u,h=>by simp at h
section
variable {fs:oj (Str×V)}{rv ru:V}{own:Str}{db dg:o3}{place:Int}{done:Nat}{tv:V}
variable {u:V}
theorem Fl.set_there (h:Fl fs rv ru own db dg place done tv):Fl (putF "there" (u) fs) rv ru own db dg place done u:=by
 refine⟨?_,?_,?_,?_,?_,?_,?_,?_,λm hm=> ?_,by rw [YT h.there];exact h.len⟩
 all_goals rw [qF]
 all_goals first|rw [A3 rfl]|(rw [A2 ()];first|exact h.rows|exact h.rule|exact h.own|exact h.boxes|exact h.place|exact h.done|exact h.given|exact h.there)|(rw [A2 (λe=>by subst e;revert hm;decide+kernel)];exact h.meth m hm)
theorem Fl.set_place {q:Int}(h:Fl fs rv ru own db dg place done tv):Fl (putF "place" (.int q) fs) rv ru own db dg q done tv:=by
 refine⟨?_,?_,?_,?_,?_,?_,?_,?_,λm hm=> ?_,by rw [YT h.place];exact h.len⟩
 all_goals rw [qF]
 all_goals first|rw [A3 rfl]|(rw [A2 ()];first|exact h.rows|exact h.rule|exact h.own|exact h.boxes|exact h.place|exact h.done|exact h.given|exact h.there)|(rw [A2 (λe=>by subst e;revert hm;decide+kernel)];exact h.meth m hm)
theorem Fl.set_done {k:Nat}(h:Fl fs rv ru own db dg place done tv):Fl (putF "done" (.int ((k:Nat):Int)) fs) rv ru own db dg place k tv:=by
 refine⟨?_,?_,?_,?_,?_,?_,?_,?_,λm hm=> ?_,by rw [YT h.done];exact h.len⟩
 all_goals rw [qF]
 all_goals first|rw [A3 rfl]|(rw [A2 ()];first|exact h.rows|exact h.rule|exact h.own|exact h.boxes|exact h.place|exact h.done|exact h.given|exact h.there)|(rw [A2 (λe=>by subst e;revert hm;decide+kernel)];exact h.meth m hm)
end
noncomputable def y9 (C:o3)(H:Hp)(m:Mc)(r:Rn):Prop:=
 ∃(dx:o3) (fs:oj (Str×V)) (rv ru tv:V) (gv:oj V),H m.x=some (.ins C dx fs)/\Fl fs rv ru m.own m.db m.dg r.p r.n tv/\Is H (.tup (m.rs.map rowD)) rv/\Is H (xy m.rs) ru/\Ym H m.db r.B/\H m.dg=some (.lst gv)/\L2.IsL H r.gs gv/\Is H r.th tv
structure Mv (m:Mc)(H H':Hp):Prop where
 kept:∀b o,H b=some o->b≠m.x->b≠m.db->b≠m.dg->H' b=some o
 tk:Tk H H'
theorem Mv.refl (m:Mc)(H:Hp):Mv m H H:=⟨λ_ _ e _ _ _=>e,Tk.refl H⟩
variable {H H1 H2:Hp}
theorem Mv.trans {m:Mc}(h:Mv m H H1)(h2:Mv m H1 H2):Mv m H H2:=⟨λb o e n1 O U=>h2.kept b o (h.kept b o e n1 O U) n1 O U,h.tk.trans h2.tk⟩
variable {H':Hp}
theorem Mv.of {m:Mc}(s:Same H H'):Mv m H H':=⟨λb o e _ _ _=>s b o e,s.tk⟩
variable {C:o3}
theorem y9.same {m:Mc}{r:Rn}(h:y9 C H m r)(s:Same H H'):y9 C H' m r:=
 let⟨dx,fs,rv,ru,tv,gv,e,f,i,j,b,g,gl,t⟩:=h;⟨dx,fs,rv,ru,tv,gv,s _ _ e,f,i.mono s.tk,j.mono s.tk,b.same s,s _ _ g,gl.mono s.tk,t.mono s.tk⟩
variable {dx:o3}
theorem Ym.ne {x db:o3}{fs:oj (Str×V)}{B:Str->D}(e:H x=some (.ins C dx fs))(h:Ym H db B):db≠x:=λz=>by
 obtain⟨f,O,_⟩:=h;rw [z,e] at O;cases O
variable {fs':oj (Str×V)}{rv:V}
theorem yk {m:Mc}{r:Rn}{fs:oj (Str×V)}{ru tv:V}{O:oj V}(e:H m.x=some (.ins C dx fs))(f:Fl fs' rv ru m.own m.db m.dg r.p r.n tv)(i:Is H (.tup (m.rs.map rowD)) rv)(j:Is H (xy m.rs) ru)(b:Ym H m.db r.B)(U:H m.dg=some (.lst O))(Z:L2.IsL H r.gs O)(t:Is H r.th tv):
  y9 C (upd H m.x (.ins C dx fs')) m r/\Mv m H (upd H m.x (.ins C dx fs')):=by
 have tk:Tk H (upd H m.x (.ins C dx fs')):=Tk.updI e;have n1:m.db≠m.x:=Ym.ne e b;have n2:m.dg≠m.x:=λz=>by rw [z,e] at U;cases U
 exact⟨⟨dx,fs',rv,ru,tv,O,qg,f,i.mono tk,j.mono tk,b.move tk (qh n1),by rwa [qh n2],Z.mono tk,t.mono tk⟩,⟨λc o h a1 _ _=>by rwa [qh a1],tk⟩⟩
noncomputable def QR:D->Bool
 | .tup (.str w::_)=>decide (w="asks")
 |_=>false
noncomputable def Th (d:D):Prop:=d= .non∨∃w e,d= .tup [.str w,e]
inductive Out where
 |go (B:Str->D) (p:Int)|stop (e:D)
noncomputable def Out.B (B:Str->D):Out->Str->D
 | .go B' _=>B'
 | .stop _=>B
noncomputable def Out.P (p:Int):Out->Int
 | .go _ p'=>p'
 | .stop _=>p
noncomputable def Out.T:Out->D
 | .go _ _=> .non
 | .stop e=>e
noncomputable def holdO (B:Str->D)(z:Str)(e:D)(p:Int):Out:=match e with
 | .non=> .stop (flt "kind")
 |e=>if isT e=true then .go (setB B z e) (p+1) else .stop (flt "big")
inductive sp_now (C:Addr) (vs:List V) (H:Hp) (Q:VK) (E_:XK):Prop
 |mk (m:Mc) (r:Rn) (_:vs= [.ref m.x]) (_:y9 C H m r) (_:∀v,Is H r.th v->Q v H)
inductive sp_asks (C:Addr) (vs:List V) (H:Hp) (Q:VK) (E_:XK):Prop
 |mk (m:Mc) (r:Rn) (_:vs= [.ref m.x]) (_:y9 C H m r) (_:∀v H',Same H H'->Is H' (.tup r.gs) v->Q v H')
inductive sp_wait (C:Addr) (vs:List V) (H:Hp) (Q:VK) (E_:XK):Prop
 |mk (m:Mc) (r:Rn) (_:vs= [.ref m.x]) (_:y9 C H m r) (_:Th r.th) (_:Q (.bl (QR r.th)) H)
inductive sp_hold (C:Addr) (vs:List V) (H:Hp) (Q:VK) (E_:XK):Prop
 |mk (m:Mc) (r:Rn) (z:Str) (v:V) (e:D) (_:vs= [.ref m.x,.str z,v]) (_:y9 C H m r) (_:r.th= .non) (_:z∈BX) (_:Is H e v) (_:∀H',Mv m H H'->y9 C H' m ⟨(holdO r.B z e r.p).B r.B,(holdO r.B z e r.p).P r.p,r.n,r.gs,(holdO r.B z e r.p).T⟩->Q .non H')
section
variable {P:o9}{w:og}{K:o0}{mg:Str->om o6}{base:o8}{a:Ad}{g:Ga}
theorem ok_now (T:Tx K mg a):#[K,1,a.Xs,a.Xo,["self"],(sp_now a.qo)]:=by
 exists 9,T.g_Machine_now,wT,O
 obtain⟨m,r,rfl,⟨dx,fs,rv,ru,tv,U,e,f,Z,iu,ib,hg,gl,it⟩,k⟩:=h;exists _,%[|#[qp,#[qL,5,pv 0,rfl]]]
 exists 7
 exact⟨0,m.x,_,dx,fs,tv,1,e,T.qu,T.qK,f.there,k _ it⟩
theorem ok_asks (T:Tx K mg a):#[K,1,a.jT,a.jZ,["self"],(sp_asks a.qo)]:=by
 exists 9,T.g_Machine_asked,Zf
 obtain⟨m,r,rfl,⟨dx,fs,rv,ru,tv,U,e,f,ir,iu,ib,Z,gl,it⟩,k⟩:=h;exists _,%[|#[qp,#[qW,qR,T.QD,vg,#v[#[qL,5,pv 0,rfl]]]]]
 exists 7
 exact⟨0,m.x,_,dx,fs,0,e,T.qu,T.Yx,f.given,m.dg,U,1,.inl ⟨SqL.of Z,λl O=>k _ _ (qf O _) (Is.new gl O)⟩⟩
theorem ok_wait (T:Tx K mg a):#[K,1,a.Yh,a.Yi,["self"],(sp_wait a.qo)]:=by
 exists 9,T.g_Machine_is_waiting,j9
 obtain⟨m,⟨B,p,n,gs,th⟩,rfl,⟨dx,fs,rv,ru,tv,gv,e,f,ir,Z,ib,hg,gl,it⟩,O,k⟩:=h;simp only at f ib gl it O k;exists _,%[|#[qp,#[pe_and,#[QZ,ZP,#[qL,5,pv 0,rfl],qU,qy _],#[Wr,#[QZ,Qn,#[qN,JV,#[qL,5,pv 0,rfl],qi],ql,qy _]]]]]
 exists 7
 exists 0,m.x,_,dx,fs,tv,1,e,T.qu,T.qK,f.there,1;rcases O with rfl|⟨w1,e1,rfl⟩
 ·cases(show tv= .non from it)
  exact⟨0,Qp () k⟩
 ·have U:=it;obtain⟨t0,us,rfl,et,Z⟩:=U;refine⟨0,QK (by simp) ⟨0,m.x,_,dx,fs,0,e,T.qu,T.qK,f.there,?_⟩⟩
  refine .inr (.inl (xq (i:=0) (d:= .str w1) it (QF (j:=0) rfl) λq hq=> ?_));obtain⟨rfl,_⟩:=hq;exists 1;have ew:decide (V.str w1=V.str ("asks":Str))=decide (w1="asks"):=by
   rw [uX];exact⟨λh=>by injection h,λh=>by rw [h]⟩
  rw [ew];exact k
theorem ok_hold (T:Tx K mg a):#[K,3,a.JT,a.J7,["self","box","tree"],(sp_hold a.qo)]:=by
 have yy:=#[Y8,T];exists 9,T.g_Machine_hold,wk
 obtain⟨m,⟨B,p,n,gs,th⟩,z,v,d,rfl,⟨dx,fs,rv,ru,tv,gv,e,f,ir,iu,ib,hg,gl,it⟩,aa,hz,O,k⟩:=h;simp only at f ib gl it aa k;subst aa;exists _,%[|#[qI,#[qr,yX,pv 2,qU,qy _],%[|#[Qc,#[qB,#v[ql,ql]]]],%[|#[qI,#[Qx,#[Qj,#[qt,yy,hr.mono (),T.g_is_tree,#v[pv 2]]]],%[|#[Qc,#[qB,#v[ql,ql]]]],%[#[Jb,#[qL,5,pv 0,rfl],pv 1,pv 2]|#[Jc,10,pv 0,qi,in_add]]]]]]
 exists 7
 have two:(2:Nat)<=sizeLine:=by decide
 have st:∀{H:Hp} (z:Str),z.length<=100->Is H (.str z) (.str z):=λz hz=>⟨1,yJ ()⟩
 have fl:∀(z:Str) (H:Hp) (l:o3),z.length<=100->H l=none->Is (upd H l (.tup [.str "fault",.str z])) (flt z) (.ref l):=λz H l hz U=>Is.new (ds:= [.str "fault",.str z]) ⟨_,0,st _ (),_,0,st _ hz,1⟩ U
 exists 0,1,0;have Z:fs.length<1000:=by have:=f.len;omega
 by_cases c:d= .non
 ·subst c;cases(show v= .non from O)
  refine QK () ⟨two,λl U=> ?_⟩
  have s1:Same H (upd H l (.tup [.str "fault",.str "kind"])):=qf U _;exists 0,m.x,_,dx,fs,1,s1 _ _ e,T.qu,T.qK,Z;obtain⟨m1,m2⟩:=yk (r:=⟨B,p,n,gs,flt "kind"⟩) (s1 _ _ e) (f.set_there (u:= .ref l)) (ir.mono s1.tk) (iu.mono s1.tk) (ib.same s1) (s1 _ _ hg) (gl.mono s1.tk) (fl "kind" H l () U)
  exact k _ ((Mv.of s1).trans m2) m1
 ·have hv:v≠ .non:=by
   rintro rfl;cases d with
   |non=>exact c rfl
   |bl b=>cases(show V.non= .bl b from O)
   |int i=>cases(show V.non= .int i from O)
   |str z=>obtain⟨h,_⟩:=O;cases h
   |lst=>obtain⟨_,_,h,_⟩:=O;cases h
   |dct=>obtain⟨_,_,h,_⟩:=O;cases h
   |tup xs=>obtain⟨_,_,h,_⟩:=O;cases h
  have eo:holdO B z d p=if isT d=true then .go (setB B z d) (p+1) else .stop (flt "big"):=by
   cases d with
   |non=>exact absurd rfl c
   |_=>rfl
  rw [eo] at k;refine Qp (ug hv) ?_;refine⟨0,v,d,1,O,λH1 s1=>⟨0,?_⟩⟩;cases ht:isT d with
  |false=>
   rw [ht] at k;refine iteT ⟨two,λl U=> ?_⟩;have s2:Same H (upd H1 l (.tup [.str "fault",.str "big"])):=s1.trans (qf U _);exists 0,m.x,_,dx,fs,1,s2 _ _ e,T.qu,T.qK,Z;obtain⟨m1,m2⟩:=yk (r:=⟨B,p,n,gs,flt "big"⟩) (s2 _ _ e) (f.set_there (u:= .ref l)) (ir.mono s2.tk) (iu.mono s2.tk) (ib.same s2) (s2 _ _ hg) (gl.mono s2.tk) (fl "big" H1 l () U)
   exact k _ ((Mv.of s2).trans m2) m1
  |true=>
   rw [ht] at k;refine iteF ?_;have ad:=O.mono s1.tk;obtain⟨kvs,ac,ae,t2⟩:=(ib.same s1).put hz ad;have n1:m.db≠m.x:=Ym.ne e ib;have n3:m.dg≠m.db:=λz=>by
    obtain⟨ff,e2,_⟩:=ib;rw [z,e2] at hg;cases hg
   have e1:=s1 _ _ e;have e3:(upd H1 m.db (.dK kvs)) m.x=some (.ins a.qo dx fs):=by rwa [qh n1.symm]
   exists 0,0,m.x,_,dx,fs,0,e1,T.qu,T.Qs,f.boxes,0,m.db,0,ac;exists 0,m.x,_,dx,fs,0,e3,T.qu,T.Qh,f.place,p,(1),1,1,dx,fs,e3,Z;obtain⟨m1,m2⟩:=yk (r:=⟨setB B z d,p+1,n,gs,.non⟩) e3 (f.set_place (q:=p+1)) ((ir.mono s1.tk).mono t2) ((iu.mono s1.tk).mono t2) ae (by rw [qh n3];exact s1 _ _ hg) ((gl.mono s1.tk).mono t2) it
   exact k _ ((Mv.of s1).trans (Mv.trans ⟨λb o h _ a2 _=>by rwa [qh a2],t2⟩ m2)) m1
noncomputable def MKR:oj Str:= ["text","self","copy","row","put","join","first","rest","size","cut","glue"]
noncomputable def lineNo (ps:oj Pt):Int:=match ps.getLast? with
 |some (.n i)=>i
 |_=>0
noncomputable def rowO (own:Str)(r:Rw)(B:Str->D)(p:Int):Out:=
 if r.1∈MKR then holdO B (b0 r.2) (made r.1 B own r.2) p else if r.1∈ASK then .stop (askF r.1 (B (b1 r.2))) else if r.1="say" then .stop (.tup [.str "said",B (b0 r.2)]) else
 if r.1="fault" then .stop (flt "told") else if jump r.1 B r.2=true then .go B (lineNo r.2) else .go B (p+1)
theorem frm_mk:∀x∈FRM,x.1∈MKR->x.2.head? =some .box:=by decide+kernel
theorem wj:∀x∈FRM,x.1∈ASK->x.1∉MKR/\x.1∈NOMK/\x.2= [.box,.box]:=by decide+kernel
theorem frm_say:∀x∈FRM,x.1="say"->x.2= [.box]:=by decide+kernel
theorem frm_all:∀x∈FRM,x.1∈MKR∨(x.1∉MKR/\x.1∈NOMK/\(x.1∈ASK∨x.1∉ASK/\(x.1="say"∨x.1="fault"∨x.1≠"say"/\x.1≠"fault"/\x.1∈JMP))):=by decide+kernel
theorem frm_jmp:∀x∈FRM,x.1∈JMP->x.2.getLast? =some .line:=by decide+kernel
variable {r:Rw}
theorem mk_b0 {m:Nat}(h:jO n m r)(U:r.1∈MKR):∃z ps,r.2= .s z::ps/\z∈BX:=by
 obtain⟨ks,Z,O⟩:=h;have:=frm_mk _ Z U
 match ks,O,this with
 | .box::ks,O,_=>
  match h2:r.2,O with
  | .s z::ps,O=>exact⟨z,ps,1,O.1⟩
  | .n _::_,O=>exact O.1.elim
theorem WA {n m:Nat}:∀{ks:oj Kd}{ps:oj Pt},xm n m ks ps->ks.getLast? =some .line->∃qs i,ps=qs++ [.n i]/\1<=i/\i<=(n:Int)
 | [k],[p],h,e=>by
  cases e;cases p with
  |n i=>exact⟨[],i,1,h.1⟩
  |s z=>exact h.1.elim
 |k::k2::ks,p::p2::ps,h,e=>by
  rw [UJ] at e;obtain⟨qs,i,O,hi⟩:=WA (ks:=k2::ks) (ps:=p2::ps) h.2 e;exact⟨p::qs,i,by rw [O];rfl,hi⟩
 | [k],p::_::_,h,_=>h.2.elim
 |k::_::_,[p],h,_=>h.2.elim
 | [],[],_,e=>by cases e
 | [],_::_,h,_=>h.elim
 |_::_,[],h,_=>h.elim
theorem jmp_last {m:Nat}(h:jO n m r)(O:r.1∈JMP):∃qs i,r.2=qs++ [.n i]/\1<=i/\i<=(n:Int)/\lineNo r.2=i:=by
 obtain⟨ks,U,Z⟩:=h;obtain⟨qs,i,e,h1,h2⟩:=WA Z (frm_jmp _ U O);exists qs,i,e,h1,h2;unfold lineNo;rw [e,List.getLast?_concat]
inductive sp_dorow (C:Addr) (vs:List V) (H:Hp) (Q:VK) (E_:XK):Prop
 |mk (m:Mc) (r:Rn) (rw:Rw) (v:V) (k:Nat) (_:vs= [.ref m.x,v]) (_:y9 C H m r) (_:r.th= .non) (_:Tr r.B) (_:m.own.length<=100) (_:jO k 300 rw) (_:Is H (rowD rw) v) (_:∀H',Mv m H H'->y9 C H' m ⟨(rowO m.own rw r.B r.p).B r.B,(rowO m.own rw r.B r.p).P r.p,r.n,r.gs,(rowO m.own rw r.B r.p).T⟩->Q .non H')
variable {x:Str}
theorem mk_of (T:Tx K mg a)(C:Fx K w mg g a)(h:x∈MKR):∃f fd,PySem.W.nsIn K g.makers x=some (some (.ref f))/\FnOk P w K mg base CX0 1 f fd ["boxes","own","parts"] (Xm x)/\XT K fd ["boxes","own","parts"] []/\PySem.W.keepIn K (.ref f)=true:=by
 simp only [MKR,uC,uD,uM] at h;rcases h with rfl|rfl|rfl|rfl|rfl|rfl|rfl|rfl|rfl|rfl|rfl
 ·exact⟨_,_,C.k_text,ok_text T,T.g_text_made.b,T.g_text_made.F.kp⟩
 ·exact⟨_,_,C.k_self,ok_self T,T.g_self_made.b,T.g_self_made.F.kp⟩
 ·exact⟨_,_,C.k_copy,ok_copy T,T.g_copy_made.b,T.g_copy_made.F.kp⟩
 ·exact⟨_,_,C.k_row,ok_row T,T.g_row_made.b,T.g_row_made.F.kp⟩
 ·exact⟨_,_,C.k_put,ok_put T,T.g_put_made.b,T.g_put_made.F.kp⟩
 ·exact⟨_,_,C.k_join,ok_join T,T.g_join_made.b,T.g_join_made.F.kp⟩
 ·exact⟨_,_,C.k_first,ok_first T,T.g_first_made.b,T.g_first_made.F.kp⟩
 ·exact⟨_,_,C.k_rest,ok_rest T,T.g_rest_made.b,T.g_rest_made.F.kp⟩
 ·exact⟨_,_,C.k_size,ok_size T,T.g_size_made.b,T.g_size_made.F.kp⟩
 ·exact⟨_,_,C.k_cut,ok_cut T,T.g_cut_made.b,T.g_cut_made.F.kp⟩
 ·exact⟨_,_,C.k_glue,ok_glue T,T.g_glue_made.b,T.g_glue_made.F.kp⟩
theorem ok_dorow (T:Tx K mg a)(C:Fx K w mg g a):#[K,4,a.jE,a.jD,["self","row"],(sp_dorow a.qo)]:=by
 have ZR:=#[ok_jump,T];have Zc:=#[ok_asked,T];have wR:=#[ok_hold,T];exists 9,T.g_Machine_do_row,yK
 obtain⟨m,⟨B,p,n,gs,th⟩,r,v,nn,rfl,M,af,hT,ho,ad,iv,k⟩:=h;simp only at af hT k;subst af;exists _,%[#[qC,(2),yK.nd,#[qN,qM,pv 1,qi]],#[qC,(3),yK.nd,#[qN,qM,pv 1,qi]]|#[qI,#[qr,op_inK,pv 2,#[pe_gR,C.m_MAKERS],#[w]],%[|#[qY,#[Qm,pv 0,T.qu,T.g_Machine_hold,wR,#v[#[qN,qM,pv 3,qi],#[pe_callX,9,(1),5,⟨1,1,1,1,1⟩,#[qN,ix_K,#[pe_gR,C.m_MAKERS],pv 2],hr.mono (),#v[#[qL,5,pv 0,rfl],#[qL,5,pv 0,rfl],pv 3],_,_]]]]],%[|#[qI,#[qr,QI,pv 2,#[pe_gR,C.m_ASKING],#[w]],%[|#[Qc,#[qt,Zc,hr.mono (),T.g_asked_or_fault,#v[pv 2,#[QE,#[qL,5,pv 0,rfl],#[qN,qM,pv 3,qi]]]]]],%[|#[qI,#[qr,Qn,pv 2,ql,qy _],%[|#[Qc,#[qB,#v[ql,#[QE,#[qL,5,pv 0,rfl],#[qN,qM,pv 3,qi]]]]]],%[|#[qI,#[qr,Qn,pv 2,ql,qy _],%[|#[Qc,#[qB,#v[ql,ql]]]],%[|#[qI,#[Qj,#[qt,ZR,hr.mono (),T.g_is_jump_taken,#v[#[qL,5,pv 0,rfl],pv 2,pv 3]]],%[|#[Qc,#[qN,qM,pv 3,#[pe_un,6,zO,qi]]]],%[|#[Jc,10,pv 0,qi,in_add]]]]]]]]]]]]
 exists 7
 have two:(2:Nat)<=sizeLine:=by decide
 obtain⟨U,ps⟩:=r;obtain⟨t0,us,rfl,et,iu⟩:=iv;obtain⟨v1,u1,rfl,⟨rfl,aq⟩,v2,u2,rfl,i2,e2⟩:=iu;cases(show u2= [] from e2)
 exists 0,t0,_,(0),0,1,SqT.of et,1;exists 0,t0,_,(1),0,1,SqT.of et,1;obtain⟨t1,au,rfl,aw,ax⟩:=id i2;have ac:PtsAt H t1 ps:=i2;have al:=ad;obtain⟨ks,hk,hp⟩:=al;have hM:=M;obtain⟨dx,fs,rv,ru,tv,gv,e,f,ir,ij,ib,hg,gl,it⟩:=hM;simp only at f ib gl it;have ae:fs.length<1000:=by have:=f.len;omega
 rcases frm_all _ hk with Z|⟨Z,am,aa⟩
 ·obtain⟨fa,fd,hn,hF,hb,ao⟩:=mk_of (P:=P) (base:=base) T C Z;obtain⟨z,qs,rfl,ap⟩:=mk_b0 ad Z;have eo:rowO m.own (U,.s z::qs) B p=holdO B z (made U B m.own (.s z::qs)) p:=by unfold rowO;rw [A3 Z];rfl
  rw [eo] at k;exists 0,U,g.makers,0,1,C.km,hn,0;refine iteT ?_;exists 0,m.x,dx,fs,1,e,f.meth _ (),0
  dsimp only [tC];refine box_at (i:=0) ac rfl ?_;exists 0,U,g.makers,_,.ref fa,1,1,C.km,hn,1,fa,fd,_,Xm U,1,hF,hb,ao;exists 0,m.x,_,dx,fs,0,e,T.qu,T.Qs,f.boxes,0,m.x,_,dx,fs,0,e,T.qu,T.XC,f.own,0;refine⟨m.db,t1,m.own,B,.s z::qs,nn,1,ib,hT,ho,ad,ac,λv H1 s1 hv=> ?_⟩;exact⟨m,⟨B,p,n,gs,.non⟩,z,v,0,M.same s1,1,ap,hv,λH2 m2 M2=>k H2 ((Mv.of s1).trans m2) M2⟩
 ·exists 0,U,g.makers,0,1,C.km,C.k_no _ am,0;refine iteF ?_;exists 0,g.asking,0,.inr (C.asking _),1,1,0;have ei:inV (.str U) [.str "ask",.str "has",.str "names"]=decide (U∈ASK):=zh (z:=U) (l:=ASK);rw [A2 ub,ei];rcases aa with O|⟨O,aa⟩
  ·refine QK (ue O) ?_;obtain⟨_,_,ek⟩:=wj _ hk O;simp only at ek;subst ek;obtain⟨z0,z1,rfl,h0,h1⟩:=ZQ hp;have eo:rowO m.own (U,[.s z0,.s z1]) B p= .stop (askF U (B z1)):=by unfold rowO;rw [A2 Z,A3 O];rfl
   rw [eo] at k;exists 0,0,m.x,_,dx,fs,0,e,T.qu,T.Qs,f.boxes,0;dsimp only [tC];refine bget (i:=1) ib ac rfl h1 λv hv=> ?_;refine⟨U,v,B z1,1,O,hv,λu H1 s1 hu=> ?_⟩;exists 0,m.x,_,dx,fs,1,s1 _ _ e,T.qu,T.qK,ae;obtain⟨m1,m2⟩:=yk (r:=⟨B,p,n,gs,askF U (B z1)⟩) (s1 _ _ e) (f.set_there (u:=u)) (ir.mono s1.tk) (ij.mono s1.tk) (ib.same s1) (s1 _ _ hg) (gl.mono s1.tk) hu;exact k _ ((Mv.of s1).trans m2) m1
  ·refine Qp (ug O) ?_;exists 0,1,0;have es:∀y:Str,decide (V.str U=V.str y)=decide (U=y):=λy=>by
    rw [uX];exact⟨λh=>by injection h,λh=>by rw [h]⟩
   rcases aa with rfl|rfl|⟨hs,hf,hj⟩
   ·refine QK (ue rfl) ?_;have ek:=frm_say _ hk rfl;simp only at ek;subst ek;obtain⟨z0,rfl,h0⟩:=sh_b hp;have eo:rowO m.own ("say",[.s z0]) B p= .stop (.tup [.str "said",B z0]):=by unfold rowO;rw [A2 Z,A2 O,A3 rfl];rfl
    rw [eo] at k;exists 0,m.x,_,dx,fs,0,e,T.qu,T.Qs,f.boxes,0;dsimp only [tC];refine bget (i:=0) ib ac rfl h0 λv hv=> ?_;refine⟨two,λl hl=> ?_⟩;have s1:Same H (upd H l (.tup [.str "said",v])):=qf hl _;exists 0,m.x,_,dx,fs,1,s1 _ _ e,T.qu,T.qK,ae;obtain⟨m1,m2⟩:=yk (r:=⟨B,p,n,gs,.tup [.str "said",B z0]⟩) (s1 _ _ e) (f.set_there (u:= .ref l)) (ir.mono s1.tk) (ij.mono s1.tk) (ib.same s1) (s1 _ _ hg) (gl.mono s1.tk) (Is.new (ds:= [.str "said",B z0]) ⟨_,0,⟨1,yJ ()⟩,_,0,hv,1⟩ hl)
    exact k _ ((Mv.of s1).trans m2) m1
   ·have ag:¬(("fault":Str)="say"):=by decide+kernel
    refine Qp (ug λh=>ag (by injection h)) ?_
    refine⟨0,1,0,QK (ue rfl) ?_⟩;have eo:rowO m.own ("fault",ps) B p= .stop (flt "told"):=by unfold rowO;rw [A2 Z,A2 O,A2 ag,A3 rfl]
    rw [eo] at k;refine⟨two,λl hl=> ?_⟩;have s1:Same H (upd H l (.tup [.str "fault",.str "told"])):=qf hl _;exists 0,m.x,_,dx,fs,1,s1 _ _ e,T.qu,T.qK,ae;obtain⟨m1,m2⟩:=yk (r:=⟨B,p,n,gs,flt "told"⟩) (s1 _ _ e) (f.set_there (u:= .ref l)) (ir.mono s1.tk) (ij.mono s1.tk) (ib.same s1) (s1 _ _ hg) (gl.mono s1.tk) (Is.new (ds:= [.str "fault",.str "told"]) ⟨_,0,⟨1,yJ ()⟩,_,0,⟨1,yJ ()⟩,1⟩ hl)
    exact k _ ((Mv.of s1).trans m2) m1
   ·refine Qp (by rw [es];exact ug hs) ?_
    refine⟨0,1,0,Qp (by rw [es];exact ug hf) ?_⟩
    have eo:rowO m.own (U,ps) B p=if jump U B ps=true then .go B (lineNo ps) else .go B (p+1):=by unfold rowO;rw [A2 Z,A2 O,A2 hs,A2 hf]
    rw [eo] at k;obtain⟨qs,i,ah,h1,h2,hl⟩:=jmp_last ad hj;simp only at ah hl;exists 0,m.x,_,dx,fs,0,e,T.qu,T.Qs,f.boxes,0,0,m.db,t1,U,B,ps,nn,1,ib,hT,hj,ad,ac,0;cases ak:jump U B ps with
    |true=>
     rw [ak] at k;refine iteT ⟨0,(1),1,?_⟩;refine xq (i:= -1) (d:= .int i) ac (by rw [ah,uw];exact ji _ _) λq hq=> ?_
     cases(show q= .int i from hq)
     exists 0,m.x,_,dx,fs,1,e,T.qu,T.Qh,ae;obtain⟨m1,m2⟩:=yk (r:=⟨B,i,n,gs,.non⟩) e (f.set_place (q:=i)) ir ij ib hg gl it;refine k _ m2 ?_;show y9 _ _ _ ⟨B,lineNo ps,n,gs,.non⟩;rwa [hl]
    |false=>
     rw [ak] at k;refine iteF ⟨0,m.x,_,dx,fs,0,e,T.qu,T.Qh,f.place,p,(1),1,1,dx,fs,e,ae,?_⟩;obtain⟨m1,m2⟩:=yk (r:=⟨B,p+1,n,gs,.non⟩) e (f.set_place (q:=p+1)) ir ij ib hg gl it;exact k _ m2 m1
noncomputable def jR (rs:oj Rw)(p:Int):Rw:=rs.getD (p.toNat-1) ("fault",[])
noncomputable def runS (rs:oj Rw)(own:Str)(gs:oj D):Nat->(Str->D)->Int->Nat->Rn
 |0,B,p,n=>⟨B,p,n,gs,if p>rs.length then flt "silent" else flt "long"⟩
 |f+1,B,p,n=>if p>rs.length then⟨B,p,n,gs,flt "silent"⟩ else match rowO own (jR rs p) B p with
  | .go B' p'=>runS rs own gs f B' p' (n+1)
  | .stop e=>⟨B,p,if QR e=true then n else n+1,gs,e⟩
variable {rs:oj Rw}
theorem row_at {p:Int}(h1:1<=p)(h2:p<=rs.length):rs[p.toNat-1]? =some (jR rs p):=by
 unfold jR;have h:p.toNat-1<rs.length:=by omega
 simp [List.getD,h]
theorem kY {p:Int}(h1:1<=p)(h2:p<=rs.length):jR rs p∈rs:=uZ (row_at h1 h2)
variable {e:D}
theorem kh {B:Str->D}(h:Tr B)(O:isT e=true):Tr (setB B z e):=λy U=>by
 unfold setB;by_cases c:y=z
 ·rwa [A3 c]
 ·rw [A2 c];exact h y U
noncomputable def OutOk (n:Int):Out->Prop
 | .go B p=>Tr B/\1<=p/\p<=n+1
 | .stop e=>∃w d,e= .tup [.str w,d]
theorem holdO_ok {B:Str->D}{p n:Int}(h:Tr B)(h1:1<=p)(h2:p<=n):OutOk n (holdO B z e p):=by
 have O:OutOk n (if isT e=true then .go (setB B z e) (p+1) else .stop (flt "big")):=by
  by_cases c:isT e=true
  ·rw [A3 c];exact⟨kh h c,(),()⟩
  ·rw [A2 c];exact⟨_,0⟩
 cases e with
 |non=>exact⟨_,0⟩
 |_=>exact O
theorem askF_ok (w:Str)(d:D):∃u e,askF w d= .tup [.str u,e]:=by
 unfold askF;split
 ·split
  ·exact⟨_,0⟩
  ·exact⟨_,0⟩
 ·split
  ·exact⟨_,0⟩
  ·exact⟨_,0⟩
variable {own:Str}
theorem rowO_ok {B:Str->D}{p:Int}(hr:jO n 300 r)(h:Tr B)(h1:1<=p)(h2:p<=n):OutOk n (rowO own r B p):=by
 unfold rowO;by_cases O:r.1∈MKR
 ·rw [A3 O];exact holdO_ok h h1 h2
 rw [A2 O];by_cases U:r.1∈ASK
 ·rw [A3 U];exact askF_ok _ _
 rw [A2 U];by_cases Z:r.1="say"
 ·rw [A3 Z];exact⟨_,0⟩
 rw [A2 Z];by_cases c4:r.1="fault"
 ·rw [A3 c4];exact⟨_,0⟩
 rw [A2 c4];by_cases c5:jump r.1 B r.2=true
 ·rw [A3 c5];obtain⟨ks,hk,hp⟩:=id hr;have hj:r.1∈JMP:=by
   rcases frm_all _ hk with q|⟨_,_,q|⟨_,q|q|q⟩⟩
   ·exact absurd q O
   ·exact absurd q U
   ·exact absurd q Z
   ·exact absurd q c4
   ·exact q.2.2
  obtain⟨qs,i,_,a1,a2,a3⟩:=jmp_last hr hj;exact⟨h,by rwa [a3],by rw [a3];omega⟩
 ·rw [A2 c5];exact⟨h,(),()⟩
inductive sp_goon (C:Addr) (vs:List V) (H:Hp) (Q:VK) (E_:XK):Prop
 |mk (m:Mc) (r:Rn) (_:vs= [.ref m.x]) (_:y9 C H m r) (_:r.th= .non) (_:Tr r.B) (_:m.own.length<=100) (_:ye m.rs) (_:1<=r.p) (_:r.p<=m.rs.length+1) (_:r.n<=300) (_:∀(H':Hp),Mv m H H'->y9 C H' m (runS m.rs m.own r.gs (300-r.n) r.B r.p r.n)->Q .non H')
theorem ok_goon (T:Tx K mg a)(C:Fx K w mg g a):#[K,5,a.Jr,a.j8,["self"],(sp_goon a.qo)]:=by
 have Zi:=#[ok_dorow,T,C];have Ql:=#[ok_wait,T];exists 9,T.g_Machine_go_on,Zj
 obtain⟨⟨x,db,dg,rs,own⟩,⟨B0,p0,n0,gs,th⟩,rfl,M0,aw,ax,ho,hR,aE,ay,aF,k⟩:=h;simp only at aw ax ho hR aE ay aF k;subst aw;exists _,%[|#[JE,#[qr,yX,#[qL,5,pv 0,rfl],qU,qy _],%[|#[qI,#[qr,op_gt,#[qL,5,pv 0,rfl],#[qz,qQ,T.Yd,uJ,#v[#[qL,5,pv 0,rfl]]],qy _],%[|#[Qc,#[qB,#v[ql,ql]]]],%[|#[qI,#[qr,Qn,#[qL,5,pv 0,rfl],#[kj,T.m_MOST_DONE],qy _],%[|#[Qc,#[qB,#v[ql,ql]]]],%[#[qY,#[Qm,pv 0,T.qu,T.g_Machine_do_row,Zi,#v[#[qN,qM,#[qL,5,pv 0,rfl],#[qS,op_sub,#[qL,5,pv 0,rfl],qi]]]]]|#[qI,#[Qx,#[Qj,#[yh,pv 0,T.qu,T.g_Machine_is_waiting,Ql]]],%[|#[Jc,10,pv 0,qi,in_add]],qw]]]]]]]]
 exists 7
 have two:(2:Nat)<=sizeLine:=by decide
 have n1:=hR.n1;generalize aA:runS rs own gs (300-n0) B0 p0 n0=res at k
 let J1_:Nat->L2.St->Hp->Prop:=λm σ H'=>∃(B:Str->D) (p:Int) (n:Nat) (th:D),σ= [some (.ref x)]/\y9 a.qo H' ⟨x,db,dg,rs,own⟩ ⟨B,p,n,gs,th⟩/\Mv ⟨x,db,dg,rs,own⟩ H H'/\Tr B/\1<=p/\p<=rs.length+1/\n<=300/\((th= .non/\runS rs own gs (300-n) B p n=res/\m=301-n)∨((∃u e,th= .tup [.str u,e])/\⟨B,p,n,gs,th⟩=res/\m=0))
 exists J1_,⟨_,B0,p0,n0,.non,1,M0,Mv.refl _ _,ax,(),(),(),.inl ⟨1,aA,1⟩⟩
 rintro m σ H' ⟨B,p,n,th,rfl,M,mv,hT,ad,al,hn,hc⟩;have hM:=M;obtain⟨dx,fs,rv,ru,tv,gv,e,f,ir,ij,ib,hg,gl,it⟩:=hM;simp only at e f ir ij ib hg gl it;have aB:fs.length<1000:=by have:=f.len;omega
 exists 0,x,_,dx,fs,tv,1,e,T.qu,T.qK,f.there,1,0;rcases hc with⟨rfl,Z,rfl⟩|⟨⟨u,d,rfl⟩,Z,rfl⟩
 ·cases(show tv= .non from it)
  have ag:∀{H:Hp},Is H .non .non:=rfl;refine QK () ?_
  refine⟨λσ' H2=>∃(B:Str->D) (p:Int) (n2:Nat) (th:D),σ'= [some (.ref x)]/\y9 a.qo H2 ⟨x,db,dg,rs,own⟩ ⟨B,p,n2,gs,th⟩/\Mv ⟨x,db,dg,rs,own⟩ H H2/\Tr B/\1<=p/\p<=rs.length+1/\n2<=300/\((th= .non/\runS rs own gs (300-n2) B p n2=res/\n<n2)∨((∃u e,th= .tup [.str u,e])/\⟨B,p,n2,gs,th⟩=res)),?_,?_⟩
  ·rintro σ' H2 ⟨B2,p2,n2,aM,rfl,M2,ae,aC,a1,a2,a3,aG⟩;rcases aG with⟨rfl,q1,q2⟩|⟨q0,q1⟩
   ·exact⟨301-n2,(),B2,p2,n2,0,M2,ae,aC,a1,a2,a3,.inl ⟨1,q1,1⟩⟩
   ·exact⟨(0),(),B2,p2,n2,0,M2,ae,aC,a1,a2,a3,.inr ⟨q0,q1,1⟩⟩
  ·have aH:=ir;obtain⟨ta,us,rfl,aI,iu⟩:=aH;have aN:us.length=rs.length:=by rw [iu.length,ua]
   have fl:∀(z:Str) (H:Hp) (l:o3),z.length<=100->H l=none->Is (upd H l (.tup [.str "fault",.str z])) (flt z) (.ref l):=λz H l hz hl=>Is.new (ds:= [.str "fault",.str z]) ⟨_,0,⟨1,yJ ()⟩,_,0,⟨1,yJ ()⟩,1⟩ hl
   have aa:∀(z:Str),z.length<=100->⟨B,p,n,gs,flt z⟩=res->∀l,H' l=none->(λH2=>∃(B:Str->D) (p:Int) (n2:Nat) (th:D),[some (V.ref x)]= [some (V.ref x)]/\y9 a.qo H2 ⟨x,db,dg,rs,own⟩ ⟨B,p,n2,gs,th⟩/\Mv ⟨x,db,dg,rs,own⟩ H H2/\Tr B/\1<=p/\p<=rs.length+1/\n2<=300/\((th= .non/\runS rs own gs (300-n2) B p n2=res/\n<n2)∨((∃u e,th= .tup [.str u,e])/\⟨B,p,n2,gs,th⟩=res))) (upd (upd H' l (.tup [.str "fault",.str z])) x (.ins a.qo dx (putF "there" (.ref l) fs))):=by
    intro z hz aJ l hl;have s1:Same H' (upd H' l (.tup [.str "fault",.str z])):=qf hl _;obtain⟨m1,m2⟩:=yk (m:=⟨x,db,dg,rs,own⟩) (r:=⟨B,p,n,gs,flt z⟩) (s1 _ _ e) (f.set_there (u:= .ref l)) (ir.mono s1.tk) (ij.mono s1.tk) (ib.same s1) (s1 _ _ hg) (gl.mono s1.tk) (fl z H' l hz hl);exact⟨B,p,n,flt z,1,m1,mv.trans ((Mv.of s1).trans m2),hT,ad,al,hn,.inr ⟨⟨_,0⟩,aJ⟩⟩
   exists 0,x,_,dx,fs,0,e,T.qu,T.Qh,f.place,0,x,_,dx,fs,0,e,T.qu,T.yW,f.rows,ta,us,1,.inr (SqT.of aI),_,0,1,0;refine ite2 (λc=> ?_) (λc=> ?_)
   ·have c':p>rs.length:=by have:=uq c;omega
    have er:⟨B,p,n,gs,flt "silent"⟩=res:=by
     rw [<-Z];cases h3:300-n with
     |zero=>unfold runS;rw [A3 c']
     |succ q=>unfold runS;rw [A3 c']
    refine⟨two,λl hl=> ?_⟩;have s1:Same H' (upd H' l (.tup [.str "fault",.str "silent"])):=qf hl _;exact⟨0,x,_,dx,fs,1,s1 _ _ e,T.qu,T.qK,aB,aa "silent" () er l hl⟩
   ·have c':¬p>rs.length:=λh=>c (ue ())
    exists 0,x,_,dx,fs,0,e,T.qu,T.yf,f.done,1,0;refine ite2 (λc2=> ?_) (λc2=> ?_)
    ·have e3:n=300:=by have:=uq c2;injection this with h;omega
     have er:⟨B,p,n,gs,flt "long"⟩=res:=by
      rw [<-Z,e3];show _=runS rs own gs 0 B p 300;unfold runS;rw [A2 c']
     refine⟨two,λl hl=> ?_⟩;have s1:Same H' (upd H' l (.tup [.str "fault",.str "long"])):=qf hl _;exact⟨0,x,_,dx,fs,1,s1 _ _ e,T.qu,T.qK,aB,aa "long" () er l hl⟩
    ·have e3:n<300:=by
      rcases US n 300 with h|h
      ·exact h
      ·exact absurd (ue (by rw [show n=300 by omega];rfl)) c2
     have am:p<=rs.length:=by omega
     have aD:=hR.ok _ (kY ad am);have hok:=rowO_ok (own:=own) aD hT ad am;have U:res=match rowO own (jR rs p) B p with
       | .go B' p'=>runS rs own gs (300-(n+1)) B' p' (n+1)
       | .stop e=>⟨B,p,if QR e=true then n else n+1,gs,e⟩:=by
      rw [<-Z,show 300-n=(300-(n+1))+1 by omega,runS,A2 c']
     exists 0,x,dx,fs,1,e,f.meth _ ()
     exists 0,x,_,dx,fs,0,e,T.qu,T.yW,f.rows,0,x,_,dx,fs,0,e,T.qu,T.Qh,f.place,_,0,1;have aK:atI (rs.map rowD) (p-1)=some (rowD (jR rs p)):=by
      rw [show p-1=((p.toNat-1:Nat):Int) by omega]
      exact QF (by rw [uH,row_at ad am];rfl)
     refine xq (d:=rowD (jR rs p)) ir aK λq hq=> ?_;refine⟨⟨x,db,dg,rs,own⟩,⟨B,p,n,gs,.non⟩,jR rs p,q,rs.length,1,M,1,hT,ho,aD,hq,λH2 m2 M2=> ?_⟩;have aL:=M2;obtain⟨af,ac,aO,aP,aQ,aR,e2,f2,ao,ap,ah,aq,au,ag⟩:=aL;simp only at e2 f2 ao ap ah aq au ag;have ak:ac.length<1000:=by have:=f2.len;omega
     have ae:=mv.trans m2;generalize hO:rowO own (jR rs p) B p=O at hok U M2 ag ah f2;cases O with
     |go B' p'=>
      obtain⟨q1,q2,q3⟩:=hok;exists 0,x,af,ac,1,e2,f2.meth _ (),_,0,M2,.inl rfl,0
      refine QK rfl ?_;exists 0,x,_,af,ac,0,e2,T.qu,T.yf,f2.done,(n:Int),(1),1,1,af,ac,e2,ak;obtain⟨m3,m4⟩:=yk (m:=⟨x,db,dg,rs,own⟩) (r:=⟨B',p',n+1,gs,.non⟩) e2 (f2.set_done (k:=n+1)) ao ap ah aq au ag;exact⟨B',p',n+1,.non,1,m3,ae.trans m4,q1,q2,q3,(),.inl ⟨1,U.symm,()⟩⟩
     |stop d=>
      obtain⟨u,d2,rfl⟩:=hok;exists 0,x,af,ac,1,e2,f2.meth _ (),_,0,M2,.inr ⟨_,0⟩,0
      cases hw:QR (.tup [.str u,d2]) with
      |true=>
       simp only [hw] at U;refine Qp (by show(!QR (.tup [.str u,d2]))=false;rw [hw];rfl) ?_
       exact⟨B,p,n,0,M2,ae,hT,ad,al,hn,.inr ⟨⟨_,0⟩,U.symm⟩⟩
      |false=>
       simp only [hw] at U;refine QK (by show(!QR (.tup [.str u,d2]))=true;rw [hw];rfl) ?_
       exists 0,x,_,af,ac,0,e2,T.qu,T.yf,f2.done,(n:Int),(1),1,1,af,ac,e2,ak;obtain⟨m3,m4⟩:=yk (m:=⟨x,db,dg,rs,own⟩) (r:=⟨B,p,n+1,gs,.tup [.str u,d2]⟩) e2 (f2.set_done (k:=n+1)) ao ap ah aq au ag;exact⟨B,p,n+1,0,m3,ae.trans m4,hT,ad,al,(),.inr ⟨⟨_,0⟩,U.symm⟩⟩
 ·have:tv≠ .non:=by obtain⟨_,_,h,_⟩:=it;rw [h];exact λz=>by cases z
  refine Qp (ug this) ?_;refine k H' mv ?_;rw [<-Z];exact M
noncomputable def emp (z:Str):D:= .tup [.str z,.str ""]
theorem prs_of {H:Hp}:∀{zs:oj Str}{ys:oj V},L2.IsL H (zs.map emp) ys->∃ts:oj o3,ys=ts.map V.ref/\ts.length=zs.length/\∀(i:Nat) (t:o3) (z:Str),ts[i]? =some t->zs[i]? =some z->H t=some (.tup [.str z,.str ""])
 | [],_,h=>by
  cases(show _= [] from h)
  exact⟨[],1,1,λi t z h=>by simp at h⟩
 |y::zs,_,h=>by
  obtain⟨v,r,rfl,⟨t,us,rfl,O,v1,u1,rfl,⟨rfl,_⟩,v2,U,rfl,⟨rfl,_⟩,Z⟩,h2⟩:=h;cases(show U= [] from Z)
  obtain⟨ts,rfl,hl,hi⟩:=prs_of h2;refine⟨t::ts,1,by rw [um,hl];rfl,λi q z h1 h3=> ?_⟩
  cases i with
  |zero=>
   cases h1;cases h3;exact O
  |succ j=>exact hi j q z (by simpa using h1) (by simpa using h3)
variable {ys:oj V}
theorem prs_box {A:o3}(e:H A=some (.lst ys))(h:L2.IsL H (BX.map emp) ys):PairsL H A (BX.map λz=>(z,V.str "")):=by
 obtain⟨ts,rfl,U,hi⟩:=prs_of h;refine⟨ts,e,by rw [U,ua],λi t p h1 h2=> ?_⟩
 rw [uH] at h2;cases O:BX[i]? with
 |none=>rw [O] at h2;cases h2
 |some z=>
  rw [O] at h2;cases h2;exact hi i t z h1 O
noncomputable def B0:Str->D:=λ_=> .str ""
variable {q:o3}
theorem box_new (O:H q=none):Ym (upd H q (.dK (inrK (BX.map λz=>(z,V.str ""))))) q B0:=by
 refine⟨λ_=> .str "",?_,λz _=>⟨1,yJ ()⟩⟩
 rw [qg];unfold inrK kvB;rw [uN]
 rfl
theorem B0_tr:Tr B0:=λ_ _=>(by decide+kernel:isT (.str "")=true)
theorem bx_nodup:((BX.map λz=>(z,V.str "")).map (·.1)).Nodup:=by
 rw [uN];show(BX.map id).Nodup;rw [List.map_id]
 decide+kernel
theorem putF_le (f:Str)(v:V):∀fs:oj (Str×V),(putF f v fs).length<=fs.length+1
 | []=>ui _
 |(g,x)::r=>by
  unfold putF;by_cases c:g=f
  ·rw [A3 c];simp
  ·rw [A2 c];have:=putF_le f v r;simp only [um];omega
noncomputable def FLD:oj Str:= ["rows","rule","own","boxes","place","done","given","there"]
theorem mth_fld:∀m∈MTH,m∉FLD:=by decide+kernel
variable {v:V}
theorem fl_new {db dg:o3}(O:(putF "there" .non (putF "given" (.ref dg) (putF "done" (.int 0) (putF "place" (.int 1) (putF "boxes" (.ref db) (putF "own" (.str own) (putF "rule" v (putF "rows" rv [])))))))).length<=20):
  Fl (putF "there" .non (putF "given" (.ref dg) (putF "done" (.int 0) (putF "place" (.int 1) (putF "boxes" (.ref db) (putF "own" (.str own) (putF "rule" v (putF "rows" rv [])))))))) rv v own db dg 1 0 .non:=by
 refine⟨?_,?_,?_,?_,?_,?_,?_,?_,λm hm=> ?_,O⟩
 ·iterate 7 rw [qF,A2 ()]
  rw [qF,A3 rfl]
 ·iterate 6 rw [qF,A2 ()]
  rw [qF,A3 rfl]
 ·iterate 5 rw [qF,A2 ()]
  rw [qF,A3 rfl]
 ·iterate 4 rw [qF,A2 ()]
  rw [qF,A3 rfl]
 ·iterate 3 rw [qF,A2 ()]
  rw [qF,A3 rfl]
 ·iterate 2 rw [qF,A2 ()]
  rw [qF,A3 rfl]
  rfl
 ·rw [qF,A2 (),qF,A3 rfl]
 ·rw [qF,A3 rfl]
 ·have h:=mth_fld m hm
  iterate 8 rw [qF,A2 (λe=>h (by rw [e];decide+kernel))]
  rfl
structure Ini (n:Nat)(H:Hp)(C x dx:o3)(fs:oj (Str×V))(H':Hp):Prop where
 len:fs.length<=n
 at':H' x=some (.ins C dx fs)
 kept:∀b o,H b=some o->b≠x->H' b=some o
theorem Ini.put {x:o3}{fs:oj (Str×V)}(I:Ini n H C x dx fs H')(f:Str)(v:V):Ini (n+1) H C x dx (putF f v fs) (upd H' x (.ins C dx (putF f v fs)))/\Tk H' (upd H' x (.ins C dx (putF f v fs))):=
 ⟨⟨uL (putF_le f v fs) (Nat.succ_le_succ I.len),qg,λb o h n=>by rw [qh n];exact I.kept b o h n⟩,Tk.updI I.at'⟩
theorem Ini.same {x:o3}{fs:oj (Str×V)}(I:Ini n H C x dx fs H')(s:Same H' H2):Ini n H C x dx fs H2:=⟨I.len,s _ _ I.at',λb o h n=>s _ _ (I.kept b o h n)⟩
theorem lc_box {K:o0}{b A:o3}{H1:Hp}{te:TE}{tl:L2.St}{Q:VK}(O:∀H,SqT K H b (BX.map V.str))(hA:H1 A=none)
  (U:∀(z:Str) H (R:VK),z.length<=sizeLine->Same H1 H->(∀y H',Same H H'->Is H' (emp z) y->R y H')->te (some (.str z)::tl) H R)
  (hQ:∀H' ys,Same H1 H'->H' A=some (.lst ys)->L2.IsL H' (BX.map emp) ys->Q (.ref A) H'):lcGo A (Itt K b) (Jn 0) tYes te (none::tl) H1 Q:=by
 have hl:∀H,L2.IsL H (BX.map D.str) (BX.map V.str):=λH=>IsL.ofStrs λz Z=>yJ (by rw [(box_ok Z).1];decide)
 refine lc_data (ds:=BX.map D.str) (λd=>match d with| .str z=>emp z|d=>d) (yJ ()) hA (λi H sm hi=>⟨BX.map V.str,(BX.map V.str)[i]'(by simpa using hi),O H,uj _⟩) (λi H x H' d sm hd y=> ?_) (λH sm=>⟨BX.map V.str,O H,by simp⟩) (λd x H R hd sm hx r=> ?_) (λH' ys sm e h=>hQ H' ys sm e ?_)
 ·obtain⟨rfl,y⟩:=y;obtain⟨v,e1,e2⟩:=(hl H').get hd;have:=y _ (O H');rw [e1] at this;cases this;exact⟨1,e2⟩
 ·obtain⟨z,_,rfl⟩:=A8.mp hd;obtain⟨rfl,Z⟩:=hx;exact U z H R Z sm r
 ·rwa [uN] at h
theorem isNm_str:∀{d:D},isNm d=true->∃own,d= .str own/\nm own=true/\own.length<=100
 | .str z,h=>⟨z,1,h,by
  rcases US 24 z.length with h1|h1
  ·rw [show isNm (.str z)=nm z from rfl,nm_len (λq=>by omega)] at h
   cases h
  ·omega⟩
theorem back_rows {n:Nat}:∀{ds:oj D},ds.all (λd=>(Qi n d).isSome)=true->((ds.filterMap (Qi n)).map λr=>D.str (y8 r))=ds/\(ds.filterMap (Qi n)).length=ds.length/\∀r∈ds.filterMap (Qi n),jO n 300 r
 | [],_=>⟨1,1,λr h=>by simp at h⟩
 |d::ds,h=>by
  rw [vo,uz] at h;obtain⟨r,O⟩:=XI h.1;obtain⟨Z,i2,i3⟩:=back_rows h.2;cases d with
  |str z=>
   obtain⟨h1,h2⟩:=rowOf_ok (show ZZ n z=some r from O)
   rw [U3 O];refine⟨by rw [uh,h2,Z],by rw [um,um,i2],λx U=> ?_⟩
   rcases A5.mp U with rfl|U
   ·exact h1
   ·exact i3 x U
  |_=>cases O
theorem readD_ok:∀{d:D}{rs:oj Rw},yc d=some rs->ye rs/\d=xy rs
 | .tup ds,rs,h=>by
  rw [Xc] at h;split at h
  ·rename_i O
   cases h;simp only [uz,v9] at O;obtain⟨⟨⟨h1,h2⟩,h3⟩,h4⟩:=O;obtain⟨U,Z,i3⟩:=back_rows h3;have e:xy (ds.filterMap (Qi ds.length))= .tup ds:=congrArg D.tup U;exact⟨⟨(),(),λr hr=>by rw [Z];exact i3 r hr,by rwa [e]⟩,e.symm⟩
  ·cases h
inductive sp_minit (C br bn:Addr) (vs:List V) (H:Hp) (Q:VK) (E:XK):Prop
 |mk (x dx:Addr) (v ov:V) (d od:D) (_:vs= [.ref x,v,ov]) (_:H x=some (.ins C dx [])) (_:Is H d v) (_:Is H od ov) (_:(yc d=none->∀(e:Addr) (H':Hp),(∀b o,H b=some o->b≠x->H' b=some o)->E (.ref e) (some br) H')) (_:(yc d≠none->isNm od=false->∀(e:Addr) (H':Hp),(∀b o,H b=some o->b≠x->H' b=some o)->E (.ref e) (some bn) H')) (_:(∀(rs:List Rw) (own:Str),d=xy rs->ye rs->od= .str own->nm own=true->own.length<=100->∀(H':Hp) (db dg:Addr),(∀b o,H b=some o->b≠x->H' b=some o)->H db=none->H dg=none->y9 C H' ⟨x,db,dg,rs,own⟩ (runS rs own [] 300 B0 1 0)->Q .non H'))
theorem ok_minit (T:Tx K mg a)(C:Fx K w mg g a):FnOk P w K mg base (CX1 P w) 6 a.Y2 a.J4 ["self","rule","own"] (sp_minit a.qo g.br g.bn):=by
 have Q5:=#[XM,T];have O:=#[ok_rows,T,C];have Yr:=#[ok_goon,T,C];refine T.g_Machine_init.F.okX wG () (λ_ _ _ _ H _ Q E hr h=> ?_)
 obtain⟨x,dx,v,ov,d,od,rfl,hx,hv,ho,kR,kN,k⟩:=h;exists _,%[#[Qc,#[qt,16,O,hr.mono (),_,T.g_rule_rows.m,T.g_rule_rows.F.kp,T.g_rule_rows.b,.nil,pass1,#v[pv 1],_,_,_]],#[qI,#[Qx,#[Qj,#[qt,Q5,hr.mono (),T.g_is_name,#v[pv 2]]]],%[|#[ps_raise,22,C.x_BadName,_,C.m_BadName,ql,_,_]],qw],#[Qc,pv 1],#[Qc,pv 2],#[Qc,#[qW,#[WP,1,rfl],T.z_dict,boot_dict,#v[#[ZJ,["box"],[],lcs0,#[ko,4,#[pe_gR,C.m_BOXES]],(λ_ _ _ _ _ _=>#[qX,(0),(show List.Nodup (["box"]:oj Str) by decide+kernel)]),(λ_ _ _ _ _ _=>#[qB,#v[pv 0,ql]])]]]],#[Qc,qi],#[Qc,qi],#[Qc,#[QW,qd]],#[Qc,qU]|#[qY,#[yh,pv 0,T.qu,T.g_Machine_go_on,Yr]]]
 exists 7
 refine⟨0,v,d,1,hv,λrs al rv H1 s1 ir=> ?_,λhn e H1 s1=>kR hn e H1 λb o h _=>s1 b o h⟩;exists 0,x,_,dx,[],1,s1 _ _ hx,T.qu,T.yW,()
 have I0:Ini 0 H a.qo x dx [] H1:=⟨ui _,s1 _ _ hx,λb o h _=>s1 _ _ h⟩;obtain⟨I1,t1⟩:=I0.put "rows" rv;have aA:=ir.mono t1;have htk:∀{n:Nat}{fs:oj (Str×V)}{H':Hp},Ini n H a.qo x dx fs H'->Tk H H':=λ{n fs H'} I=>⟨λb xs e=>I.kept b _ e (λz=>by rw [z,hx] at e;cases e),λb xs e=>⟨_,I.kept b _ e (λz=>by rw [z,hx] at e;cases e)⟩,λb xs e=>⟨_,I.kept b _ e (λz=>by rw [z,hx] at e;cases e)⟩⟩
 refine⟨0,ov,od,1,ho.mono (htk I1),λH3 s3=>⟨0,?_⟩⟩;have I3:=I1.same s3;cases ac:isNm od with
 |false=>exact iteT ⟨1,λe=>kN (by rw [al];simp) ac e H3 I3.kept⟩
 |true=>
 refine iteF ?_;obtain⟨hR,rfl⟩:=readD_ok al;obtain⟨own,rfl,ac,am⟩:=isNm_str ac;cases(show ov= .str own from ho.1)
 have n1:=hR.n1;have k:=k rs own rfl hR rfl ac am;have aB:=aA.mono s3.tk;refine⟨0,0,x,_,dx,0,I3.at',T.qu,T.wU,by have:=I3.len;omega,?_⟩
 obtain⟨I4,t4⟩:=I3.put "rule" v;have aC:=aB.mono t4;refine⟨0,0,x,_,dx,0,I4.at',T.qu,T.XC,by have:=I4.len;omega,?_⟩
 obtain⟨I5,t5⟩:=I4.put "own" (.str own);have aD:=aC.mono t5;refine⟨g.boxes,0,C.boxes _,λaO A0 aE=> ?_⟩;refine lc_box (tl:= []) C.boxes aE (λz H6 R hz s6 r=>⟨0,(sml rfl),λl hl=>r _ _ (qf hl _) (Is.new (ds:= [.str z,.str ""]) ⟨_,0,⟨1,hz⟩,_,0,⟨1,yJ ()⟩,1⟩ hl)⟩) λH6 ys s6 e6 i6=> ?_
 refine⟨A0,0,prs_box e6 i6,bx_nodup,(),λdb Z=> ?_⟩
 have I6:=I5.same s6;have s7:Same H6 (upd H6 db (.dK (inrK (BX.map λz=>(z,V.str ""))))):=qf Z _;have I7:=I6.same s7;have b7:=box_new Z;have aF:=(aD.mono s6.tk).mono s7.tk;have nx:∀b o,H b=some o->b≠x->b≠db:=λb o h n=>qk (I6.kept b o h n) Z;have U:x≠db:=qk I6.at' Z;refine⟨0,x,_,dx,0,I7.at',T.qu,T.Qs,by have:=I7.len;omega,?_⟩
 obtain⟨I8,t8⟩:=I7.put "boxes" (.ref db);have b8:=b7.move t8 (qh U.symm);have aG:=aF.mono t8;refine⟨0,x,_,dx,0,I8.at',T.qu,T.Qh,by have:=I8.len;omega,?_⟩
 obtain⟨I9,t9⟩:=I8.put "place" (.int 1);have b9:=b8.move t9 (qh U.symm);have aH:=aG.mono t9;refine⟨0,x,_,dx,0,I9.at',T.qu,T.yf,by have:=I9.len;omega,?_⟩
 obtain⟨ad,ao⟩:=I9.put "done" (.int 0);have aI:=b9.move ao (qh U.symm);have ap:=aH.mono ao;refine⟨(sml rfl),λdg ae=> ?_⟩;have af:=qf ae (.lst []);have ag:=ad.same af;have aJ:=aI.same af;have aq:=ap.mono af.tk;have ah:dg≠x:=(qk ad.at' ae).symm;refine⟨0,x,_,dx,0,ag.at',T.qu,T.Yx,by have:=ag.len;omega,?_⟩
 obtain⟨ak,au⟩:=ag.put "given" (.ref dg);have aK:=aJ.move au (qh U.symm);have aw:=aq.mono au;refine⟨0,x,_,dx,0,ak.at',T.qu,T.qK,by have:=ak.len;omega,?_⟩
 obtain⟨aa,ax⟩:=ak.put "there" .non;have aL:=aK.move ax (qh U.symm);have ay:=aw.mono ax;have hl:=aa.len;exists 0,x,dx,0,aa.at',(fl_new ()).meth _ ()
 have aM:Is _ (xy rs) v:=hv.mono (htk aa);have frs:∀{b:o3}{H2:Hp},(∀c o,H c=some o->c≠x->H2 c=some o)->H2 b=none->b≠x->H b=none:=λ{b H2} k1 h1 n1=>by
  cases hc:H b with
  |none=>rfl
  |some o=>rw [k1 b o hc n1] at h1;cases h1
 have aN:∀b o,H b=some o->b≠x->b≠dg:=λb o h n=>qk (ad.kept b o h n) ae;refine⟨⟨x,db,dg,rs,own⟩,⟨B0,(1),(0),[],.non⟩,1,⟨dx,_,rv,v,.non,[],aa.at',fl_new (),ay,aM,aL,?_,1,1⟩,1,B0_tr,am,hR,Int.le_refl 1,by show(1:Int)<=(rs.length:Int)+1;omega,v7 _,λH' m M=>k H' db dg (λb o h n=>m.kept b o (aa.kept b o h n) n (nx b o h n) (aN b o h n)) (frs I6.kept Z U.symm) (frs ad.kept ae ah) M⟩
 rw [qh ah,qh ah,qg]
noncomputable def jM (z:Str):Bool:=z.cps.toList.all QC
theorem okAll_app {y:Str}(h:jM z=true)(k:jM y=true):jM (z++y)=true:=by
 unfold jM at*;show(z.cps++y.cps).toList.all QC=true;rw [Array.toList_append,UH,h,k];rfl
mutual
noncomputable def lw:D->Bool
 | .str z=>jM z
 | .tup xs=>lwL xs
 |_=>false
noncomputable def lwL:oj D->Bool
 | []=>true
 |x::r=>lw x&&lwL r
end
theorem len_cps (z:Str):z.length=z.cps.toList.length:=by show z.cps.size=_;simp
theorem isT_short (h:jM z=true)(O:z.length<=300):isT (.str z)=true:=by
 have U:Qy z=true:=by
  unfold Qy;rwa [ue O,Bool.true_and]
 have Z:sz (.str z)<=600:=by simp only [sz];omega
 have e2:dp (.str z)<=12:=by simp only [dp];omega
 have e3:good (.str z)=true:=by simp only [good];exact U
 unfold isT;rw [e3,ue Z,ue e2]
 rfl
noncomputable def isP:D->Bool
 | .tup xs=>decide (xs.length=2)
 |_=>false
noncomputable def isSrc:D->Bool
 | .tup [k,d]=>if eqD k (.str "made")=true then isNm d else(eqD k (.str "leaf")||eqD k (.str "rule"))&&isT d
 |_=>false
noncomputable def okS:D->Bool
 | .tup [k,_]=>okHd k&&decide (dp k<=60)
 |_=>true
inductive sp_pair (vs:List V) (H:Hp) (Q:VK) (E_:XK):Prop
 |mk (v:_) (d:_) (_:vs= [v]) (_:Is H d v) (_:Q (.bl (isP d)) H)
inductive sp_source (vs:List V) (H:Hp) (Q:VK) (E_:XK):Prop
 |mk (v:_) (d:_) (_:vs= [v]) (_:Is H d v) (_:okS d=true) (_:∀H',Same H H'->Q (.bl (isSrc d)) H')
inductive sp_cell (K:PySem.W.Frag) (vs:List V) (H:Hp) (Q:VK) (E_:XK):Prop
 |mk (q:Addr) (ns:List Int) (k:Int) (_:vs= [.ref q,.int k]) (_:0<=k) (_:SqL K H q (ns.map V.int)) (_:∀i:Int,Q (.int i) H)
theorem iteB {b:Bool}{A B:Prop}(O:b=true)(h:A):if b=true then A else B:=by rw [A3 O];exact h
theorem iteN {b:Bool}{A B:Prop}(O:b=false)(h:B):if b=true then A else B:=by rw [A2 (by rw [O];exact ub)];exact h
theorem ok_pair (T:Tx K mg a):#[K,1,a.f_is_pair,a.d_is_pair,["value"],sp_pair]:=by
 exists 9,T.g_is_pair,sc_is_pair
 obtain⟨v,d,rfl,U,k⟩:=h;exists _,%[|#[qp,#[pe_and,#[qz,#[qT,2,rfl],T.qP,uU,#v[pv 0,#[Q0,.ty "tuple",T.QD,vg]]],#[Wr,#[QZ,Qn,#[qz,Jp,T.Yd,uJ,#v[pv 0]],qi,qy _]]]]]
 exists 7
 exists 0,v,"tuple",tyD d,XN d,1,U.ty,xk d,0;cases Z:XN d with
 |false=>
  refine iteF ?_;have e:isP d=false:=by cases d<;>first|rfl|simp [XN] at Z
  rwa [e] at k
 |true=>
  obtain⟨xs,rfl⟩:∃xs,d= .tup xs:=by cases d<;>simp [XN] at Z;exact⟨0⟩
  obtain⟨p,us,rfl,hp,O⟩:=U;have lu:=O.length;refine iteT ⟨0,.inr ⟨p,us,1,.inr (SqT.of hp),λ_=>⟨1,?_⟩⟩⟩;have e:decide (V.int (us.length:Int)=V.int 2)=isP (.tup xs):=by
   simp only [isP,uX];constructor
   ·intro h;have:=V.int.inj h;omega
   ·intro h;rw [lu,h]
    rfl
  rwa [<-e] at k
theorem ok_source (T:Tx K mg a):#[K,3,a.Zx,a.Zv,["value"],sp_source]:=by
 have O:=#[ok_pair,T];have Q5:=#[XM,T];have yy:=#[Y8,T];exists 9,T.g_is_source,sc_is_source,Z
 obtain⟨v,d,rfl,hv,hok,k⟩:=h;exists _,%[#[qI,#[Qx,#[Qj,#[qt,O,Z.mono (),T.g_is_pair,#v[pv 0]]]],%[|#[qp,jN]],qw],#[qI,#[qr,#[op_eqM,1,Z.units],#[qN,qM,pv 0,qi],ql,qy _],%[|#[qp,#[qt,Q5,Z.mono (),T.g_is_name,#v[#[qN,qM,pv 0,qi]]]]],qw]|#[qp,#[pe_and,#[QZ,#[op_inM,1,Z.units],#[qN,qM,pv 0,qi],#[qB,#v[ql,ql]],#[w]],#[Wr,#[qt,yy,Z.mono (),T.g_is_tree,#v[#[qN,qM,pv 0,qi]]]]]]]
 exists 7
 exists 0,v,0,hv,0;cases hP:isP d with
 |false=>
  refine iteT ?_;have e:isSrc d=false:=by
   cases d with
   |tup xs=>
    match xs,hP with
    | [],_=>rfl
    | [_],_=>rfl
    | [_,_],h=>simp [isP] at h
    |_::_::_::_,_=>rfl
   |_=>rfl
  have:=k H (Same.refl _);rwa [e] at this
 |true=>
  refine iteF ?_;obtain⟨z,e,rfl⟩:∃z e,d= .tup [z,e]:=by
   cases d with
   |tup xs=>
    match xs,hP with
    | [],h=>simp [isP] at h
    | [_],h=>simp [isP] at h
    | [x,y],_=>exact⟨x,y,1⟩
    |_::_::_::_,h=>simp [isP] at h
   |_=>simp [isP] at hP
  obtain⟨p,us,rfl,hp,x1,r1,rfl,h1,x2,r2,rfl,h2,h3⟩:=id hv;cases(show r2= [] from h3)
  have U:okHd z=true/\dp z<=60:=by simpa [okS] using hok
  exists 0,p,_,_,0,1,SqT.of hp,1,z,"made",h1,1,(),U.1,U.2,0
  cases c:eqD z (.str "made") with
  |true=>
   refine iteT ⟨0,p,_,_,0,1,SqT.of hp,1,x2,e,1,h2,λH' s'=> ?_⟩;have:=k H' s';simp only [isSrc,c,if_true] at this;exact this
  |false=>
   refine iteF ⟨0,p,_,_,0,1,SqT.of hp,1,(sml rfl),λq hq=> ?_⟩;have s1:Same H (upd H q (.tup [.str "leaf",.str "rule"])):=qf hq _;exists z,q,["leaf","rule"],h1.mono s1.tk,1,.inr (SqT.of qg),(),U.1,U.2,0
   have e2:(["leaf","rule"]:oj Str).any (λy=>eqD z (.str y))=(eqD z (.str "leaf")||eqD z (.str "rule")):=by simp
   rw [e2];cases c2:(eqD z (.str "leaf")||eqD z (.str "rule")) with
   |true=>
    refine iteT ⟨0,p,_,_,0,1,SqT.of (s1 _ _ hp),1,x2,e,1,h2.mono s1.tk,λH' s'=> ?_⟩;have:=k H' (s1.trans s');simp only [isSrc,c,c2,Bool.true_and,UD,if_false] at this;exact this
   |false=>
    refine iteF ?_;have:=k _ s1;simp only [isSrc,c,c2,Bool.false_and,UD,if_false] at this;exact this
theorem ok_cell (T:Tx K mg a):#[K,1,a.Xe,a.xV,["script","k"],(sp_cell K)]:=by
 exists 9,T.g_law_cell_at,wW
 obtain⟨q,ns,j,rfl,h0,O,k⟩:=h;exists _,%[#[qI,#[qr,op_lt,pv 1,#[qz,qQ,T.Yd,uJ,#v[pv 0]],qy _],%[|#[qp,#[qN,Q4,pv 0,pv 1]]],qw]|#[qp,qi]]
 exists 7
 exists 0,0,q,0,.inl O,_,0,1,0;refine ite2 (λc=> ?_) (λc=> ?_)
 ·have Z:j<((ns.map V.int).length:Int):=uq c;obtain⟨v,U⟩:=Yk h0 Z;obtain⟨i,_,rfl⟩:=A8.mp (jl U);exact⟨0,0,q,_,_,0,1,O,U,k _⟩
 ·exact k 0
noncomputable def okN (z:Str):Bool:=(z.cps.toList.map λc=>inS ⟨#[c]⟩ NSG).all id
theorem wS (h:nm z=true):1<=z.length/\z.length<=24:=by
 by_cases c:1<=(z.length:Int)/\(z.length:Int)<=24
 ·omega
 ·rw [nm_len c] at h;cases h
noncomputable def Nms (zs:oj Str):Prop:=(∀z∈zs,nm z=true)/\zs.Nodup
noncomputable def wX (d:D):Prop:=(∃k e,d= .tup [.str k,e])/\isSrc d=true/\lw d=true/\sz d<=306
noncomputable def prD (p:Str×D):D:= .tup [.str p.1,p.2]
noncomputable def PrOk (ps:oj (Str×D)):Prop:=Nms (ps.map (·.1))/\∀p∈ps,wX p.2
theorem okN_all (h:okN z=true):jM z=true:=by
 unfold jM;rw [U9];intro c U;have:=List.all_eq_true.mp h _ (A8.mpr ⟨c,U,1⟩);rw [id,inS_one] at this;have O:∀c∈NSG.cps.toList,QC c=true:=by decide+kernel
 exact O c (uq this)
theorem nm_okN (h:nm z=true):okN z=true:=by
 have O:=wS h;cases h3:inS ⟨#[z.cps.getD 0 0]⟩ LET with
 |false=>rw [nm_first h3] at h;cases h
 |true=>
  rw [nm_rest () () h3] at h
  exact h
theorem src_made (h:nm z=true):wX (.tup [.str "made",.str z]):=by
 have O:=wS h;refine⟨⟨_,0⟩,?_,?_,by simp only [sz,szL];show 1+(("made":Str).length+1+(z.length+1+0))<=306;have:("made":Str).length=4:=rfl;omega⟩
 ·show(if eqD (.str "made") (.str "made")=true then nm z else(eqD (.str "made") (.str "leaf")||eqD (.str "made") (.str "rule"))&&isT (.str z))=true
  rw [A3 ()]
  exact h
 ·have:jM "made"=true:=by decide+kernel
  simp only [lw,lwL,this,okN_all (nm_okN h)]
  rfl
theorem src_leaf {k:Str}{d:D}(O:k="leaf"∨k="rule")(h:isT d=true)(U:lw d=true)(hz:sz d<=300):wX (.tup [.str k,d]):=by
 have Z:k.length=4:=by rcases O with rfl|rfl<;>rfl
 refine⟨⟨_,0⟩,?_,?_,by simp only [sz,szL];omega⟩
 ·show(if eqD (.str k) (.str "made")=true then isNm d else(eqD (.str k) (.str "leaf")||eqD (.str k) (.str "rule"))&&isT d)=true
  have e1:eqD (.str k) (.str "made")=false:=by rcases O with rfl|rfl<;>decide+kernel
  have e2:(eqD (.str k) (.str "leaf")||eqD (.str k) (.str "rule"))=true:=by rcases O with rfl|rfl<;>decide+kernel
  rw [e1,e2,h]
  rfl
 ·have:jM k=true:=by
   rcases O with rfl|rfl<;>decide+kernel
  simp only [lw,lwL,this,U]
  rfl
theorem src_okS {d:D}(h:wX d):okS d=true:=by
 obtain⟨⟨k,e,rfl⟩,_⟩:=h;simp [okS,okHd,trD,dp]
theorem src_dp {d:D}(h:wX d):dp d<=13:=by
 obtain⟨⟨k,e,rfl⟩,h1,h2,_⟩:=h;have U:dp e<=12:=by
  have O:(if eqD (.str k) (.str "made")=true then isNm e else(eqD (.str k) (.str "leaf")||eqD (.str k) (.str "rule"))&&isT e)=true:=h1
  split at O
  ·cases e<;>simp [isNm] at O<;>simp [dp]
  ·rw [uz] at O;exact JX O.2
 simp only [dp,dpL];omega
theorem YG (h:z.length<=16000000):Is H (.str z) (.str z):=⟨1,fits h⟩
noncomputable def qE (ps:oj (Str×D))(z:Str):D:=((ps.find? λp=>decide (p.1=z)).map (·.2)).getD .non
noncomputable def zg (vs:oj (Str×V))(z:Str):V:=(valV (inrK vs) (Sum.inr z)).getD .non
theorem XB (p:Str×V)(r:oj (Str×V)):inrK (p::r)=(Sum.inr p.1,p.2)::inrK r:=rfl
theorem look2 {H:Hp}{z:Str}:∀{ps:oj (Str×D)}{vs:oj (Str×V)},vs.map (·.1)=ps.map (·.1)->IsL H (ps.map (·.2)) (vs.map (·.2))->z∈ps.map (·.1)->valV (inrK vs) (Sum.inr z)=some (zg vs z)/\Is H (qE ps z) (zg vs z)
 | [],_,_,_,h=>nomatch h
 |p::ps,[],e,_,_=>by simp at e
 |p::ps,v::vs,e,hi,hz=>by
  simp only [uh,vm] at e;obtain⟨u,r,e2,h1,h2⟩:=hi;simp only [uh,vm] at e2;obtain⟨rfl,rfl⟩:=e2;by_cases c:p.1=z
  ·have O:v.1=z:=e.1.trans c;have U:valV (inrK (v::vs)) (Sum.inr z)=some v.2:=by
    rw [XB];exact QO (by rw [O])
   have Z:qE (p::ps) z=p.2:=by simp [qE,uY,c]
   unfold zg;rw [U,Z];exact⟨1,h1⟩
  ·have O:¬v.1=z:=λq=>c (e.1.symm.trans q);have U:valV (inrK (v::vs)) (Sum.inr z)=valV (inrK vs) (Sum.inr z):=by
    rw [XB];exact QG (λq=>O (Ui q))
   have Z:qE (p::ps) z=qE ps z:=by simp [qE,uY,c]
   have aa:z∈ps.map (·.1):=by
    rcases A5.mp hz with h|h
    ·exact absurd h.symm c
    ·exact h
   have ih:=look2 e.2 h2 aa;unfold zg at*;rw [U,Z];exact ih
theorem look0 {z:Str}:∀{vs:oj (Str×V)},z∉vs.map (·.1)->valV (inrK vs) (Sum.inr z)=none
 | [],_=>rfl
 |v::vs,h=>by
  rw [XB,QG (λq=>h (by rw [<-Ui q];exact uf ..))]
  exact look0 λm=>h (uc _ m)
theorem re_map:∀{ps:oj (Str×D)},(ps.map (·.1)).Nodup->(ps.map (·.1)).map (λz=>(z,qE ps z))=ps
 | [],_=>rfl
 |p::ps,h=>by
  have h':=List.nodup_cons.mp h;have O:qE (p::ps) p.1=p.2:=by simp [qE,uY]
  rw [uh,uh,O]
  congr 1
  refine Eq.trans (U7 λz U=> ?_) (re_map h'.2);have:¬p.1=z:=λq=>h'.1 (by show p.1∈_;rwa [q])
  simp [qE,uY,this]
noncomputable def tabOf (ps:oj (Str×D))(ms:oj Str):oj (Str×D):=ms.map λz=>(z,qE ps z)
theorem kG (ps:oj (Str×D))(ms:oj Str):(tabOf ps ms).map (·.1)=ms:=by
 unfold tabOf;rw [uN];exact(U7 λ_ _=>rfl).trans (List.map_id ms)
theorem tab_perm {ps:oj (Str×D)}{ms:oj Str}(hn:(ps.map (·.1)).Nodup)(h:ms.Perm (ps.map (·.1))):(tabOf ps ms).Perm ps:=by
 have:=h.map λz=>(z,qE ps z);rwa [re_map hn] at this
noncomputable def QX (C:o3)(H:Hp)(x:o3)(qs:oj (Str×D)):Prop:=∃(dx d:o3) (o:Obj) (vs:oj (Str×V)),H x=some (.ins C dx [("by_name",.ref d)])/\H d=some (.frz o (.dK (inrK vs)))/\vs.map (·.1)=qs.map (·.1)/\L2.IsL H (qs.map (·.2)) (vs.map (·.2))
variable {qs:oj (Str×D)}
theorem QX.same {x:o3}(h:QX C H x qs)(s:Same H H'):QX C H' x qs:=by
 obtain⟨dx,d,o,vs,h1,h2,h3,h4⟩:=h;exact⟨dx,d,o,vs,s _ _ h1,s _ _ h2,h3,h4.mono s.tk⟩
noncomputable def Qw (qs:oj (Str×D)):Prop:=PrOk qs/\sortedS (qs.map (·.1))=true/\qs.length<=60
inductive sp_init (C:Addr) (vs:List V) (H:Hp) (Q:VK) (E_:XK):Prop
 |mk (x dx t:Addr) (ps:List (Str×D)) (us:List V) (_:vs= [.ref x,.ref t]) (_:H x=some (.ins C dx [])) (_:H t=some (.tup us)) (_:L2.IsL H (ps.map prD) us) (_:PrOk ps) (_:ps.length<=60) (_:∀(qs:List (Str×D)) (H':Hp),(∀b o,H b=some o->b≠x->H' b=some o)->QX C H' x qs->Qw qs->qs.Perm ps->Q .non H')
variable {l:oj Str}
theorem Nms.perm {m:oj Str}(h:Nms m)(p:l.Perm m):Nms l:=⟨λz O=>h.1 z (p.mem_iff.mp O),(p.nodup_iff).mpr h.2⟩
theorem dat_of {ps:oj (Str×D)}{d:D}(hn:(ps.map (·.1)).Nodup)(h:(z,d)∈ps):qE ps z=d:=by
 induction ps with
 |nil=>cases h
 |cons p r Z=>
  have O:=List.nodup_cons.mp hn;rcases A5.mp h with h|h
  ·subst h;simp [qE,uY]
  ·have:¬p.1=z:=λq=>O.1 (by show p.1∈_;rw [q];exact A8.mpr ⟨_,h,1⟩)
   have U:=Z O.2 h
   simpa [qE,uY,this] using U
theorem dat_mem {ps:oj (Str×D)}(hn:(ps.map (·.1)).Nodup)(h:z∈ps.map (·.1)):(z,qE ps z)∈ps:=by
 obtain⟨p,O,rfl⟩:=A8.mp h;rw [dat_of hn (show(p.1,p.2)∈ps from O)]
 exact O
theorem pairs_at {H:Hp}:∀{ps:oj (Str×D)}{us:oj V},L2.IsL H (ps.map prD) us->∃(ts:oj o3) (vs:oj (Str×V)),us=ts.map V.ref/\ts.length=vs.length/\(∀(i:Nat) (t:o3) (p:Str×V),ts[i]? =some t->vs[i]? =some p->H t=some (.tup [.str p.1,p.2]))/\vs.map (·.1)=ps.map (·.1)/\L2.IsL H (ps.map (·.2)) (vs.map (·.2))
 | [],us,h=>⟨[],[],h,1,λi t p h=>by simp at h,1,1⟩
 |p::r,us,h=>by
  obtain⟨v,q,rfl,O,h2⟩:=h;obtain⟨t,ws,rfl,U,x1,r1,rfl,⟨rfl,hz⟩,Z,r2,rfl,h4,h5⟩:=O;cases(show r2= [] from h5)
  obtain⟨ts,vs,rfl,e1,e2,e3,e4⟩:=pairs_at h2;refine⟨t::ts,(p.1,Z)::vs,1,by simp [e1],λi t' p' h6 h7=> ?_,by simp [e3],⟨_,0,h4,e4⟩⟩
  cases i with
  |zero=>
   cases h6;cases h7;exact U
  |succ i=>exact e2 i t' p' (by simpa using h6) (by simpa using h7)
theorem inrK_snoc (vs:oj (Str×V))(z:Str)(v:V):inrK (vs++ [(z,v)])=inrK vs++ [(Sum.inr z,v)]:=by
 unfold inrK;rw [uw]
 rfl
theorem mapG {α β:Type}(f:α->β){l:oj α}{i:Nat}(h:i<l.length):(l.map f)[i]? =some (f l[i]):=by
 rw [uH,uj h]
 rfl
theorem take1 {α:Type}{l:oj α}{i:Nat}(h:i<l.length):l.take (i+1)=l.take i++ [l[i]]:=by
 rw [vS,uj h]
 rfl
theorem ok_init (T:Tx K mg a):#[K,4,a.YX,a.JS,["self","sources"],(sp_init a.qD)]:=by
 have Q5:=#[XM,T];have U:=#[ok_source,T];refine T.g_Project_init.F.ok yE () (λ_ _ _ _ H vs Q E hr h=> ?_)
 obtain⟨x,dx,t,ps,us,rfl,hx,ht,ap,hok,aL,k⟩:=h;have hs:=uE;exists _,%[#[qC,2,(2),4,yE.nd,rfl,Or.inr rfl,Zo,_,_],#[jL,#[pi_tup,4,pv 1],#[pg_tup,6,rfl,yU #[qX,(3),yE.nd] (yU #[qX,(4),yE.nd] W8),_,_],%[#[qI,#[Qx,#[Qj,#[qt,Q5,hr.mono (),T.g_is_name,#v[pv 3]]]],%[|jw],qw],#[qI,#[Qx,#[Qj,#[qt,U,hr.mono (),T.g_is_source,#v[pv 4]]]],%[|jw],qw],#[qI,#[pt_cmp,6,#[pc_din,5,Q9 hr,pv 3,pv 2],_],%[|jw],qw],#[qI,#[qr,Qn,#[qz,call_lenD,T.Yd,uJ,#v[pv 2]],#[kj,T.m_MOST_NAMES],qy _],%[|jw],qw]|#[Jb,pv 2,pv 3,pv 4]]]|#[Qc,#[qW,#[call_dictF,1,rfl],T.z_dict,boot_dict,#v[#[ZJ,["name","by_name"],[2],lcsN (qj yS) ["self","sources","by_name","name","source"],#[pi_list,4,#[qz,#[call_sortedD,1,rfl],T.z_sorted,boot_sorted,#v[pv 2]]],(λ_ _ _ _ _ _=>#[qX,(0),(show List.Nodup (["name","by_name"]:oj Str) by decide+kernel)]),(λ_ _ _ _ _ _=>#[qB,#v[pv 0,#[QE,pv 1,pv 0]]])]]]]]
 exists 7
 intro d hd;have s1:Same H (upd H d (.dK [])):=qf hd _;have aM:d≠x:=λe=>by rw [e,hx] at hd;cases hd
 have aq:=ap.length;rw [ua] at aq;refine⟨0,t,1,⟨_,SqT.of (s1 _ _ ht)⟩,kP (K:=K) (a:=t) (xs:=us) (λi σ H'=>∃(vs:oj (Str×V)) (nv sv:om V),σ= [some (.ref x),some (.ref t),some (.ref d),nv,sv]/\Same H H'/\H' d=some (.dK (inrK vs))/\vs.map (·.1)=(ps.take i).map (·.1)/\L2.IsL H' ((ps.take i).map (·.2)) (vs.map (·.2)))
  ⟨[],none,none,1,s1,qg,1,1⟩ (λi σ H' _ ⟨_,_,_,_,sm,_⟩=>SqT.of (sm _ _ ht)) ?_ ?_⟩
 ·rintro i y σ H' hi ⟨vs,nv,sv,rfl,sm,ac,hk,hv⟩;have aN:i<us.length:=(Aa.mp hi).1;have Z:i<ps.length:=by omega
  obtain⟨v,e1,e2⟩:=ap.get (mapG prD Z);rw [hi] at e1;cases e1;have au:=hok.2 _ (vd Z);have aB:nm ps[i].1=true:=hok.1.1 _ (A8.mpr ⟨_,vd Z,1⟩);obtain⟨⟨sk,sd,aO⟩,aC,aP⟩:=au;obtain⟨p,ws,rfl,hp,w1,r1,rfl,⟨rfl,hz⟩,w2,r2,rfl,h2,h3⟩:=e2;cases(show r2= [] from h3)
  have aD:=sm _ _ hp;exists p,0,SqT.of aD,1,_,0,_,0,1;refine⟨0,_,.str ps[i].1,1,⟨1,hz⟩,λH3 s3=>⟨0,iteN (by simp [isNm,aB]) ?_⟩⟩
  have aw:Is H3 ps[i].2 w2:=h2.mono (sm.trans s3).tk;refine⟨0,w2,ps[i].2,1,aw,src_okS (hok.2 _ (vd Z)),λH4 s4=>⟨0,iteN (by rw [aC];rfl) ?_⟩⟩
  have af:=s3.trans s4;have ad:=af _ _ ac;have nk:ps[i].1∉vs.map (·.1):=by
   rw [hk];have aa:=hok.1.2;have e:ps.map (·.1)=(ps.take i).map (·.1)++ps[i].1::(ps.drop (i+1)).map (·.1):=by
    rw [<-uh (f:=λx:Str×D=>x.1),<-uW Z,<-uw,List.take_append_drop]
   rw [e,List.nodup_append] at aa;exact λm=>aa.2.2 _ m _ (uf ..) rfl
  have ev:=look0 nk;have aE:vs.length=i:=by
   have:=congrArg List.length hk;rw [ua,ua,vP] at this;omega
  refine⟨0,0,d,0,DGet.k (k:=Sum.inr ps[i].1) ad,0,iteN (by rw [ev];rfl) ?_⟩
  refine⟨0,d,0,ad,1,0,iteN (ug λq=> ?_) ?_⟩
  ·have:=V.int.inj q;unfold inrK at this;rw [ua] at this;omega
  ·have aF:(inrK vs).length<sizeLine:=by
    unfold inrK;rw [ua];omega
   exists 0,0,0,d,0,DPut.k (k:=Sum.inr ps[i].1) ad aF;have tk:Tk H4 (upd H4 d (.dK (putK (inrK vs) (Sum.inr ps[i].1) w2))):=Tk.updD ad;refine⟨vs++ [(ps[i].1,w2)],_,0,?_,?_,?_,?_⟩
   ·intro b o e;rw [qh (qk e hd)];exact(sm.trans af) _ _ e
   ·rw [qg,kg _ ev,inrK_snoc]
   ·rw [take1 Z,uw,uw,hk]
    rfl
   ·rw [take1 Z,uw,uw];exact(((hv.mono af.tk).mono tk)).append (L2.IsL.one ((aw.mono s4.tk).mono tk))
 ·rintro σ H1 ⟨vs,nv,sv,rfl,sm,ac,hk,hv⟩;rw [aq,UV] at hk hv;have aE:vs.length=ps.length:=by
   have:=congrArg List.length hk
   rwa [ua,ua] at this
  have ag:(inrK vs).map (·.1)=(ps.map (·.1)).map Sum.inr:=by rw [wF,hk]
  refine⟨0,d,inrK vs,ps.map (·.1),1,ac,ag,by rw [ua];omega,λms q O ah hq=>⟨q,1,⟨_,SqL.of qg⟩,λA0 ak=> ?_⟩⟩
  have s2:Same H1 (upd H1 q (.lst (ms.map V.str))):=qf hq _;have aQ:ms.length=ps.length:=by
   have:=O.length_eq
   rwa [ua] at this
  refine lc_strs (K:=K) (tl:= [some (.ref d)]) (λi ys H'=>∃ts:oj o3,ys=ts.map V.ref/\ts.length=i/\Same H1 H'/\H' A0=some (.lst ys)/\∀(j:Nat) (t:o3) (z:Str),ts[j]? =some t->ms[j]? =some z->H' t=some (.tup [.str z,zg vs z])) qg () ak
   ⟨[],1,1,s2.trans (qf ak _),qg,λj t z h=>by simp at h⟩ ?_ ?_
  ·rintro i z ys H' hz ⟨ts,rfl,ae,s3,hA,al⟩ _ _ _ R r;have aG:z∈ps.map (·.1):=O.mem_iff.mp (uZ hz);have lk:=look2 hk hv aG;refine⟨0,0,0,d,zg vs z,1,?_,(sml rfl),λt2 am=> ?_⟩
   ·have:=DGet.k (k:=Sum.inr z) (s3 _ _ ac);rwa [lk.1] at this
   ·have s4:=qf am (.tup [V.str z,zg vs z]);have aH:t2≠A0:=λe=>by rw [e,hA] at am;cases am
    refine r _ _ (s4 _ _ hA) (s4 _ _ (by assumption)) ⟨ts++ [t2],by rw [uw];rfl,by rw [uA,ae];rfl,?_,qg,?_⟩
    ·intro b o e;have nb:b≠A0:=qk (s2 _ _ e) ak;rw [qh nb];exact s4 _ _ (s3 _ _ e)
    ·intro j t z' h1 h2;rcases US j i with hj|hj
     ·rw [Uv ()] at h1
      have:=al j t z' h1 h2;have nb:t≠A0:=λe=>by rw [e,hA] at this;cases this
      rw [qh nb];exact s4 _ _ this
     ·have aI:j=i:=by
       have:=(Aa.mp h1).1;rw [uA] at this;have:j<ts.length+1:=this;omega
      subst aI;rw [hz] at h2;cases h2;rw [Ut (),ae,Nat.sub_self] at h1
      cases h1;rw [qh aH];exact qg
  ·rintro ys H2 ⟨ts,rfl,ae,s3,hA,al⟩ _;have aa:=hok.1.2;have aJ:ms.Nodup:=O.nodup_iff.mpr aa;have ax:(ms.map λz=>(z,zg vs z)).map (·.1)=ms:=by
    rw [uN];exact(U7 λ_ _=>rfl).trans (List.map_id ms)
   refine⟨A0,ms.map λz=>(z,zg vs z),1,⟨ts,hA,by rwa [ua],λj t p h1 h2=> ?_⟩,by rwa [ax],by rw [ua];omega,λq2 o ao=> ?_⟩
   ·rw [uH] at h2;cases h3:ms[j]? with
    |none=>rw [h3] at h2;cases h2
    |some z=>
     rw [h3] at h2;cases h2;exact al j t z h1 h3
   ·have s4:=qf ao (.frz o (.dK (inrK (ms.map λz=>(z,zg vs z)))));have ay:H1 x=some (.ins a.qD dx []):=sm _ _ hx;have aA:=s4 _ _ (s3 _ _ ay);have nq:q2≠x:=λe=>by rw [e,s3 _ _ ay] at ao;cases ao
    refine⟨0,x,a.qD,dx,[],1,aA,T.yH,T.Q7,(by show 0<1000;decide),?_⟩
    refine k (tabOf ps ms) _ ?_ ⟨dx,q2,o,ms.map λz=>(z,zg vs z),qg,by rw [qh nq];exact qg,by rw [ax,kG],?_⟩ ⟨⟨?_,?_⟩,by rwa [kG],by unfold tabOf;rw [ua];omega⟩ (tab_perm aa O)
    ·intro b ob e nb;rw [qh nb];exact s4 _ _ (s3 _ _ (sm _ _ e))
    ·have tk:Tk H1 (upd (upd H2 q2 (.frz o (.dK (inrK (ms.map λz=>(z,zg vs z)))))) x (.ins a.qD dx (putF "by_name" (.ref q2) []))):=(s3.trans s4).tk.trans (Tk.updI aA);have aK:∀l:oj Str,(∀z∈l,z∈ps.map (·.1))->L2.IsL H1 ((tabOf ps l).map (·.2)) ((l.map λz=>(z,zg vs z)).map (·.2)):=by
      intro l
      induction l with
      |nil=>exact λ_=>rfl
      |cons z r ih=>exact λh=>⟨_,0,(look2 hk hv (h z (uf ..))).2,ih λy hy=>h y (uc _ hy)⟩
     exact(aK ms λz hz=>O.mem_iff.mp hz).mono tk
    ·rw [kG];exact hok.1.perm O
    ·intro p hp;exact hok.2 p ((tab_perm aa O).mem_iff.mp hp)
theorem fld_by:List.lookup ("by_name":Str) [(("by_name":Str),v)]=some v:=by simp [List.lookup]
theorem prs_is {H:Hp}{qs:oj (Str×D)}{vs:oj (Str×V)}{ts:oj o3}(O:vs.map (·.1)=qs.map (·.1))(hi:L2.IsL H (qs.map (·.2)) (vs.map (·.2)))(U:ts.length=vs.length)(Z:∀p∈qs,p.1.length<=100)
  (ht:∀(j:Nat) (t:o3) (p:Str×V),ts[j]? =some t->vs[j]? =some p->H t=some (.tup [.str p.1,p.2])):L2.IsL H (qs.map prD) (ts.map V.ref):=by
 induction qs generalizing vs ts with
 |nil=>
  have:vs= []:=by simpa using O
  subst this;have:ts= []:=by simpa using U
  subst this
  rfl
 |cons q qs ih=>
  cases vs with
  |nil=>simp at O
  |cons v vs=>
   cases ts with
   |nil=>simp at U
   |cons t ts=>
    simp only [uh,vm] at O;obtain⟨u,r,e2,h1,h2⟩:=hi;simp only [uh,vm] at e2;obtain⟨rfl,rfl⟩:=e2;have e0:=ht 0 t v rfl rfl;have hq:=Z q (uf ..);refine⟨_,0,⟨t,0,e0,⟨_,0,⟨by rw [O.1],fits ()⟩,_,0,h1,1⟩⟩,ih O.2 h2 (by simpa using U) (λp hp=>Z p (uc _ hp)) λj t' p h3 h4=>ht (j+1) t' p (by simpa using h3) (by simpa using h4)⟩
theorem YK:List.lookup ("source_of":Str) [(("by_name":Str),v)]=none:=by
 have:(("source_of":Str)=="by_name")=false:=by decide+kernel
 simp [List.lookup,this]
inductive ZC (C:Addr) (vs:List V) (H:Hp) (Q:VK) (E_:XK):Prop
 |mk (x:Addr) (z:Str) (qs:List (Str×D)) (_:vs= [.ref x,.str z]) (_:QX C H x qs) (_:∀v:V,(z∈qs.map (·.1)->Is H (qE qs z) v)->(z∉qs.map (·.1)->v= .non)->Q v H)
theorem xn (T:Tx K mg a):#[K,1,a.Yz,a.Yu,["self","name"],(ZC a.qD)]:=by
 refine T.g_Project_source_of.F.ok JR () (λ_ _ _ _ H vs Q E U h=> ?_)
 obtain⟨x,z,qs,rfl,⟨dx,d,o,vs,Z,hd,O,hv⟩,k⟩:=h;exists _,%[|#[qp,#[pe_dget1,7,Q9 U,#[qL,5,pv 0,rfl],pv 1,⟨1,1,1,1⟩]]]
 exists 7
 exists 0,x,a.qD,dx,_,0,Z,T.yH,T.Q7,fld_by,d,1,.inl ⟨_,.inr ⟨o,hd⟩⟩,0,_,.inl ⟨_,Sum.inr z,.inr ⟨o,hd⟩,1,1⟩;refine k _ (λc=> ?_) λc=> ?_
 ·exact(look2 O hv c).2
 ·rw [look0 (by rwa [O])]
  rfl
noncomputable def rowT (zs:oj Str):D:= .tup (zs.map D.str)
noncomputable def rowG (acc:oj Str):oj Str->oj Str
 | []=>acc
 |z::r=>if isT (rowT (acc++ [z]))=true then rowG (acc++ [z]) r else acc
inductive WF (K:PySem.W.Frag) (vs:List V) (H:Hp) (Q:VK) (E_:XK):Prop
 |mk (L:Addr) (zs:List Str) (_:vs= [.ref L]) (_:H L=some (.lst (zs.map V.str))) (_:(∀z∈zs,z.length<=100)) (_:zs.length<=100) (_:∀(v:V) (H':Hp),Same H H'->Is H' (rowT (rowG [] zs)) v->Q v H')
variable {xs:oj V}{Q:VK}
theorem cat1 {K:o0}{a:o3}{x:V}(ha:H a=some (.tup xs))(O:xs.length+1<=sizeLine)(k:∀p H',Same H H'->H' p=some (.tup (xs++ [x]))->Q (.ref p) H'):
  [x].length<=sizeLine/\∀q,H q=none->rCatG K (.ref a) (.ref q) (upd H q (.tup [x])) Q:=by
 refine⟨sml rfl,λq U=> ?_⟩;have s1:Same H (upd H q (.tup [x])):=qf U _;refine⟨a,q,xs,[x],1,1,SqT.of (s1 _ _ ha),SqT.of qg,O,λe=> ?_,(λ_ e=>by cases e),λ_ _ p Z=> ?_⟩
 ·refine k q _ s1 ?_;rw [e];exact qg
 ·exact k p _ (s1.trans (qf Z _)) qg
variable {zs:oj Str}{p:o3}
theorem is_row (h:H p=some (.tup (zs.map V.str)))(U:∀z∈zs,z.length<=100):Is H (rowT zs) (.ref p):=by
 have O:∀(zs:oj Str),(∀z∈zs,z.length<=100)->IsL H (zs.map D.str) (zs.map V.str):=by
  intro zs
  induction zs with
  |nil=>exact λ_=>rfl
  |cons z r Z=>
   intro h;exact⟨_,0,⟨1,fits (by have:=h z (uf ..);omega)⟩,Z λy hy=>h y (uc _ hy)⟩
 exact⟨p,0,h,O zs U⟩
theorem rowG_mem:∀(zs O:oj Str) (z:Str),z∈rowG O zs->z∈O∨z∈zs
 | [],O,z,h=> .inl h
 |y::r,O,z,h=>by
  unfold rowG at h;split at h
  ·rcases rowG_mem r _ z h with h|h
   ·rcases A7.mp h with h|h
    ·exact .inl h
    ·exact .inr (by rw [A6.mp h];exact uf ..)
   ·exact .inr (uc _ h)
  ·exact .inl h
inductive sp_looked (C:Addr) (vs:List V) (H:Hp) (Q:VK) (E_:XK):Prop
 |mk (x t:Addr) (kind text:Str) (qs:List (Str×D)) (_:vs= [.ref x,.ref t]) (_:QX C H x qs) (_:Qw qs) (_:H t=some (.tup [.str kind,.str text])) (_:text.length<=1000) (_:((kind="has"/\Q (.str (if text∈qs.map (·.1) then "yes" else "no")) H)∨(kind="names"/\∀(v:V) (H':Hp),Same H H'->Is H' (rowT (rowG [] ((qs.map (·.1)).filter λz=>Txt.startswith z text))) v->Q v H')))
theorem has_key {vs:oj (Str×V)}(O:vs.map (·.1)=qs.map (·.1))(hi:L2.IsL H (qs.map (·.2)) (vs.map (·.2)))(z:Str):(valV (inrK vs) (Sum.inr z)).isSome=decide (z∈qs.map (·.1)):=by
 by_cases c:z∈qs.map (·.1)
 ·rw [(look2 O hi c).1,ue c]
  rfl
 ·rw [look0 (by rw [O];exact c),ug c]
  rfl
theorem ok_longest (T:Tx K mg a):#[K,3,a.Xg,a.Xh,["names"],(WF K)]:=by
 have yy:=#[Y8,T];exists 9,T.g_longest_row,yT
 obtain⟨L,zs,rfl,hL,hz,hn,k⟩:=h;have hs:=uE;exists _,%[#[qC,(1),yT.nd,#[qB,qd]],#[jL,#[pi_list,4,pv 0],#[qX,(2),yT.nd],%[#[qI,#[Qx,#[Qj,#[qt,yy,hr.mono (),T.g_is_tree,#v[#[qS,yi,pv 1,#[qB,#v[pv 2]]]]]]],%[|ps_break],qw]|#[qC,(1),yT.nd,#[qS,yi,pv 1,#[qB,#v[pv 2]]]]]]|#[qp,pv 1]]
 exists 7
 refine⟨(sml rfl),λq hq=> ?_⟩;have s1:Same H (upd H q (.tup [])):=qf hq _;refine⟨0,L,1,⟨_,SqL.of (s1 _ _ hL)⟩,for_list (K:=K) (a:=L) (xs:=zs.map V.str) (λi σ H'=>∃(row:oj Str) (p:o3) (kv:om V),σ= [some (.ref L),some (.ref p),kv]/\H' p=some (.tup (row.map V.str))/\Same H H'/\rowG row (zs.drop i)=rowG [] zs/\row.length<=i/\∀z∈row,z∈zs)
  ⟨[],q,none,1,qg,s1,1,ui _,λz h=>nomatch h⟩ (λi σ H' _ ⟨_,_,_,_,_,s2,_⟩=>SqL.of (s2 _ _ hL)) ?_ ?_⟩
 ·rintro i x σ H' hi ⟨row,p,kv,rfl,Z,s2,O,hl,hm⟩;have U:i<zs.length:=by
   have:=(Aa.mp hi).1
   simpa using this
  obtain rfl:x=V.str zs[i]:=by
   rw [uH,uj U] at hi;exact(uI hi).symm
  have ed:zs.drop i=zs[i]::zs.drop (i+1):=uW U;rw [ed] at O;rw [show rowG row (zs[i]::zs.drop (i+1))=if isT (rowT (row++ [zs[i]]))=true then rowG (row++ [zs[i]]) (zs.drop (i+1)) else row from rfl] at O
  have aa:∀z∈row++ [zs[i]],z∈zs:=λz h=>by
   rcases A7.mp h with h|h
   ·exact hm z h
   ·rw [A6.mp h];exact vd U
  have hsz:(row.map V.str).length+1<=sizeLine:=by rw [ua];omega
  have em:row.map V.str++ [V.str zs[i]]=(row++ [zs[i]]).map V.str:=by simp
  refine⟨0,0,cat1 Z hsz λp2 H3 s3 h3=>⟨_,rowT (row++ [zs[i]]),1,is_row (by rw [h3,em]) λz h=>hz z (aa z h),λH4 s4=>⟨0,?_⟩⟩⟩
  cases hT:isT (rowT (row++ [zs[i]])) with
  |false=>
   rw [A2 (by rw [hT];exact ub)] at O
   refine iteT ⟨0,k _ H4 ((s2.trans s3).trans s4) ?_⟩;rw [<-O];exact is_row (s4 _ _ (s3 _ _ Z)) λz h=>hz z (hm z h)
  |true=>
   rw [A3 hT] at O;refine iteF ⟨0,0,cat1 (s4 _ _ (s3 _ _ Z)) hsz λp5 H5 s5 h5=> ?_⟩;exact⟨row++ [zs[i]],p5,0,by rw [h5,em],((s2.trans s3).trans s4).trans s5,O,by rw [uA];show row.length+1<=i+1;omega,aa⟩
 ·rintro σ H' ⟨row,p,kv,rfl,Z,s2,O,hl,hm⟩;refine⟨0,k _ H' s2 ?_⟩;rw [ua,List.drop_length] at O;rw [<-O];exact is_row Z λz h=>hz z (hm z h)
theorem ok_looked (T:Tx K mg a):#[K,4,a.Yy,a.YB,["self","ask"],(sp_looked a.qD)]:=by
 have Ka:=#[ok_longest,T];refine T.g_Project_looked_up.F.ok JM () (λ_ _ _ _ H vs Q E hr h=> ?_)
 obtain⟨x,t,kind,text,qs,rfl,⟨dx,d,o,vs,hx,hd,hk,hv⟩,U,Z,ad,h⟩:=h;have hs:=uE;exists _,%[#[qI,#[qr,Qn,#[qN,qM,pv 1,qi],ql,qy _],%[|#[qp,#[Q6,#[pt_cmp,6,#[pc_din,5,Q9 hr,#[qN,qM,pv 1,qi],#[qL,5,pv 0,rfl]],_],ql,ql]]],qw]|#[qp,#[qt,Ka,hr.mono (),T.g_longest_row,#v[#[ZJ,2,["name","ask"],(1),[1],9,lcsN (qj QP) ["self","ask"],rfl,#[pi_dicF,4,#[qL,5,pv 0,rfl]],(λ_ _ _ _ _ _=>#[qX,(0),(show List.Nodup (["name","ask"]:oj Str) by decide+kernel)]),(λ_ _ _ _ _ _=>#[pif_one,3,#[Qj,#[pe_bmK,1,K,11,rfl,uS,PySem.F.slot_str_startswith,PySem.F.type_str_startswith,mt_starts,pv 0,#v[#[qN,#[ix_tupK,1,K,rfl],pv 1,qi]],_,_,_,_,_]]]),(λ_ _ _ _ _ _=>(pv 0)),_]]]]]
 exists 7
 exists 0,t,_,_,0,1,SqT.of Z,1,1,0;rcases h with⟨rfl,k⟩|⟨rfl,k⟩
 ·refine iteB (ue rfl) ?_;exists 0,t,_,_,0,1,SqT.of Z,1,0,x,a.qD,dx,_,0,hx,T.yH,T.Q7,fld_by,d,0,.inl ⟨_,Sum.inr text,.inr ⟨o,hd⟩,1,1⟩,0;rw [has_key hk hv];by_cases c:text∈qs.map (·.1)
  ·rw [A3 c] at k;exact iteB (ue c) k
  ·rw [A2 c] at k;exact iteN (ug c) k
 ·refine iteN () ?_
  have O:(inrK vs).map (·.1)=(qs.map (·.1)).map Sum.inr:=by rw [wF,hk]
  refine⟨0,x,a.qD,dx,_,0,hx,T.yH,T.Q7,fld_by,d,o,0,hd,λA0 aa=> ?_⟩;refine lc_dicF (tl:= [some (.ref t)]) (λz=>Txt.startswith z text) V.str hd O (by rw [ua];have:=U.2.2;omega) aa (λz H1 R hz s1 r=> ?_) (λz H1 R hz s1 r=>⟨0,r⟩) λH1 s1 h1=> ?_
  ·exact⟨0,1,0,t,_,_,0,1,SqT.of (s1 _ _ Z),1,z,text,1,1,0,r⟩
  ·refine⟨A0,0,h1,λz hz=> ?_,?_,λv H2 s2 ac=>k v H2 (s1.trans s2) ac⟩
   ·have:=wS (U.1.1.1 z (A9.mp hz).1);omega
   ·have:=Um (λz=>Txt.startswith z text) (qs.map (·.1));rw [ua] at this;have:=U.2.2;omega
noncomputable def wl:D->Bool
 | .non=>true
 |_=>false
noncomputable def zf:D->D
 | .tup [_,d]=>d
 |d=>d
noncomputable def X8 (d:D):Prop:=d= .non∨isT d=true
noncomputable def Gd (d:D):Prop:=good d=true/\dp d<=20
theorem gd_flt:∀z∈(["kind","big","told","silent","long","name"]:oj Str),good (flt z)=true:=by decide+kernel
theorem gd_f (h:z∈(["kind","big","told","silent","long","name"]:oj Str)):Gd (flt z):=⟨gd_flt z h,by show dp (.tup [.str "fault",.str z])<=20;simp [dp,dpL]⟩
theorem gd_two {u:Str}{d:D}(O:Qy u=true)(h:isT d=true):Gd (.tup [.str u,d]):=by
 have U:=yB h;have hd:=JX h;refine⟨?_,?_⟩
 ·simp only [good,goodL,O,U,vQ]
  rfl
 ·simp only [dp,dpL];omega
theorem gd_three {u w:Str}{d:D}(O:Qy u=true)(U:Qy w=true)(h:isT d=true):Gd (.tup [.str u,.tup [.str w,d]]):=by
 have Z:=yB h;have hd:=JX h;refine⟨?_,?_⟩
 ·simp only [good,goodL,O,U,Z,vQ]
  rfl
 ·simp only [dp,dpL];omega
theorem rowO_gd {B:Str->D}{p:Int}(hr:jO n 300 r)(h:Tr B)(O:rowO own r B p= .stop e):Gd e:=by
 unfold rowO at O;obtain⟨ks,hk,hp⟩:=id hr;obtain⟨U,ps⟩:=r;by_cases c1:U∈MKR
 ·rw [A3 c1] at O;simp only at O;generalize made U B own ps=dm at O;have aa:(if isT dm=true then Out.go (setB B (b0 ps) dm) (p+1) else .stop (flt "big"))= .stop e->Gd e:=by
   intro hq;by_cases c:isT dm=true
   ·rw [A3 c] at hq;cases hq
   ·rw [A2 c] at hq;cases hq;exact gd_f ()
  cases dm with
  |non=>cases O;exact gd_f ()
  |_=>exact aa O
 rw [A2 c1] at O;by_cases c2:U∈ASK
 ·rw [A3 c2] at O;cases O;obtain⟨_,_,Z⟩:=wj _ hk c2;simp only at Z;subst Z;obtain⟨z0,z1,rfl,h0,h1⟩:=ZQ hp;have hT:=h z1 h1;show Gd (askF U (B z1));unfold askF;by_cases d1:U="names"
  ·rw [A3 d1];by_cases d2:isStr (B z1)=true
   ·rw [A3 d2];exact gd_three () () hT
   ·rw [A2 d2];exact gd_f ()
  ·rw [A2 d1];by_cases d2:isNm (B z1)=true
   ·rw [A3 d2];refine gd_three () ?_ hT
    split<;>decide+kernel
   ·rw [A2 d2];exact gd_f ()
 rw [A2 c2] at O;by_cases c3:U="say"
 ·rw [A3 c3] at O;cases O;subst c3;have Z:=frm_say _ hk rfl;simp only at Z;subst Z;obtain⟨z0,rfl,h0⟩:=sh_b hp;exact gd_two () (h z0 h0)
 rw [A2 c3] at O;by_cases c4:U="fault"
 ·rw [A3 c4] at O;cases O;exact gd_f ()
 rw [A2 c4] at O;by_cases c5:jump U B ps=true
 ·rw [A3 c5] at O;cases O
 ·rw [A2 c5] at O;cases O
noncomputable def ansS (rs:oj Rw)(own:Str)(r:Rn)(a:D):Rn:=if wl a=true then⟨r.B,r.p,r.n+1,r.gs++ [.tup [zf r.th,a]],flt "lack"⟩ else runS rs own (r.gs++ [.tup [zf r.th,a]]) (300-(r.n+1)) (setB r.B (b0 (jR rs r.p).2) a) (r.p+1) (r.n+1)
structure RnOk (rs:oj Rw)(r:Rn):Prop where
 tr:Tr r.B
 p1:1<=r.p
 p2:r.p<=rs.length+1
 n:r.n<=300
 gd:Gd r.th
 two:∃w e,r.th= .tup [.str w,e]
 gs:nL r.gs=true/\dpL r.gs<=30/\r.gs.length<=r.n
 ask:QR r.th=true->r.p<=rs.length/\(jR rs r.p).1∈ASK/\r.n<300/\∃(u:Str) (d:D),r.th= .tup [.str "asks",.tup [.str u,d]]/\u∈(["thing","has","names"]:oj Str)/\isT d=true
mutual
theorem WK:∀{d:D},good d=true->nD d=true
 | .str _,_=>rfl
 | .tup xs,h=>by
  simp only [good,uz] at h;simp only [nD];exact goodL_n h.2
 | .non,h=>by simp [good] at h
 | .bl _,h=>by simp [good] at h
 | .int _,h=>by simp [good] at h
 | .lst,h=>by simp [good] at h
 | .dct,h=>by simp [good] at h
theorem goodL_n:∀{ds:oj D},goodL ds=true->nL ds=true
 | [],_=>rfl
 |d::ds,h=>by
  simp only [goodL,uz] at h;simp only [nL];rw [WK h.1,goodL_n h.2]
  rfl
end
theorem nL_app:∀{xs ys:oj D},nL xs=true->nL ys=true->nL (xs++ys)=true
 | [],_,_,h=>h
 |x::xs,ys,h,h2=>by
  simp only [nL,uz] at h;simp only [U8,nL];rw [h.1,nL_app h.2 h2]
  rfl
theorem dpL_app (n:Nat){xs ys:oj D}(h:dpL xs<=n)(h2:dpL ys<=n):dpL (xs++ys)<=n:=by
 rw [zX] at h h2⊢;intro x O;rcases A7.mp O with O|O
 ·exact h x O
 ·exact h2 x O
theorem rowO_ask {B:Str->D}{p:Int}(hr:jO n 300 r)(h:Tr B)(O:rowO own r B p= .stop e)(U:QR e=true):r.1∈ASK/\∃(u:Str) (d:D),e= .tup [.str "asks",.tup [.str u,d]]/\u∈(["thing","has","names"]:oj Str)/\isT d=true:=by
 unfold rowO at O;obtain⟨ks,hk,hp⟩:=id hr;obtain⟨Z,ps⟩:=r;by_cases c1:Z∈MKR
 ·rw [A3 c1] at O;simp only at O;generalize made Z B own ps=dm at O;have aa:(if isT dm=true then Out.go (setB B (b0 ps) dm) (p+1) else .stop (flt "big"))= .stop e->False:=by
   intro hq;by_cases c:isT dm=true
   ·rw [A3 c] at hq;cases hq
   ·rw [A2 c] at hq;cases hq;exact absurd U ()
  cases dm with
  |non=>cases O;exact absurd U ()
  |_=>exact(aa O).elim
 rw [A2 c1] at O;by_cases c2:Z∈ASK
 ·rw [A3 c2] at O;cases O;exists c2;obtain⟨_,_,ek⟩:=wj _ hk c2;simp only at ek;subst ek;obtain⟨z0,z1,rfl,h0,h1⟩:=ZQ hp;have hT:=h z1 h1;have U:QR (askF Z (B z1))=true:=U;show∃u d,askF Z (B z1)=_/\_;unfold askF at U⊢;by_cases d1:Z="names"
  ·rw [A3 d1] at U⊢;by_cases d2:isStr (B z1)=true
   ·rw [A3 d2];exact⟨_,0,(),hT⟩
   ·rw [A2 d2] at U;exact absurd U ()
  ·rw [A2 d1] at U⊢;by_cases d2:isNm (B z1)=true
   ·rw [A3 d2];exact⟨_,0,by split<;>decide+kernel,hT⟩
   ·rw [A2 d2] at U;exact absurd U ()
 rw [A2 c2] at O;by_cases c3:Z="say"
 ·rw [A3 c3] at O;cases O;exact absurd U (by simp only [QR];exact λh=>absurd (uq h) ())
 rw [A2 c3] at O;by_cases c4:Z="fault"
 ·rw [A3 c4] at O;cases O;exact absurd U ()
 rw [A2 c4] at O;by_cases c5:jump Z B ps=true
 ·rw [A3 c5] at O;cases O
 ·rw [A2 c5] at O;cases O
theorem runS_ok {rs:oj Rw}{own:Str}(hR:ye rs):∀(f:Nat) (B:Str->D) (p:Int) (n:Nat) (gs:oj D),f+n=300->Tr B->1<=p->p<=rs.length+1->nL gs=true/\dpL gs<=30/\gs.length<=n->RnOk rs (runS rs own gs f B p n)
 |0,B,p,n,gs,hf,hT,h1,h2,hg=>by
  have U:QR (if p>rs.length then flt "silent" else flt "long")=false:=by split<;>decide+kernel
  refine⟨hT,h1,h2,by show n<=300;omega,?_,?_,hg,λh=>absurd (U.symm.trans h) ()⟩
  ·show Gd (if p>rs.length then flt "silent" else flt "long")
   split
   ·exact gd_f ()
   ·exact gd_f ()
  ·show∃w e,(if p>rs.length then flt "silent" else flt "long")=_
   split
   ·exact⟨_,0⟩
   ·exact⟨_,0⟩
 |f+1,B,p,n,gs,hf,hT,h1,h2,hg=>by
  unfold runS;by_cases c:p>rs.length
  ·rw [A3 c];exact⟨hT,h1,h2,by show n<=300;omega,gd_f (),⟨_,0⟩,hg,λh=>absurd h (show¬QR (flt "silent")=true by decide+kernel)⟩
  ·rw [A2 c];have O:=hR.ok _ (kY h1 ())
   have hok:=rowO_ok (own:=own) O hT h1 ()
   cases Z:rowO own (jR rs p) B p with
   |go B' p'=>
    rw [Z] at hok;exact runS_ok hR f B' p' (n+1) gs () hok.1 hok.2.1 hok.2.2 ⟨hg.1,hg.2.1,by have:=hg.2.2;omega⟩
   |stop e=>
    rw [Z] at hok;simp only;refine⟨hT,h1,h2,?_,rowO_gd O hT Z,hok,⟨hg.1,hg.2.1,?_⟩,λU=> ?_⟩
    ·show(if QR e=true then n else n+1)<=300
     split<;>omega
    ·show gs.length<=(if QR e=true then n else n+1)
     have:=hg.2.2;split<;>omega
    ·obtain⟨a1,u,d,a2,a3,a4⟩:=rowO_ask O hT Z U;refine⟨by show p<=rs.length;omega,a1,?_,u,d,a2,a3,a4⟩
     show(if QR e=true then n else n+1)<300
     rw [A3 (show QR e=true from U)]
     omega
theorem ansS_ok (Z:ye rs){r:Rn}{a:D}(h:RnOk rs r)(hw:QR r.th=true)(ha:X8 a):RnOk rs (ansS rs own r a):=by
 obtain⟨k1,k2,k3,u,d,e,k4,k5⟩:=h.ask hw;have O:nD a=true/\dp a<=12:=by
  rcases ha with rfl|ha
  ·exact⟨1,by simp [dp]⟩
  ·exact⟨WK (yB ha),JX ha⟩
 have aa:=JX k5;have U:nL (r.gs++ [D.tup [zf r.th,a]])=true/\dpL (r.gs++ [D.tup [zf r.th,a]])<=30/\(r.gs++ [D.tup [zf r.th,a]]).length<=r.n+1:=by
  rw [e];show nL (r.gs++ [.tup [.tup [.str u,d],a]])=true/\_;refine⟨nL_app h.gs.1 ?_,dpL_app 30 h.gs.2.1 ?_,?_⟩
  ·simp only [nL,nD,WK (yB k5),O.1,vQ]
  ·show dpL [.tup [.tup [.str u,d],a]]<=30;simp only [dpL,dp];have:=O.2;omega
  ·rw [uA];have:=h.gs.2.2;show r.gs.length+1<=r.n+1;omega
 unfold ansS;cases hn:wl a with
 |true=>
  rw [A3 rfl];exact⟨h.tr,h.p1,h.p2,by show r.n+1<=300;omega,⟨(by decide+kernel:good (flt "lack")=true),by show dp (.tup [.str "fault",.str "lack"])<=20;simp [dp,dpL]⟩,⟨_,0⟩,U,λh=>absurd h (show¬QR (flt "lack")=true by decide+kernel)⟩
 |false=>
  rw [A2 ub];have hT:isT a=true:=by
   rcases ha with rfl|ha
   ·cases hn
   ·exact ha
  refine runS_ok Z _ _ _ _ _ () (kh h.tr hT) (by have:=h.p1;omega) () U
variable {u:V}
theorem XQ {d:D}(O:Is H d u)(U:d≠ .non):u≠ .non:=by
 rintro rfl;cases d with
 |non=>exact U rfl
 |bl b=>cases(show V.non= .bl b from O)
 |int i=>cases(show V.non= .int i from O)
 |str z=>obtain⟨h,_⟩:=O;cases h
 |lst=>obtain⟨_,_,h,_⟩:=O;cases h
 |dct=>obtain⟨_,_,h,_⟩:=O;cases h
 |tup xs=>obtain⟨_,_,h,_⟩:=O;cases h
theorem ask_sh (O:jO n 300 r)(hs:r.1∈ASK):∃U z1,r.2= [.s U,.s z1]/\U∈BX:=by
 obtain⟨ks,hk,hp⟩:=id O;obtain⟨_,_,Z⟩:=wj _ hk hs;simp only at Z;subst Z;obtain⟨x,y,e,hx,hy⟩:=ZQ hp;exact⟨x,y,e,hx⟩
noncomputable def isRow:D->Bool
 | .tup xs=>xs.all isNm
 |_=>false
noncomputable def ansB (u:Str)(a:D):Bool:=if wl a=true then decide (u="thing") else if isT a=true then(if u="has" then(["yes","no"]:oj Str).any (λz=>eqD a (.str z)) else decide (u="thing")||isRow a) else false
theorem ansB_ok {u:Str}{a:D}(h:ansB u a=true):X8 a:=by
 unfold ansB at h;cases hn:wl a with
 |true=>
  cases a with
  |non=>exact .inl rfl
  |_=>cases hn
 |false=>
  rw [hn,A2 ub] at h;by_cases c:isT a=true
  ·exact .inr c
  ·rw [A2 c] at h;cases h
inductive sp_rown (vs:List V) (H:Hp) (Q:VK) (E_:XK):Prop
 |mk (v:V) (d:D) (_:vs= [v]) (_:Is H d v) (_:isT d=true) (_:∀H',Same H H'->Q (.bl (isRow d)) H')
inductive sp_isans (vs:List V) (H:Hp) (Q:VK) (E_:XK):Prop
 |mk (v1 v2:V) (u:Str) (d a:D) (_:vs= [v1,v2]) (_:Is H (.tup [.str u,d]) v1) (_:Is H a v2) (_:∀H',Same H H'->Q (.bl (ansB u a)) H')
inductive sp_ans (C:Addr) (vs:List V) (H:Hp) (Q:VK) (E_:XK):Prop
 |mk (m:Mc) (r:Rn) (v:V) (u:Str) (d a:D) (_:vs= [.ref m.x,v]) (_:y9 C H m r) (_:RnOk m.rs r) (_:r.th= .tup [.str "asks",.tup [.str u,d]]) (_:Is H a v) (_:ye m.rs) (_:m.own.length<=100) (_:ansB u a=true) (_:∀H',Mv m H H'->y9 C H' m (ansS m.rs m.own r a)->Q .non H')
theorem ok_rown (T:Tx K mg a):#[K,2,a.jc,a.ja,["tree"],sp_rown]:=by
 have Q5:=#[XM,T];refine T.g_is_row_of_names.F.ok Xr () (λ_ _ _ _ H vs Q E hr h=> ?_)
 obtain⟨v,d,rfl,iv,hT,k⟩:=h;exists _,%[|#[qp,#[pe_and,#[qz,#[qT,2,rfl],T.qP,uU,#v[pv 0,#[Q0,.ty "tuple",T.QD,vg]]],#[Wr,#[qz,#[Z3,1,rfl],T.z_all,boot_all,#v[#[ZJ,["part"],[],lcs0,#[ko,4,pv 0],(λ_ _ _ _ _ _=>#[qX,(0),(show List.Nodup (["part"]:oj Str) by decide+kernel)]),(λ_ _ _ _ _ _=>#[qt,Q5,hr.mono (),T.g_is_name,#v[pv 0]])]]]]]]]
 exists 7
 exists 0,v,"tuple",tyD d,XN d,1,iv.ty,xk _;cases d with
 |tup xs=>
  refine⟨0,iteT ?_⟩;obtain⟨a0,vs,rfl,O,U⟩:=iv;have hl:xs.length<=1000:=by
   have hg:=yB hT;simp only [good,uz] at hg;have:=uq hg.1;omega
  refine⟨0,a0,vs,1,SqT.of O,λaa A0 Z=> ?_⟩;refine lc_tupS (tl:= []) (λd=> .bl (isNm d)) O U (yJ hl) Z (λd0 x0 H3 R ac s3 i3 r=> ?_) λH1 ys s1 l1 i1=> ?_
  ·exact⟨0,x0,d0,1,i3,λH4 s4=>r _ H4 s4 rfl⟩
  have ey:ys=(xs.map isNm).map V.bl:=IsL.bls (by rwa [uN])
  exists A0,xs.map isNm,1,SqL.of (by rw [l1,ey])
  have:(xs.map isNm).all id=isRow (.tup xs):=by rw [Uy];rfl
  rw [this];exact k H1 s1
 |str z=>exact⟨0,iteF (k H (Same.refl _))⟩
 |non=>exact⟨0,iteF (k H (Same.refl _))⟩
 |int z=>exact⟨0,iteF (k H (Same.refl _))⟩
 |bl z=>exact⟨0,iteF (k H (Same.refl _))⟩
 |lst=>exact⟨0,iteF (k H (Same.refl _))⟩
 |dct=>exact⟨0,iteF (k H (Same.refl _))⟩
theorem ok_isans (T:Tx K mg a):#[K,3,a.ZU,a.Zy,["ask","answer"],sp_isans]:=by
 have yy:=#[Y8,T];have zn:=#[ok_rown,T];exists 9,T.g_is_answer,sc_is_answer,Z
 obtain⟨v1,v2,u,d,an,rfl,i1,U,k⟩:=h;exists _,%[#[qI,#[qr,yX,pv 1,qU,qy _],%[|#[qp,#[QZ,Qn,#[qN,JV,pv 0,qi],ql,qy _]]],qw],#[qI,#[Qx,#[Qj,#[qt,yy,Z.mono (),T.g_is_tree,#v[pv 1]]]],%[|#[qp,jN]],qw],#[qI,#[qr,Qn,#[qN,JV,pv 0,qi],ql,qy _],%[|#[qp,#[QZ,#[op_inM,1,Z.units],pv 1,#[qB,#v[ql,ql]],#[w]]]],qw]|#[qp,#[pe_or,7,#[QZ,Qn,#[qN,JV,pv 0,qi],ql,qy _],#[Wr,#[qt,zn,Z.mono (),T.g_is_row_of_names,#v[pv 1]]]]]]
 exists 7
 have two:(2:Nat)<=sizeLine:=by decide
 have es:∀y:Str,decide (V.str u=V.str y)=decide (u=y):=λy=>by
  rw [uX];exact⟨λh=>by injection h,λh=>by rw [h]⟩
 have iu:∀{H:Hp}{Q:VK},Is H (.tup [.str u,d]) v1->Q (.str u) H->rIxT K v1 (.int 0) H Q:=λ{H Q} i q=>xq (i:=0) (d:= .str u) i (QF (j:=0) rfl) λx hx=>by
  obtain⟨rfl,_⟩:=hx;exact q
 exists 0,1,0;unfold ansB at k;by_cases cn:an= .non
 ·subst cn;cases(show v2= .non from U)
  refine QK () ?_
  refine⟨0,.inr (.inl (iu i1 ⟨1,?_⟩))⟩;rw [es];exact k H (Same.refl _)
 ·have aa:v2≠ .non:=XQ U cn;have ac:wl an=false:=by
   cases an with
   |non=>exact absurd rfl cn
   |_=>rfl
  rw [ac,A2 ub] at k;refine Qp (ug aa) ?_;refine⟨0,v2,an,1,U,λH1 s1=>⟨0,?_⟩⟩;by_cases O:isT an=true
  ·rw [A3 O] at k;rw [O];refine iteF ?_;refine⟨0,.inr (.inl (iu (i1.mono s1.tk) ⟨1,0,?_⟩))⟩;rw [es];by_cases ch:u="has"
   ·rw [A3 ch] at k;refine QK (ue ch) ?_;refine⟨0,two,λt1 h1=> ?_⟩;have s2:=qf h1 (.tup [.str "yes",.str "no"]);refine⟨an,t1,["yes","no"],(U.mono s1.tk).mono s2.tk,1,.inr (SqT.of qg),?_,?_,?_,k _ (s1.trans s2)⟩
    ·intro z hz;simp only [uC,vf,uM] at hz;rcases hz with rfl|rfl<;>decide+kernel
    ·have hg:=yB O;cases an with
     |non=>rfl
     |str z=>rfl
     |tup xs=>
      show puL xs=true;simp only [good,uz] at hg;exact goodL_pu hg.2
     |_=>simp [good] at hg
    ·have:=JX O;omega
   ·rw [A2 ch] at k;refine Qp (ug ch) ?_;refine⟨0,.inr (.inl (iu (i1.mono s1.tk) ⟨1,?_⟩))⟩;exists 0;rw [es];by_cases ct:u="thing"
    ·rw [ue ct] at k⊢;refine iteT ?_;exact k _ s1
    ·rw [ug ct] at k⊢;refine iteF ?_;exact⟨0,v2,an,1,U.mono s1.tk,O,λH2 s2=>k H2 (s1.trans s2)⟩
  ·rw [A2 O] at k;have:isT an=false:=by
    cases h:isT an with
    |true=>exact absurd h O
    |false=>rfl
   rw [this];exact iteT (k _ s1)
theorem ok_ans (T:Tx K mg a)(C:Fx K w mg g a):#[K,6,a.jJ,a.jB,["self","tree"],(sp_ans a.qo)]:=by
 have Ql:=#[ok_wait,T];have O:=#[ok_isans,T];have Yr:=#[ok_goon,T,C];exists 9,T.g_Machine_answer,je
 obtain⟨m,⟨B,p,n,gs,th⟩,v,u,d,an,rfl,M,hO,al,iv,hR,aP,am,k⟩:=h;exists _,%[#[qI,#[Qx,#[Qj,#[yh,pv 0,T.qu,T.g_Machine_is_waiting,Ql]]],%[|jw],qw],#[qC,(2),je.nd,#[qN,JV,#[qL,5,pv 0,rfl],qi]],#[qI,#[Qx,#[Qj,#[qt,O,hr.mono (),T.g_is_answer,#v[pv 2,pv 1]]]],%[|jw],qw],#[qY,#[jx,uV,vy,vz,Yv,#[qL,5,pv 0,rfl],#v[#[qB,#v[pv 2,pv 1]]]]],#[Jc,10,pv 0,qi,in_add],#[qI,#[qr,yX,pv 1,qU,qy _],%[#[Qc,#[qB,#v[ql,ql]]]|ps_retN],qw],#[Jb,#[qL,5,pv 0,rfl],#[qN,JV,#[qN,JV,#[qN,qM,#[qL,5,pv 0,rfl],#[qS,op_sub,#[qL,5,pv 0,rfl],qi]],qi],qi],pv 1],#[Jc,10,pv 0,qi,in_add],#[Qc,qU]|#[qY,#[yh,pv 0,T.qu,T.g_Machine_go_on,Yr]]]
 exists 7
 simp only at al;subst al;have two:(2:Nat)<=sizeLine:=by decide
 have hw:QR (.tup [.str "asks",.tup [.str u,d]])=true:=by simp [QR]
 obtain⟨af,ad,aQ,_⟩:=hO.ask hw;have ag:=hO.p1;have ao:=hO.gs.2.2;have ap:=hO.tr;simp only at af ad aQ ag ao ap;have hM:=M;obtain⟨dx,fs,rv,ru,tv,gv,e,f,ir,ij,ib,hg,gl,it⟩:=hM;simp only at f ib gl it;have aR:fs.length<1000:=by have:=f.len;omega
 exists 8,N1,q1;exists 0,m.x,dx,fs,1,e,f.meth _ (),m,0,M,.inr ⟨_,0⟩,0
 refine Qp (by show(!QR (.tup [.str "asks",.tup [.str u,d]]))=false;rw [hw];rfl) ?_
 refine q1 _ _ ?_;exists 8,N2,q2;refine⟨0,m.x,_,dx,fs,0,e,T.qu,T.qK,f.there,.inr (.inl (xq (i:=1) it (QF (j:=1) rfl) λq hq=> ?_))⟩;refine q2 _ _ ?_;exists 8,N3,q3;refine⟨0,0,q,v,u,d,an,1,hq,iv,λH1 s1=>⟨0,?_⟩⟩;rw [am];refine iteF ?_;refine q3 _ _ ?_;exists 8,N4,q4;have ha:=ansB_ok am;refine⟨0,m.x,_,dx,fs,0,s1 _ _ e,T.qu,T.Yx,f.given,.inl ⟨1,_,SqL.of (s1 _ _ hg)⟩,0,0,two,λt1 h1=> ?_⟩;have s2:=qf h1 (.tup [q,v]);have ip:Is (upd H1 t1 (.tup [q,v])) (.tup [.tup [.str u,d],an]) (.ref t1):=Is.new (ds:= [.tup [.str u,d],an]) ⟨_,0,hq.mono s1.tk,_,0,iv.mono s1.tk,1⟩ h1;have S2:=s1.trans s2;generalize upd H1 t1 (.tup [q,v])=H2 at s2 ip S2⊢;have bf:gv.length=gs.length:=gl.length;have aq:=S2 _ _ hg;exists m.dg,gv,0,1,aq,XJ ()
 have t3:Tk H2 (upd H2 m.dg (.lst (gv++ [.ref t1]))):=Tk.updL aq;have aS:m.x≠m.dg:=λz=>by rw [<-z,e] at hg;cases hg
 have au:m.db≠m.dg:=λz=>by
  obtain⟨ff,e2,_⟩:=ib;rw [z,hg] at e2;cases e2
 have e3:(upd H2 m.dg (.lst (gv++ [.ref t1]))) m.x=some (.ins a.qo dx fs):=by rw [qh aS];exact S2 _ _ e
 have T3:Tk H (upd H2 m.dg (.lst (gv++ [.ref t1]))):=S2.tk.trans t3;have aw:=(ib.same S2).move t3 (qh au);have ax:L2.IsL (upd H2 m.dg (.lst (gv++ [.ref t1]))) (gs++ [.tup [.tup [.str u,d],an]]) (gv++ [.ref t1]):=(gl.mono T3).append (IsL.one (ip.mono t3));have ay:(upd H2 m.dg (.lst (gv++ [.ref t1]))) m.dg=some (.lst (gv++ [.ref t1])):=qg;have aA:Mv m H (upd H2 m.dg (.lst (gv++ [.ref t1]))):=⟨λb o h _ _ n3=>by rw [qh n3];exact S2 b o h,T3⟩
 generalize upd H2 m.dg (.lst (gv++ [.ref t1]))=H3 at t3 e3 T3 aw ax ay aA⊢;refine q4 _ _ ?_;exists 8,N5,q5;exists 0,m.x,_,dx,fs,0,e3,T.qu,T.yf,f.done,(n:Int),(1),1,1,dx,fs,e3,aR;obtain⟨M4,aB⟩:=yk (r:=⟨B,p,n+1,gs++ [.tup [.tup [.str u,d],an]],.tup [.str "asks",.tup [.str u,d]]⟩) e3 (f.set_done (k:=n+1)) (ir.mono T3) (ij.mono T3) aw ay ax (it.mono T3);have aa:=aA.trans aB;have aC:=iv.mono aa.tk;refine q5 _ _ ?_;show tSeq _ _ _ _ (upd H3 m.x (.ins a.qo dx (putF "done" (.int ((n+1:Nat):Int)) fs)));generalize upd H3 m.x (.ins a.qo dx (putF "done" (.int ((n+1:Nat):Int)) fs))=H4 at M4 aB aa aC⊢;obtain⟨Z,U,bg,bh,bo,bp,e4,f4,ah,aD,ac,aE,ak,aF⟩:=M4;simp only at f4 ac ak aF;have ae:U.length<1000:=by have:=f4.len;omega
 exists 8,N6,q6;exists 0,1,0;by_cases cn:an= .non
 ·subst cn;cases(show v= .non from iv)
  refine QK () ?_
  refine⟨two,λl hl=> ?_⟩;have s5:=qf hl (.tup [.str "fault",.str "lack"]);exists 0,m.x,_,Z,U,1,s5 _ _ e4,T.qu,T.qK,ae;obtain⟨m1,m2⟩:=yk (r:=⟨B,p,n+1,gs++ [.tup [.tup [.str u,d],.non]],flt "lack"⟩) (s5 _ _ e4) (f4.set_there (u:= .ref l)) (ah.mono s5.tk) (aD.mono s5.tk) (ac.same s5) (s5 _ _ aE) (ak.mono s5.tk) (Is.new (ds:= [.str "fault",.str "lack"]) ⟨_,0,⟨1,yJ ()⟩,_,0,⟨1,yJ ()⟩,1⟩ hl)
  exact k _ (aa.trans ((Mv.of s5).trans m2)) m1
 ·have hT:isT an=true:=ha.resolve_left cn;have aT:v≠ .non:=XQ iv cn;have aU:wl an=false:=by
   cases an with
   |non=>exact absurd rfl cn
   |_=>rfl
  refine Qp (ug aT) ?_;refine q6 _ _ ?_;exists 8,N7,q7;obtain⟨z0,z1,aG,aV⟩:=ask_sh (hR.ok _ (kY ag af)) ad;have aW:b0 (jR m.rs p).2=z0:=by rw [aG];rfl
  obtain⟨kvs,aH,aX,t5⟩:=ac.put aV aC;have aY:atI (m.rs.map rowD) (p-1)=some (rowD (jR m.rs p)):=by
   rw [show p-1=((p.toNat-1:Nat):Int) by omega]
   exact QF (by rw [uH,row_at ag af];rfl)
  have aZ:m.db≠m.x:=Ym.ne e4 ac;have a1:m.dg≠m.db:=au.symm;exists 0,0,m.x,_,Z,U,0,e4,T.qu,T.Qs,f4.boxes,0,m.x,_,Z,U,0,e4,T.qu,T.yW,f4.rows,0,m.x,_,Z,U,0,e4,T.qu,T.Qh,f4.place,_,0,1;refine xq (d:=rowD (jR m.rs p)) ah aY λq5 a3=> ?_;refine .inr (.inl (xq (i:=1) a3 (QF (j:=1) rfl) λq6 aI=> ?_));rw [aG] at aI;refine .inr (.inl (xq (i:=0) (d:= .str z0) aI (QF (j:=0) rfl) λq7 a4=> ?_));obtain⟨rfl,_⟩:=a4;exists m.db,0,aH;have e5:(upd H4 m.db (.dK kvs)) m.x=some (.ins a.qo Z U):=by rwa [qh aZ.symm]
  refine q7 _ _ ?_;exists 8,N8,q8;exists 0,m.x,_,Z,U,0,e5,T.qu,T.Qh,f4.place,p,(1),1,1,Z,U,e5,ae;obtain⟨M6,a5⟩:=yk (r:=⟨setB B z0 an,p+1,n+1,gs++ [.tup [.tup [.str u,d],an]],.tup [.str "asks",.tup [.str u,d]]⟩) e5 (f4.set_place (q:=p+1)) (ah.mono t5) (aD.mono t5) aX (by rwa [qh a1]) (ak.mono t5) (aF.mono t5)
  have aJ:=aa.trans (Mv.trans ⟨λb o h _ a2 _=>by rwa [qh a2],t5⟩ a5)
  obtain⟨a6,aK,bq,bt,bu,bv,e6,f6,a7,a8,aL,a9,aM,ba⟩:=M6;simp only at f6 aL aM ba;have aN:aK.length<1000:=by have:=f6.len;omega
  refine q8 _ _ ?_;exists 8,N9,q9;exists 0,m.x,_,a6,aK,1,e6,T.qu,T.qK,aN;obtain⟨M7,bb⟩:=yk (r:=⟨setB B z0 an,p+1,n+1,gs++ [.tup [.tup [.str u,d],an]],.non⟩) e6 (f6.set_there (u:= .non)) a7 a8 aL a9 aM rfl;have aO:=aJ.trans bb;obtain⟨bc,bd,bw,bx,bA,bB,e7,f7,r7⟩:=id M7;refine q9 _ _ ?_;refine⟨0,m.x,bc,bd,1,e7,f7.meth _ (),m,0,M7,1,kh ap hT,aP,hR,by show 1<=p+1;omega,by show p+1<=_;omega,by show n+1<=300;omega,λH8 be M8=>k H8 (aO.trans be) ?_⟩
  unfold ansS;rw [aU,A2 ub];simp only;rw [aW];exact M8
noncomputable def PotQ (H:Hp)(p:o3):Prop:=∃x:Int,H p=some (.lst [.int x])/\0<=x
theorem PotQ.same (h:PotQ H p)(s:Same H H'):PotQ H' p:=by
 obtain⟨x,e,r⟩:=h;exact⟨x,s _ _ e,r⟩
theorem PotQ.free {l:o3}(h:PotQ H p)(n:H l=none):p≠l:=by
 obtain⟨x,e,r⟩:=h;exact qk e n
theorem PotQ.tk (h:PotQ H p)(h':PotQ H' p)(k:Kept p H H'):Tk H H':=by
 obtain⟨x,e,_⟩:=h;obtain⟨O,e',_⟩:=h';exact k.tk e e'
inductive sp_takQ (vs:List V) (H:Hp) (Q:VK) (E_:XK):Prop
 |mk (p:Addr) (many:Int) (_:vs= [.ref p,.int many]) (_:PotQ H p) (_:0<many) (_:many<1073741824) (_:∀(d:Int) (H':Hp),0<=d->d<many->PotQ H' p->Kept p H H'->Q (.int d) H')
inductive sp_potQ (vs:List V) (H:Hp) (Q:VK) (E_:XK):Prop
 |mk (c t:Int) (_:vs= [.int c,.int t]) (_:0<=t) (_:t<1000) (_:∀(p:Addr) (H':Hp),H p=none->Same H H'->PotQ H' p->Q (.ref p) H')
theorem j7 (T:Tx K mg a):#[K,1,a.Wv,a.Wu,["pot","many"],sp_takQ]:=by
 exists 9,T.g_law_take,Z2
 obtain⟨p,many,rfl,⟨x,O,Z⟩,hm,U,k⟩:=h;exists _,%[#[qC,(2),Z2.nd,#[qS,Zb,#[qN,Q4,pv 0,qi],pv 1]],#[ps_asg,6,#[qS,op_fdiv,#[qN,Q4,pv 0,qi],pv 1],#[pg_sub,7,pv 0,qi,set_list,_],_,_,_]|#[qp,pv 2]]
 exists 7
 exists 0,p,_,_,0,1,SqL.of O,1,0,_,0,1,hm;exists 0,p,_,_,0,1,SqL.of O,1,0,_,0,1,⟨hm,U⟩,0,p,_,_,0,1,O,1;exists 0;refine k _ _ (UK _ ()) (Uh _ hm) ⟨x/many,qg,Int.ediv_nonneg Z ()⟩ (Kept.upd _ _ _)
theorem ok_potQ (T:Tx K mg a):#[K,1,a.f_law_pot,a.d_law_pot,["cell","salt"],sp_potQ]:=by
 exists 9,T.g_law_pot,Yn
 obtain⟨c,t,rfl,h0,h1,k⟩:=h;exists _,%[#[qI,#[qr,op_ge,#[qz,call_abs,T.z_abs,boot_abs,#v[pv 0]],#[qS,op_pow,qi,qi],qy _],%[|#[qp,#[QW,#v[#[qz,call_abs,T.z_abs,boot_abs,#v[pv 0]]]]]],qw],#[qC,(2),Yn.nd,#[qS,Zb,#[qS,op_mul,#[qS,QL,#[qS,QL,#[qS,Zb,pv 0,qi],#[qS,op_mul,qi,pv 1]],qi],qi],qi]],#[qC,(3),Yn.nd,qi],#[jL,#[y7,#v[qi]],#[qX,(4),Yn.nd],%[#[qC,(2),Yn.nd,#[qS,Zb,#[qS,QL,#[qS,QL,#[qS,op_mul,pv 2,pv 2],#[qS,op_mul,qi,pv 4]],qi],qi]]|#[qC,(3),Yn.nd,#[qS,QL,#[qS,op_mul,pv 3,qi],pv 2]]]]|#[qp,#[QW,#v[pv 3]]]]
 exists 7
 exists 0,0,_,0,1,⟨(),(),()⟩,_,0,1,0
 refine ite2 (λ_=> ?_) (λ_=> ?_)
 ·refine⟨0,0,(sml rfl),λp O=> ?_⟩;refine k p _ O (qf O _) ⟨_,qg,?_⟩;split<;>omega
 ·refine⟨0,_,0,1,(by show(0:Int)<2147483647;decide),0,_,0,1,(.inl ⟨(),()⟩),_,0,1,_,0,1,_,0,1,(.inr ⟨(),()⟩),_,0,1,(by show(0:Int)<2147483647;decide),(9),1,(),(),?_⟩
  let J1_:Nat->L2.St->Hp->Prop:=λi σ H'=>∃(x b:Int) (kv:om V),σ= [some (.int c),some (.int t),some (.int x),some (.int b),kv]/\0<=x/\x<2147483647/\0<=b/\H'=H
  refine jV (n:=9) J1_ ⟨_,_,none,1,UK _ (),Uh _ (),(),1⟩ ?_ ?_
  ·rintro i σ H' hi ⟨x,b,kv,rfl,Z,aa,hb,rfl⟩;have U:CMul x x:= .inl ⟨(),()⟩
   refine⟨0,0,_,0,1,U,0,_,0,1,(.inl ⟨(),()⟩),_,0,1,_,0,1,_,0,1,(by show(0:Int)<2147483629;decide),0,_,0,1,(.inr ⟨(),()⟩),0,_,0,1,?_⟩
   have q0:0<=(x*x+40692*(0+(i:Int))+3)%2147483629:=UK _ ()
   have q1:(x*x+40692*(0+(i:Int))+3)%2147483629<2147483629:=Uh _ ()
   exact⟨_,_,0,q0,Int.lt_trans q1 (),Int.add_nonneg (Int.mul_nonneg hb ()) q0,1⟩
  ·rintro σ H' ⟨x,b,kv,rfl,Z,aa,hb,rfl⟩;exact⟨0,(sml rfl),λp O=>k p _ O (qf O _) ⟨_,qg,hb⟩⟩
noncomputable def Nm4 (zs:oj Str):Prop:=1<=zs.length/\zs.length<=8/\∀z∈zs,nm z=true/\z.length<=4
noncomputable def Wd (n:Nat)(z:Str):Prop:=jM z=true/\z.length<=n
theorem Kept.of (s:Same H H'):Kept p H H':=λb o e _=>s b o e
theorem PotQ.ne_strs {l:o3}(h:PotQ H p)(e:H l=some (.lst (zs.map V.str))):l≠p:=λz=>by
 obtain⟨x,O,_⟩:=h;rw [<-z,e] at O;cases zs with
 |nil=>cases O
 |cons a r=>simp at O
inductive sp_word (vs:List V) (H:Hp) (Q:VK) (E_:XK):Prop
 |mk (p L:Addr) (zs:List Str) (_:vs= [.ref p,.ref L]) (_:PotQ H p) (_:H L=some (.lst (zs.map V.str))) (_:Nm4 zs) (_:∀(z:Str) (H':Hp),Wd 4 z->PotQ H' p->Kept p H H'->Q (.str z) H')
inductive sp_line (vs:List V) (H:Hp) (Q:VK) (E_:XK):Prop
 |mk (p L:Addr) (zs:List Str) (many k:Nat) (_:vs= [.ref p,.ref L,.int (many:Int),.int (k:Int)]) (_:PotQ H p) (_:H L=some (.lst (zs.map V.str))) (_:Nm4 zs) (_:1<=many) (_:many<=12) (_:k<=12) (_:∀(z:Str) (H':Hp),Wd 20 z->PotQ H' p->Kept p H H'->Q (.str z) H')
noncomputable def FIV:oj Str:= ["","x","b1 g","yes","c/d"]
theorem fiv_ok:∀z∈FIV,Wd 4 z:=by
 have:∀z∈FIV,jM z=true/\z.length<=4:=by decide+kernel
 exact this
theorem nm_all (h:nm z=true):jM z=true:=okN_all (nm_okN h)
theorem wd_of (h:Nm4 zs):∀z∈zs++FIV,Wd 4 z:=λz O=>by
 rcases A7.mp O with h1|h1
 ·exact⟨nm_all (h.2.2 z h1).1,(h.2.2 z h1).2⟩
 ·exact fiv_ok z h1
theorem Wd.cat {m k:Nat}{y:Str}(h:Wd n x)(h':Wd m y)(e:n+m<=k):Wd k (x++y):=⟨okAll_app h.1 h'.1,by rw [app_len];have:=h.2;have:=h'.2;omega⟩
theorem join_ok:∀{l:oj Str},(∀z∈l,jM z=true)->Wd ((l.map (·.length)).sum+l.length) (Str.join " " l)
 | [],_=>⟨1,v7 _⟩
 | [z],h=>⟨h z (by simp),by show z.length<=_;simp⟩
 |z::y::r,h=>by
  have O:=join_ok (l:=y::r) λx U=>h x (uc _ U);have Z:=h z (by simp)
  have e:=L2.Jv z y r;refine⟨?_,?_⟩
  ·show(Str.join " " (z::y::r)).cps.toList.all QC=true;rw [e,UH,vo,show z.cps.toList.all QC=true from Z,show(Str.join " " (y::r)).cps.toList.all QC=true from O.1]
   decide
  ·rw [len_cps,e,uA,um,<-len_cps,<-len_cps];have h1:=O.2;simp only [uh,Ur,um] at h1⊢;omega
noncomputable def WL:oj Str:= ["ask","ask","ask","has","names","text","text","copy","put","put","join","first","first","rest","size","cut","glue","like","none","rowed","go","say","fault","self"]
noncomputable abbrev WTX:Str:="ask ask ask has names text text copy put put join first first rest size cut glue like none rowed"
theorem wl_spl:spl ((WTX++(" go say fault self":Str)).length+1) (WTX++(" go say fault self":Str))=WL:=by decide+kernel
theorem wl_ok:∀z∈WL,Wd 5 z:=by
 have:∀z∈WL,jM z=true/\z.length<=5:=by decide+kernel
 exact this
theorem abc_ok:∀c∈("abcdh":Str).cps.toList,QC c=true:=by decide+kernel
theorem abc_at {d:Int}(h0:0<=d)(h1:d<5):∃c,atI ("abcdh":Str).cps.toList d=some c/\Wd 1 ⟨#[c]⟩:=by
 obtain⟨c,O⟩:=Yk (xs:=("abcdh":Str).cps.toList) h0 (by show d<5;exact h1)
 refine⟨c,O,?_,ui _⟩;show [c].all QC=true;rw [vo,abc_ok c (jl O)]
 rfl
theorem num_ok:∀k:Nat,k<13->jM (toString (k:Int):Str)=true/\(toString (k:Int):Str).length<=2:=by decide+kernel
theorem ok_word (T:Tx K mg a):#[K,2,a.WG,a.WE,["pot","names"],sp_word]:=by
 have qH:=#[j7,T];exists 9,T.g_law_word,ZT
 obtain⟨p,L,zs,rfl,hP,hL,U,k⟩:=h;have hs:=uE;have aa:=U.1;have ac:=U.2.1;exists _,%[#[qC,(2),ZT.nd,#[qS,op_cat,pv 1,#[QW,#v[ql,ql,ql,ql,ql]]]]|#[qp,#[qN,Q4,pv 2,#[qt,qH,hr.mono (),T.g_law_take,#v[pv 0,#[qz,qQ,T.Yd,uJ,#v[pv 2]]]]]]]
 exists 7
 refine⟨0,(sml rfl),λq hq=> ?_⟩;have s1:Same H (upd H q (.lst [.str "",.str "x",.str "b1 g",.str "yes",.str "c/d"])):=qf hq _;refine⟨L,q,_,0,1,s1 _ _ hL,qg,(by rw [ua];show _+5<=sizeLine;omega),λl hl=> ?_⟩
 have s2:=s1.trans (qf hl (.lst (zs.map V.str++ [.str "",.str "x",.str "b1 g",.str "yes",.str "c/d"])));have O:(upd (upd H q (.lst [.str "",.str "x",.str "b1 g",.str "yes",.str "c/d"])) l (.lst (zs.map V.str++ [.str "",.str "x",.str "b1 g",.str "yes",.str "c/d"]))) l=some (.lst ((zs++FIV).map V.str)):=by rw [qg,uw];rfl
 generalize upd (upd H q (.lst [.str "",.str "x",.str "b1 g",.str "yes",.str "c/d"])) l (.lst (zs.map V.str++ [.str "",.str "x",.str "b1 g",.str "yes",.str "c/d"]))=H2 at s2 O⊢;have P2:=hP.same s2;have l5:((zs++FIV).map V.str).length=zs.length+5:=by rw [ua,uA];rfl
 refine⟨0,0,0,l,0,.inl (SqL.of O),p,0,P2,by rw [l5];omega,by rw [l5];omega,λd H' d0 d1 P3 K3=> ?_⟩
 have Z:=K3 _ _ O (P2.ne_strs O);obtain⟨v,hv⟩:=Yk (xs:=(zs++FIV).map V.str) d0 d1;obtain⟨z,hz,rfl⟩:=A8.mp (jl hv);exact⟨l,_,d,0,1,SqL.of Z,hv,k z H' (wd_of U z hz) P3 ((Kept.of s2).trans K3)⟩
theorem sums {c:Nat}:∀{l:oj Str},(∀z∈l,z.length<=c)->(l.map (·.length)).sum<=l.length*c
 | [],_=>by simp
 |z::r,h=>by
  have:=sums λy O=>h y (uc _ O);have:=h z uf;simp only [uh,Ur,um,Nat.add_mul,Nat.one_mul];omega
theorem joins {K:o0}(hl:l.length<=3)(O:Wd 5 z)(h:∀z∈l,Wd 2 z)(k:∀y H',Wd 20 y->Same H H'->Q (.str y) H'):((z::l).map V.str).length<=sizeLine/\∀p,H p=none->rJoin K (.str " ") [.ref p] (upd H p (.lst ((z::l).map V.str))) Q:=by
 have hs:=uE;have h1:=sums (c:=2) λz O=>(h z O).2;have h2:=O.2;refine⟨by rw [ua,um];omega,λp Z=>⟨" ",p,z::l,1,1,SqL.of qg,?_,?_⟩⟩
 ·have e:(" ":Str).length=1:=rfl;rw [e];simp only [uh,Ur,um];omega
 ·have:=join_ok (l:=z::l) λy U=>by
   rcases A5.mp U with rfl|U
   ·exact O.1
   ·exact(h y U).1
  refine k _ _ ⟨this.1,?_⟩ (qf Z _);have h3:=this.2;simp only [uh,Ur,um] at h3;omega
theorem ok_line (T:Tx K mg a):#[K,3,a.Ww,a.WV,["pot","names","many","k"],sp_line]:=by
 have qH:=#[j7,T];have QU:=#[ok_word,T];exists 9,T.g_law_line,yn
 obtain⟨p,L,zs,many,i,rfl,hP,hL,hN,ay,aA,hi,k⟩:=h;exists _,%[#[qC,(4),yn.nd,ql],#[qC,(5),yn.nd,#[qN,Q4,#[jx,uS,Ub,Uc,mt_split,#[qS,Qr,pv 4,ql],#v[ql]],#[qt,qH,hr.mono (),T.g_law_take,#v[pv 0,qi]]]],#[ps_asg,6,#[ZJ,["j","pot"],[0],lcsN (qj JI) ["pot","names","many","k","words","word","one","two","three","at"],#[y7,#v[qi]],(λ_ _ _ _ _ _=>#[qX,(0),(show List.Nodup (["j","pot"]:oj Str) by decide+kernel)]),(λ_ _ _ _ _ _=>#[qN,ix_str,ql,#[qt,qH,hr.mono (),T.g_law_take,#v[pv 1,qi]]])],#[pg_lstU,6,rfl,yU #[qX,(6),yn.nd] (yU #[qX,(7),yn.nd] (yU #[qX,(8),yn.nd] W8)),_,_],_,_,_],#[qC,(9),yn.nd,#[qW,Jg,T.Zh,UI,#v[#[qz,#[call_min2,1,rfl],T.z_min,boot_min,#v[pv 2,#[qS,QL,#[qS,QL,pv 3,qi],#[qt,qH,hr.mono (),T.g_law_take,#v[pv 0,pv 2]]]]]]]],#[qI,#[qr,Qn,pv 5,ql,qy _],%[|#[qp,#[qS,Qr,#[qS,Qr,#[qS,Qr,ql,pv 6],ql],#[qt,QU,hr.mono (),T.g_law_word,#v[pv 0,pv 1]]]]],qw],#[qI,#[qr,QI,pv 5,#[QW,#v[ql,ql]],#[w]],%[|#[qp,#[qS,Qr,#[qS,Qr,pv 5,ql],pv 6]]],qw],#[qI,#[qr,Qn,pv 5,ql,qy _],%[|#[qp,pv 5]],qw],#[qI,#[qr,Qn,pv 5,ql,qy _],%[|#[qp,#[qS,Qr,ql,pv 9]]],qw],#[qI,#[qr,QI,pv 5,#[QW,#v[ql,ql]],#[w]],%[|#[qp,#[jx,uS,vY,vZ,kr,ql,#v[#[QW,#v[pv 5,pv 6,pv 9]]]]]],qw],#[qI,#[qr,Qn,pv 5,ql,qy _],%[|#[qp,#[jx,uS,vY,vZ,kr,ql,#v[#[QW,#v[pv 5,pv 6,pv 7,pv 9]]]]]],qw],#[qI,#[qr,QI,pv 5,#[QW,#v[ql,ql]],#[w]],%[|#[qp,#[jx,uS,vY,vZ,kr,ql,#v[#[QW,#v[pv 5,pv 6,pv 7,pv 8]]]]]],qw]|#[qp,#[jx,uS,vY,vZ,kr,ql,#v[#[QW,#v[pv 5,pv 6,pv 7]]]]]]
 exists 7
 refine⟨0,_,0,1,(),1,0,1,(),λq hq=> ?_⟩
 rw [show spl _ _=WL from wl_spl]
 have s1:Same H (upd H q (.lst (WL.map V.str))):=qf hq _;have eq:(upd H q (.lst (WL.map V.str))) q=some (.lst (WL.map V.str)):=qg;generalize upd H q (.lst (WL.map V.str))=H1 at s1 eq⊢;have P1:=hP.same s1;refine⟨0,p,(24),1,P1,(),(),λd H2 d0 d1 P2 K2=> ?_⟩
 obtain⟨v,hv⟩:=Yk (xs:=WL.map V.str) d0 (by show d<24;exact d1)
 obtain⟨z,hz,rfl⟩:=A8.mp (jl hv);exists q,_,d,0,1,SqL.of (K2 _ _ eq (P1.ne_strs eq)),hv;have Z:=wl_ok z hz;have ah:Kept p H H2:=(Kept.of s1).trans K2;clear K2 hv hz eq P1 s1 hq;refine⟨(3),1,(),(),λD hD=> ?_⟩
 refine Zp (lo:=0) (tl:= [some (.ref p)]) (λi ys H'=>∃bs:oj Str,ys=bs.map V.str/\bs.length=i/\(∀b∈bs,Wd 1 b)/\PotQ H' p/\(∀b o,H2 b=some o->b≠p->H' b=some o)) (yJ ()) ⟨[],1,1,λb hb=>by simp at hb,P2.same (qf hD _),λb o e _=>qf hD _ _ _ e⟩ ?_ ?_
 ·rintro j ys H' hj ⟨bs,rfl,aa,U,P',K'⟩ ac O R hR;refine⟨0,p,(5),1,P',(),(),λd3 H4 e0 e1 P4 K4=> ?_⟩
  obtain⟨c,hc,am⟩:=abc_at e0 e1;exists "abcdh",d3,c,1,1,(),hc
  have nD:D≠p:=(P2.free hD).symm;refine hR _ H4 (K4 _ _ ac nD) ⟨bs++ [⟨#[c]⟩],by rw [uw];rfl,by rw [uA,aa];rfl,λb hb=> ?_,?_,λb o e np=> ?_⟩
  ·rcases A7.mp hb with h|h
   ·exact U b h
   ·rw [Ug] at h;subst h;exact am
  ·obtain⟨x,e2,h2⟩:=P4;exact⟨x,by rwa [qh nD.symm],h2⟩
  ·rw [qh (qk e hD)];exact K4 _ _ (K' b o e np) np
 ·rintro ys H' ⟨bs,rfl,aa,U,P',K'⟩ ac;obtain⟨x1,x2,x3,rfl⟩:∃x1 x2 x3,bs= [x1,x2,x3]:=by
   match bs,aa with
   | [x1,x2,x3],_=>exact⟨x1,x2,x3,1⟩
  have h1:Wd 2 x1:=⟨(U x1 (by simp)).1,by have:=(U x1 (by simp)).2;omega⟩
  have h2:Wd 2 x2:=⟨(U x2 (by simp)).1,by have:=(U x2 (by simp)).2;omega⟩
  have h3:Wd 2 x3:=⟨(U x3 (by simp)).1,by have:=(U x3 (by simp)).2;omega⟩
  have KD:Kept p H H':=λb o e np=>K' b o (ah b o e np) np;exists D,0,SqL.of ac,1,_,0,_,0,_,0,1;clear K' ah P2 U aa ac;refine⟨0,0,_,0,1,0,0,p,many,1,P',(),(),λd5 H5 f0 f1 P5 K5=>⟨_,0,1,_,0,?_⟩⟩
  obtain⟨j,ej,ao,ap⟩:∃j:Int,j=(if(i:Int)+5+d5<(many:Int) then(i:Int)+5+d5 else(many:Int))/\1<=j/\j<=12:=⟨0,by split<;>omega,by split<;>omega⟩
  rw [<-ej];obtain⟨jn,rfl⟩:∃n:Nat,j=(n:Int):=⟨j.toNat,()⟩
  have ak:=num_ok jn ()
  have h4:Wd 2 (toString ((jn:Nat):Int):Str):=ak;have ae:((jn:Nat):Int).natAbs.log2<1920:=by have:=Nat.log2_le_self ((jn:Nat):Int).natAbs;omega
  exists 0,ae;have af:Kept p H H5:=KD.trans K5;have aq:=af _ _ hL (hP.ne_strs hL);have fin:∀(y:Str) (H':Hp),Wd 20 y->Same H5 H'->Q (.str y) H':=λy H' O s'=>k y H' O (P5.same s') (af.trans (Kept.of s'));have two:(2:Nat)<=sizeLine:=by decide
  have bl:Wd 1 " ":=⟨(),ui _⟩
  have fz:∀{n m:Nat}{x y:Str},Wd n x->Wd m y->n+m<=100->x.length+y.length<=sizeLine:=λhx O h=>fits (by have:=hx.2;have:=O.2;omega)
  have tx:Wd 5 "text ":=⟨(),ui _⟩
  have go:Wd 3 "go ":=⟨(),ui _⟩
  clear ak ao ap ae ej;refine⟨0,1,0,ite2 (λ_=> ?_) (λ_=> ?_)⟩
  ·have w1:=tx.cat h1 (k:=7) ()
   have w2:=w1.cat bl (k:=8) ()
   refine⟨0,_,0,1,fz tx h1 (),_,0,1,fz w1 bl (),0,0,p,L,zs,1,P5,aq,hN,λy H6 O P6 K6=> ?_⟩
   exact⟨_,0,1,fz w2 O (),k _ H6 (w2.cat O ()) P6 (af.trans K6)⟩
  refine⟨0,two,λl1 au=>⟨l1,0,.inl (SqL.of qg),1,1,0,?_⟩⟩;have ad:=qf au (.lst ([.str "self",.str "say"]:oj V));refine ite2 (λ_=> ?_) (λ_=> ?_)
  ·have w1:=Z.cat bl (k:=6) ()
   exact⟨0,_,0,1,fz Z bl (),0,_,0,1,fz w1 h1 (),fin _ _ (w1.cat h1 ()) ad⟩
  refine⟨0,1,0,ite2 (λ_=> ?_) (λ_=> ?_)⟩
  ·exact⟨0,fin _ _ ⟨Z.1,by have:=Z.2;omega⟩ ad⟩
  refine⟨0,1,0,ite2 (λ_=> ?_) (λ_=> ?_)⟩
  ·exact⟨0,_,0,1,fz go h4 (),fin _ _ (go.cat h4 ()) ad⟩
  refine⟨0,two,λl2 aw=>⟨l2,0,.inl (SqL.of qg),1,1,0,?_⟩⟩;have ag:=ad.trans (qf aw (.lst ([.str "none",.str "rowed"]:oj V)));refine ite2 (λ_=> ?_) (λ_=> ?_)
  ·exists 1,0,0,0;exact joins (l:= [x1,toString ((jn:Nat):Int)]) (by simp) Z (λy O=>by simp at O;rcases O with rfl|rfl<;>assumption) λy H' O s'=>fin y H' O (ag.trans s')
  refine⟨0,1,0,ite2 (λ_=> ?_) (λ_=> ?_)⟩
  ·exists 1,0,0,0,0;exact joins (l:= [x1,x2,toString ((jn:Nat):Int)]) (by simp) Z (λy O=>by simp at O;rcases O with rfl|rfl|rfl<;>assumption) λy H' O s'=>fin y H' O (ag.trans s')
  refine⟨0,two,λl3 ax=>⟨l3,0,.inl (SqL.of qg),1,1,0,?_⟩⟩;have al:=ag.trans (qf ax (.lst ([.str "cut",.str "glue"]:oj V)));refine ite2 (λ_=> ?_) (λ_=> ?_)
  ·exists 1,0,0,0,0;exact joins (l:= [x1,x2,x3]) (by simp) Z (λy O=>by simp at O;rcases O with rfl|rfl|rfl<;>assumption) λy H' O s'=>fin y H' O (al.trans s')
  ·exists 1,0,0,0;exact joins (l:= [x1,x2]) (by simp) Z (λy O=>by simp at O;rcases O with rfl|rfl<;>assumption) λy H' O s'=>fin y H' O (al.trans s')
noncomputable def TrOk (d:D):Prop:=isT d=true/\lw d=true/\sz d<=300
inductive sp_tre (vs:List V) (H:Hp) (Q:VK) (E_:XK):Prop
 |mk (p L:Addr) (zs:List Str) (_:vs= [.ref p,.ref L]) (_:PotQ H p) (_:H L=some (.lst (zs.map V.str))) (_:Nm4 zs) (_:∀(v:V) (d:D) (H':Hp),TrOk d->Is H' d v->PotQ H' p->Kept p H H'->Q v H')
theorem IsL.ofStrz {H:Hp}:∀{l:oj Str},(∀z∈l,z.length<=1000)->L2.IsL H (l.map D.str) (l.map V.str)
 | [],_=>rfl
 |z::r,h=>⟨_,0,⟨1,yJ (h z uf)⟩,IsL.ofStrz λy O=>h y (uc _ O)⟩
theorem szL_strs {n:Nat}:∀{l:oj Str},(∀z∈l,z.length<=n)->szL (l.map D.str)<=l.length*(n+1)
 | [],_=>by simp [szL]
 |z::r,h=>by
  have:=szL_strs (n:=n) λy O=>h y (uc (a:=y) z O);have:=h z uf;simp only [uh,szL,sz,um,Nat.add_mul,Nat.one_mul];omega
theorem lw_strs:∀{l:oj Str},(∀z∈l,jM z=true)->lwL (l.map D.str)=true
 | [],_=>rfl
 |z::r,h=>by
  rw [uh,lwL,lw_strs λy O=>h y (uc _ O),vQ];exact h z uf
theorem dp_strs:∀l:oj Str,dpL (l.map D.str)<=1
 | []=>by simp [dpL]
 |z::r=>by have:=dp_strs r;simp only [uh,dpL,dp];omega
theorem good_strs:∀{l:oj Str},(∀z∈l,Wd 300 z)->goodL (l.map D.str)=true
 | [],_=>rfl
 |z::r,h=>by
  rw [uh,goodL,good_strs λy O=>h y (uc _ O),vQ];show Qy z=true;unfold Qy;have:=h z uf;rw [ue this.2];exact this.1
theorem tr_str (h:Wd 20 z):TrOk (.str z):=⟨isT_short h.1 (by have:=h.2;omega),h.1,by simp only [sz];have:=h.2;omega⟩
theorem tr_row (Z:l.length<=14)(h:∀z∈l,Wd 20 z):TrOk (.tup (l.map D.str)):=by
 have h1:=szL_strs λz O=>(h z O).2;have h2:=dp_strs l;have h3:=good_strs λz O=>(⟨(h z O).1,by have:=(h z O).2;omega⟩:Wd 300 z)
 have e:sz (.tup (l.map D.str))<=300:=by simp only [sz];omega
 refine⟨?_,by simpa only [lw] using lw_strs λz O=>(h z O).1,e⟩
 have U:dp (.tup (l.map D.str))<=12:=by simp only [dp];omega
 unfold isT;rw [ue (show sz (.tup (l.map D.str))<=600 by omega),ue U]
 simp only [good];rw [h3,ua,ue (show l.length<=40 by omega)]
 rfl
theorem kH {t:o3}(h:∀z∈l,Wd 20 z)(O:H t=none):Is (upd H t (.tup (l.map V.str))) (.tup (l.map D.str)) (.ref t):=
 Is.new (IsL.ofStrz λz U=>by have:=(h z U).2;omega) O
noncomputable def MKL (z:Str):oj Str:= ["row h","text b "++z,"ask c b","text a text d ","join a c","put h a","text a ask e d","put h a","text a say e","put h a","say h"]
theorem mkl_ok (h:Wd 4 z):∀y∈MKL z,Wd 20 y:=by
 have O:∀y∈(["row h","ask c b","text a text d ","join a c","put h a","text a ask e d","put h a","text a say e","put h a","say h"]:oj Str),jM y=true/\y.length<=20:=by decide+kernel
 intro y U;rcases A5.mp U with rfl|U
 ·exact O _ (by simp)
 ·rcases A5.mp U with rfl|U
  ·exact Wd.cat (n:=7) (m:=4) ⟨(),ui _⟩ h ()
  ·exact O y (uc _ U)
theorem ok_maker (T:Tx K mg a):#[K,2,a.Z4,a.wK,["pot","names"],sp_tre]:=by
 have qH:=#[j7,T];exists 9,T.g_law_maker,YN
 obtain⟨p,L,zs,rfl,hP,hL,Z,k⟩:=h;have ac:=Z.1;have ad:=Z.2.1;exists _,%[#[qC,(2),YN.nd,#[qN,Q4,pv 1,#[qt,qH,hr.mono (),T.g_law_take,#v[pv 0,#[qz,qQ,T.Yd,uJ,#v[pv 1]]]]]],#[qC,(3),YN.nd,#[QW,#v[ql,#[qS,Qr,ql,pv 2],ql,ql,ql,ql]]],#[qC,(3),YN.nd,#[qS,op_cat,pv 3,#[QW,#v[ql,ql,ql,ql,ql]]]]|#[qp,#[qW,qR,T.QD,vg,#v[pv 3]]]]
 exists 7
 have aa:=hP.ne_strs hL;refine⟨0,0,0,L,0,.inl (SqL.of hL),p,0,hP,by rw [ua];omega,by rw [ua];omega,λd1 H1 a0 a1 P1 K1=> ?_⟩
 obtain⟨v,hv⟩:=Yk (xs:=zs.map V.str) a0 a1;obtain⟨z,hz,rfl⟩:=A8.mp (jl hv);have O:Wd 4 z:=⟨nm_all (Z.2.2 z hz).1,(Z.2.2 z hz).2⟩;exists L,_,_,0,1,SqL.of (K1 _ _ hL aa),hv;have e7:("text b ":Str).length=7:=by decide+kernel
 refine⟨0,_,0,1,fits (by have:=O.2;omega),(sml rfl),λU h1=> ?_⟩
 have q1:=qf h1 (.lst (((MKL z).take 6).map V.str));have e1:(upd H1 U (.lst (((MKL z).take 6).map V.str))) U=some (.lst (((MKL z).take 6).map V.str)):=qg;show tSeq _ _ _ _ (upd H1 U (.lst (((MKL z).take 6).map V.str)));generalize upd H1 U (.lst (((MKL z).take 6).map V.str))=H2 at q1 e1⊢;refine⟨0,(sml rfl),λl2 h2=> ?_⟩;have q2:=qf h2 (.lst (((MKL z).drop 6).map V.str));refine⟨U,l2,_,0,1,q2 _ _ e1,qg,fits (by show 6+5<=16000000;decide),λl3 h3=> ?_⟩
 have q3:=q2.trans (qf h3 (.lst ((MKL z).map V.str)));refine⟨0,l3,(MKL z).map V.str,1,.inl ⟨SqL.of qg,λt ht=> ?_⟩⟩;have q4:=qf ht (.tup ((MKL z).map V.str));exact k _ _ _ (tr_row (by show 11<=14;decide) (mkl_ok O)) (kH (mkl_ok O) ht) ((P1.same q1).same (q3.trans q4)) (K1.trans (Kept.of (q1.trans (q3.trans q4))))
theorem ok_rule (T:Tx K mg a):#[K,4,a.Wm,a.WW,["pot","names"],sp_tre]:=by
 have qH:=#[j7,T];have QU:=#[ok_word,T];have O:=#[ok_line,T];exists 9,T.g_law_rule,jo
 obtain⟨p,L,zs,rfl,hP,hL,hN,k⟩:=h;exists _,%[#[qC,(2),jo.nd,#[qS,QL,qi,#[qt,qH,hr.mono (),T.g_law_take,#v[pv 0,qi]]]],#[qC,2,(3),4,jo.nd,rfl,Or.inr rfl,#[qS,QL,pv 2,qi],_,_],#[qC,(4),jo.nd,#[QW,#v[#[qS,Qr,ql,#[qt,QU,hr.mono (),T.g_law_word,#v[pv 0,pv 1]]],#[qS,Qr,ql,#[qt,QU,hr.mono (),T.g_law_word,#v[pv 0,pv 1]]],ql]]],#[qY,#[jx,uV,PySem.F.slot_list_extend,PySem.F.type_list_extend,mt_extend,pv 4,#v[#[ZJ,["k","pot","names","many"],[0,1,3],lcsN (qj JA) ["pot","names","body","many","lines"],#[y7,#v[pv 2]],(λ_ _ _ _ _ _=>#[qX,(0),(show List.Nodup (["k","pot","names","many"]:oj Str) by decide+kernel)]),(λ_ _ _ _ _ _=>#[qt,O,hr.mono (),T.g_law_line,#v[pv 1,pv 2,pv 3,pv 0]])]]]]|#[qp,#[qW,qR,T.QD,vg,#v[#[qS,op_cat,pv 4,#[QW,#v[#[qS,Qr,ql,#[qN,ix_str,ql,#[qt,qH,hr.mono (),T.g_law_take,#v[pv 0,qi]]]]]]]]]]]
 exists 7
 refine⟨0,p,(8),1,hP,(),(),λd1 H1 a0 a1 P1 K1=>⟨_,0,1,?_⟩⟩
 obtain⟨nb,ah,aG,aH⟩:∃nb:Nat,1+d1=(nb:Int)/\1<=nb/\nb<=8:=⟨(1+d1).toNat,(),(),()⟩
 have aa:=K1 _ _ hL (hP.ne_strs hL);dsimp only;rw [ah];clear ah a0 a1;exists 0,_,0,1;have ta:Wd 7 "text a ":=⟨(),ui _⟩
 have tb:Wd 7 "text b ":=⟨(),ui _⟩
 have fz:∀{n m:Nat}{x y:Str},Wd n x->Wd m y->n+m<=100->x.length+y.length<=sizeLine:=λhx U h=>fits (by have:=hx.2;have:=U.2;omega)
 refine⟨0,0,p,L,zs,1,P1,aa,hN,λz1 H5 ak P5 K5=>⟨_,0,1,fz ta ak (),?_⟩⟩
 have ac:=K5 _ _ aa (P1.ne_strs aa);refine⟨0,0,p,L,zs,1,P5,ac,hN,λz2 H6 al P6 K6=>⟨_,0,1,fz tb al (),(sml rfl),λl hl=> ?_⟩⟩
 have au:=K6 _ _ ac (P5.ne_strs ac);have am:Kept p H H6:=(K1.trans K5).trans K6;have s7:=qf hl (.lst (["text a "++z1,"text b "++z2,"row h"].map V.str));have e7:(upd H6 l (.lst (["text a "++z1,"text b "++z2,"row h"].map V.str))) l=some (.lst (["text a "++z1,"text b "++z2,"row h"].map V.str)):=qg;have P7:=P6.same s7;have ad:=s7 _ _ au;have K7:Kept p H (upd H6 l (.lst (["text a "++z1,"text b "++z2,"row h"].map V.str))):=am.trans (Kept.of s7);have Z:∀y∈(["text a "++z1,"text b "++z2,"row h"]:oj Str),Wd 20 y:=λy U=>by
  simp only [uC,uD,uM] at U;rcases U with rfl|rfl|rfl
  ·exact ta.cat ak ()
  ·exact tb.cat al ()
  ·exact⟨(),()⟩
 show tSeq _ _ _ _ (upd H6 l (.lst (["text a "++z1,"text b "++z2,"row h"].map V.str)));generalize upd H6 l (.lst (["text a "++z1,"text b "++z2,"row h"].map V.str))=H7 at e7 P7 ad K7⊢;have aw:(["text a "++z1,"text b "++z2,"row h"]:oj Str).length=3:=rfl;generalize (["text a "++z1,"text b "++z2,"row h"]:oj Str)=th at e7 Z aw⊢;exists 0,.inl ⟨1,_,SqL.of e7⟩;refine⟨0,nb,1,(),(),λD hD=> ?_⟩
 have nD:D≠p:=(P7.free hD).symm;have nl:l≠p:=P7.ne_strs e7;refine Zp (lo:=0) (n:=nb) (tl:= [some (.ref p),some (.ref L),some (.int ((nb:Int)+4))]) (λi ys H'=>∃rs:oj Str,ys=rs.map V.str/\rs.length=i/\(∀r∈rs,Wd 20 r)/\PotQ H' p/\(∀b o,H7 b=some o->b≠p->H' b=some o)) (yJ ()) ⟨[],1,1,λb hb=>by simp at hb,P7.same (qf hD _),λb o e _=>qf hD _ _ _ e⟩ ?_ ?_
 ·rintro j ys H' hj ⟨rs,rfl,ao,ae,P',K'⟩ af U R hR;have ax:=K' _ _ ad (P7.ne_strs ad);refine⟨0,0,0,0,p,L,zs,nb+4,j,?_,P',ax,hN,(),(),(),λr H8 ay P8 K8=> ?_⟩
  ·rw [show(0:Int)+(j:Int)=(j:Int) by omega,show((nb+4:Nat):Int)=(nb:Int)+4 by omega]
   rfl
  ·refine hR _ H8 (K8 _ _ af nD) ⟨rs++ [r],by rw [uw];rfl,by rw [uA,ao];rfl,λb hb=> ?_,?_,λb o e np=> ?_⟩
   ·rcases A7.mp hb with h|h
    ·exact ae b h
    ·rw [Ug] at h;subst h;exact ay
   ·obtain⟨x,e2,h2⟩:=P8;exact⟨x,by rwa [qh nD.symm],h2⟩
   ·rw [qh (qk e hD)];exact K8 _ _ (K' b o e np) np
 ·rintro ys H' ⟨rs,rfl,ao,ae,P',K'⟩ af;have e8:=K' _ _ e7 nl;refine⟨l,D,_,0,1,e8,af,fits (by rw [ua,ua];omega),?_⟩
  have e9:(upd H' l (.lst (th.map V.str++rs.map V.str))) l=some (.lst ((th++rs).map V.str)):=by rw [qg,uw]
  have P9:PotQ (upd H' l (.lst (th.map V.str++rs.map V.str))) p:=by
   obtain⟨x,e2,h2⟩:=P';exact⟨x,by rwa [qh nl.symm],h2⟩
  have K9:Kept p H (upd H' l (.lst (th.map V.str++rs.map V.str))):=λb o e np=>by
   rw [qh (qk (am b o e np) hl)];exact K' b o (K7 b o e np) np
  generalize upd H' l (.lst (th.map V.str++rs.map V.str))=H9 at e9 P9 K9⊢;refine⟨0,0,p,(5),1,P9,(),(),λd9 aI g0 g1 aA ap=> ?_⟩
  obtain⟨c9,hc,aB⟩:=abc_at g0 g1;have aC:=ap _ _ e9 nl;refine⟨"abcdh",d9,c9,1,1,(),hc,_,0,1,(by show("say ":Str).length+1<=sizeLine;decide+kernel),(sml rfl),λq1 aD=> ?_⟩
  have aq:=qf aD (.lst [.str ("say "++⟨#[c9]⟩)]);have hw:Wd 20 ("say "++⟨#[c9]⟩:Str):=Wd.cat (n:=4) (m:=1) ⟨(),ui _⟩ aB ()
  refine⟨l,q1,_,0,1,aq _ _ aC,qg,fits (by rw [ua,uA];show _+1<=_;omega),λq2 aE=> ?_⟩
  have aF:=aq.trans (qf aE (.lst ((th++rs).map V.str++ [.str ("say "++⟨#[c9]⟩)])));refine⟨q2,0,.inl ⟨SqL.of qg,λt ht=> ?_⟩⟩;have ag:=aF.trans (qf ht (.tup ((th++rs).map V.str++ [.str ("say "++⟨#[c9]⟩)])));have all:∀y∈th++rs++ [("say "++⟨#[c9]⟩:Str)],Wd 20 y:=λy U=>by
   rcases A7.mp U with U|U
   ·rcases A7.mp U with U|U
    ·exact Z y U
    ·exact ae y U
   ·cases A6.mp U;exact hw
  have em:(th++rs).map V.str++ [.str ("say "++⟨#[c9]⟩)]=(th++rs++ [("say "++⟨#[c9]⟩:Str)]).map V.str:=by rw [uw (l₁:=th++rs)];rfl
  rw [em] at ag ht⊢;refine k _ _ _ (tr_row (l:=th++rs++ [("say "++⟨#[c9]⟩:Str)]) (by simp only [uA,vL];omega) all) (kH all ht) (aA.same ag) ((K9.trans ap).trans (Kept.of ag))
theorem tr_three {y:Str}(O:Wd 20 z)(U:Wd 20 y):TrOk (.tup [.tup [.str z,.tup []],.str y]):=by
 have h1:=O.2;have h2:=U.2;have Z:Qy z=true:=by unfold Qy;rw [ue (show z.length<=300 by omega)];exact O.1
 have g2:Qy y=true:=by unfold Qy;rw [ue (show y.length<=300 by omega)];exact U.1
 have e:sz (.tup [.tup [.str z,.tup []],.str y])<=300:=by simp only [sz,szL];omega
 refine⟨?_,by simp [lw,lwL,O.1,U.1],e⟩
 unfold isT;rw [ue (show sz (.tup [.tup [.str z,.tup []],.str y])<=600 by omega),ue (show dp (.tup [.tup [.str z,.tup []],.str y])<=12 by simp only [dp,dpL];omega)]
 simp [good,goodL,Z,g2]
inductive sp_srcd (vs:List V) (H:Hp) (Q:VK) (E_:XK):Prop
 |mk (p L:Addr) (zs:List Str) (_:vs= [.ref p,.ref L]) (_:PotQ H p) (_:H L=some (.lst (zs.map V.str))) (_:Nm4 zs) (_:∀(v:V) (d:D) (H':Hp),wX d->Is H' d v->PotQ H' p->Kept p H H'->Q v H')
theorem tr_src {k:Str}{d:D}(O:k="leaf"∨k="rule")(h:TrOk d):wX (.tup [.str k,d]):=src_leaf O h.1 h.2.1 h.2.2
theorem src_row {k:Str}{d:D}(O:k="leaf"∨k="rule")(h:TrOk d)(Z:Is H d v)(q:∀t H',Same H H'->Is H' (.tup [.str k,d]) (.ref t)->wX (.tup [.str k,d])->Q (.ref t) H'): [V.str k,v].length<=sizeLine/\∀t,H t=none->Q (.ref t) (upd H t (.tup [.str k,v])):=by
 refine⟨sml rfl,λt U=>q t _ (qf U _) (Is.new (ds:= [.str k,d]) ⟨_,0,⟨1,?_⟩,_,0,Z,1⟩ U) (tr_src O h)⟩;rcases O with rfl|rfl<;>decide+kernel
theorem ok_leaf (T:Tx K mg a):#[K,5,a.w8,a.w9,["pot","names"],sp_tre]:=by
 have qH:=#[j7,T];have QU:=#[ok_word,T];have zd:=#[ok_rule,T];exists 9,T.g_law_leaf,wc
 obtain⟨p,L,zs,rfl,hP,hL,hN,k⟩:=h;have aa:∀{z:Str},Wd 4 z->Wd 20 z:=λh=>⟨h.1,by have:=h.2;omega⟩
 exists _,%[#[qC,(2),wc.nd,#[qt,qH,hr.mono (),T.g_law_take,#v[pv 0,qi]]],#[qI,#[qr,op_lt,pv 2,qi,qy _],%[|#[qp,#[qt,QU,hr.mono (),T.g_law_word,#v[pv 0,pv 1]]]],qw],#[qI,#[qr,Qn,pv 2,qi,qy _],%[|#[qp,#[qW,qR,T.QD,vg,#v[#[ZJ,["k","pot","names"],[0,1],lcsN (qj JK) ["pot","names","kind"],#[y7,#v[#[qt,qH,hr.mono (),T.g_law_take,#v[pv 0,qi]]]],(λ_ _ _ _ _ _=>#[qX,(0),(show List.Nodup (["k","pot","names"]:oj Str) by decide+kernel)]),(λ_ _ _ _ _ _=>#[qt,QU,hr.mono (),T.g_law_word,#v[pv 1,pv 2]])]]]]],qw],#[qI,#[qr,Qn,pv 2,qi,qy _],%[|#[qp,#[qB,#v[#[qB,#v[#[qt,QU,hr.mono (),T.g_law_word,#v[pv 0,pv 1]],#[qB,qd]]],#[qt,QU,hr.mono (),T.g_law_word,#v[pv 0,pv 1]]]]]],qw],#[qI,#[qr,Qn,pv 2,qi,qy _],%[|#[qp,#[qt,zd,hr.mono (),T.g_law_rule,#v[pv 0,pv 1]]]],qw]|#[qp,#[qB,#v[#[qS,Qr,ql,#[qt,QU,hr.mono (),T.g_law_word,#v[pv 0,pv 1]]],ql,ql]]]]
 exists 7
 refine⟨0,p,(6),1,hP,(),(),λd1 H1 a0 a1 P1 K1=> ?_⟩
 have O:=K1 _ _ hL (hP.ne_strs hL);refine⟨0,_,0,1,0,ite2 (λ_=> ?_) (λ_=> ?_)⟩
 ·exact⟨0,0,p,L,zs,1,P1,O,hN,λz H2 hz U Z=>k _ _ H2 (tr_str (aa hz)) ⟨1,fits (by have:=hz.2;omega)⟩ U (K1.trans Z)⟩
 refine⟨0,1,0,ite2 (λ_=> ?_) (λ_=> ?_)⟩
 ·refine⟨0,p,(4),1,P1,(),(),λd2 H2 b0 b1 U Z=> ?_⟩
  have ac:=Z _ _ O (P1.ne_strs O);obtain⟨n,rfl,hn⟩:∃n:Nat,d2=(n:Int)/\n<4:=⟨d2.toNat,(),()⟩
  refine⟨n,1,(),(),λD hD=> ?_⟩
  have nD:D≠p:=(U.free hD).symm;refine Zp (lo:=0) (n:=n) (tl:= [some (.ref p),some (.ref L)]) (λi ys H'=>∃rs:oj Str,ys=rs.map V.str/\rs.length=i/\(∀r∈rs,Wd 20 r)/\PotQ H' p/\(∀b o,H2 b=some o->b≠p->H' b=some o)) (yJ ()) ⟨[],1,1,λb hb=>by simp at hb,U.same (qf hD _),λb o e _=>qf hD _ _ _ e⟩ ?_ ?_
  ·rintro j ys H' hj ⟨rs,rfl,af,ad,P',K'⟩ ae hy R hR;have ao:=K' _ _ ac (U.ne_strs ac);refine⟨0,0,p,L,zs,1,P',ao,hN,λr H8 ap P8 K8=> ?_⟩;refine hR _ H8 (K8 _ _ ae nD) ⟨rs++ [r],by rw [uw];rfl,by rw [uA,af];rfl,λb hb=> ?_,?_,λb o e np=> ?_⟩
   ·rcases A7.mp hb with h|h
    ·exact ad b h
    ·rw [Ug] at h;subst h;exact aa ap
   ·obtain⟨x,e2,h2⟩:=P8;exact⟨x,by rwa [qh nD.symm],h2⟩
   ·rw [qh (qk e hD)];exact K8 _ _ (K' b o e np) np
  ·rintro ys H' ⟨rs,rfl,af,ad,P',K'⟩ ae;refine⟨D,0,.inl ⟨SqL.of ae,λt ht=> ?_⟩⟩;have s3:=qf ht (.tup (rs.map V.str));exact k _ _ _ (tr_row () ad) (kH ad ht) (P'.same s3) (λb o e np=>s3 _ _ (K' b o ((K1.trans Z) b o e np) np))
 refine⟨0,1,0,ite2 (λ_=> ?_) (λ_=> ?_)⟩
 ·refine⟨0,0,p,L,zs,1,P1,O,hN,λz1 H2 ag U Z=>⟨v7 _,λt0 ah=>⟨sml rfl,λt1 ak=> ?_⟩⟩⟩;have ac:=Z _ _ O (P1.ne_strs O);have s0:=qf ah (.tup ([]:oj V));have s1:=s0.trans (qf ak (.tup [.str z1,.ref t0]));have i0:Is (upd H2 t0 (.tup [])) (.tup []) (.ref t0):=Is.new (ds:= []) rfl ah;have i1:Is (upd (upd H2 t0 (.tup [])) t1 (.tup [.str z1,.ref t0])) (.tup [.str z1,.tup []]) (.ref t1):=Is.new (ds:= [.str z1,.tup []]) ⟨_,0,⟨1,fits (by have:=ag.2;omega)⟩,_,0,i0,1⟩ ak
  generalize upd (upd H2 t0 (.tup [])) t1 (.tup [.str z1,.ref t0])=H3 at s1 i1⊢;have P3:=U.same s1;refine⟨0,0,p,L,zs,1,P3,s1 _ _ ac,hN,λz2 H4 al P4 K4=>⟨sml rfl,λt2 am=> ?_⟩⟩;have s2:=qf am (.tup [.ref t1,.str z2]);refine k _ _ _ (tr_three (aa ag) (aa al)) (Is.new (ds:= [.tup [.str z1,.tup []],.str z2]) ⟨_,0,i1.mono (P3.tk P4 K4),_,0,⟨1,fits (by have:=al.2;omega)⟩,1⟩ am) (P4.same s2) ((((K1.trans Z).trans (Kept.of s1)).trans K4).trans (Kept.of s2))
 refine⟨0,1,0,ite2 (λ_=> ?_) (λ_=> ?_)⟩
 ·exact⟨0,0,p,L,zs,1,P1,O,hN,λv d H2 hd hv U Z=>k v d H2 hd hv U (K1.trans Z)⟩
 ·have ta:Wd 7 "text a ":=⟨(),ui _⟩
  refine⟨0,0,p,L,zs,1,P1,O,hN,λz H2 hz U Z=>⟨_,0,1,fits (by have:=hz.2;have:=ta.2;omega),sml rfl,λt ht=> ?_⟩⟩
  have all:∀y∈(["text a "++z,"ask b a","say b"]:oj Str),Wd 20 y:=λy hy=>by
   simp only [uC,uD,uM] at hy;rcases hy with rfl|rfl|rfl
   ·exact ta.cat hz ()
   ·exact⟨(),()⟩
   ·exact⟨(),()⟩
  have s2:=qf ht (.tup ((["text a "++z,"ask b a","say b"]:oj Str).map V.str));exact k _ _ _ (tr_row (by show 3<=14;decide) all) (kH all ht) (U.same s2) ((K1.trans Z).trans (Kept.of s2))
theorem ok_srcd (T:Tx K mg a):#[K,6,a.zK,a.zW,["pot","names"],sp_srcd]:=by
 have qH:=#[j7,T];have Ws:=#[ok_leaf,T];have zd:=#[ok_rule,T];have O:=#[ok_maker,T];exists 9,T.g_law_source,XL
 obtain⟨p,L,zs,rfl,hP,hL,hN,k⟩:=h;have ad:=hN.1;have ae:=hN.2.1;exists _,%[#[qC,(2),XL.nd,#[qt,qH,hr.mono (),T.g_law_take,#v[pv 0,qi]]],#[qI,#[qr,op_lt,pv 2,qi,qy _],%[|#[qp,#[qB,#v[ql,#[qt,Ws,hr.mono (),T.g_law_leaf,#v[pv 0,pv 1]]]]]],qw],#[qI,#[qr,op_lt,pv 2,qi,qy _],%[|#[qp,#[qB,#v[ql,#[qt,zd,hr.mono (),T.g_law_rule,#v[pv 0,pv 1]]]]]],qw],#[qI,#[qr,Qn,pv 2,qi,qy _],%[|#[qp,#[qB,#v[ql,#[qt,O,hr.mono (),T.g_law_maker,#v[pv 0,pv 1]]]]]],qw],@qI _ _ _ _ _ _ _ _ #[pw_and,7,#[qr,Qn,pv 2,qi,qy _],#[pw_and1,4,#[qr,Qn,#[qt,qH,hr.mono (),T.g_law_take,#v[pv 0,qi]],qi,qy _]]].pt %[|#[qp,#[qB,#v[ql,#[qt,Ws,hr.mono (),T.g_law_leaf,#v[pv 0,pv 1]]]]]] qw|#[qp,#[qB,#v[ql,#[qN,Q4,pv 1,#[qt,qH,hr.mono (),T.g_law_take,#v[pv 0,#[qz,qQ,T.Yd,uJ,#v[pv 1]]]]]]]]]
 exists 7
 refine⟨0,p,(10),1,hP,(),(),λd1 H1 a0 a1 P1 K1=> ?_⟩
 have Z:=K1 _ _ hL (hP.ne_strs hL);have fin:∀{H3 H2:Hp}{kk:Str}{d:D}{v:V},PotQ H3 p->Kept p H H3->kk="leaf"∨kk="rule"->TrOk d->Is H2 d v->PotQ H2 p->Kept p H3 H2-> [V.str kk,v].length<=sizeLine/\∀t,H2 t=none->Q (.ref t) (upd H2 t (.tup [.str kk,v])):=λ{H3 H2 kk d v} P3 K3 hk hd U P2 K2=>
  src_row hk hd U λt H4 s4 i4 o4=>k _ _ H4 o4 i4 (P2.same s4) ((K3.trans K2).trans (Kept.of s4))
 refine⟨0,_,0,1,0,ite2 (λ_=> ?_) (λ_=> ?_)⟩
 ·exact⟨0,0,p,L,zs,1,P1,Z,hN,λv d H2 hd U P2 K2=>fin P1 K1 (.inl rfl) hd U P2 K2⟩
 refine⟨0,_,0,1,0,ite2 (λ_=> ?_) (λ_=> ?_)⟩
 ·exact⟨0,0,p,L,zs,1,P1,Z,hN,λv d H2 hd U P2 K2=>fin P1 K1 (.inr rfl) hd U P2 K2⟩
 refine⟨0,1,0,ite2 (λ_=> ?_) (λ_=> ?_)⟩
 ·exact⟨0,0,p,L,zs,1,P1,Z,hN,λv d H2 hd U P2 K2=>fin P1 K1 (.inr rfl) hd U P2 K2⟩
 show tSeq _ _ _ _ H1;refine qG λN0 n0=>n0 _ _ ?_;exists 8,BB,bb;have made:∀{H3:Hp},PotQ H3 p->Kept p H H3->BB [some (V.ref p),some (V.ref L),some (V.int d1)] H3:=by
  intro H3 P3 K3;refine bb _ _ ?_;have aa:=K3 _ _ hL (hP.ne_strs hL);refine⟨0,0,0,L,0,.inl (SqL.of aa),p,0,P3,by rw [ua];omega,by rw [ua];omega,λd2 H4 b0 b1 P4 K4=> ?_⟩
  obtain⟨v,U⟩:=Yk (xs:=zs.map V.str) b0 b1;obtain⟨z,hz,rfl⟩:=A8.mp (jl U);refine⟨L,_,_,0,1,SqL.of (K4 _ _ aa (P3.ne_strs aa)),U,sml rfl,λt ht=> ?_⟩;have s4:=qf ht (.tup [.str "made",.str z]);have ac:=hN.2.2 z hz;exact k _ _ _ (src_made ac.1) (Is.new (ds:= [.str "made",.str z]) ⟨_,0,⟨1,()⟩,_,0,⟨1,fits ()⟩,1⟩ ht) (P4.same s4) ((K3.trans K4).trans (Kept.of s4))
 refine⟨0,1,0,ite2 (λ_=> ?_) (λ_=> ?_)⟩
 ·refine⟨0,p,(4),1,P1,(),(),λd2 H2 b0 b1 P2 K2=>⟨1,0,ite2 (λ_=> ?_) (λ_=> ?_)⟩⟩
  ·exact⟨0,0,p,L,zs,1,P2,K2 _ _ Z (P1.ne_strs Z),hN,λv d H3 hd U P3 K3=>fin P2 (K1.trans K2) (.inr rfl) hd U P3 K3⟩
  ·exact made P2 (K1.trans K2)
 ·exact iteF (made P1 K1)
theorem SqL.keepK {K:o0}{a:o3}(e:∀o,H a=some o->H' a=some o)(h:SqL K H a xs):SqL K H' a xs:=by
 rcases h with(h|⟨o,h⟩)|h
 ·exact .inl (.inl (e _ h))
 ·exact .inl (.inr ⟨o,e _ h⟩)
 ·exact .inr h
noncomputable def N8:oj Str:= ["a","b1","c/d","e.f","g","h9","k","m/n"]
theorem n8_ok:∀z∈N8,nm z=true/\z.length<=4:=by decide+kernel
theorem n8_nd:N8.Nodup:=by decide+kernel
theorem n8_take (h1:1<=n)(h2:n<=8):Nm4 (N8.take n)/\(N8.take n).length=n:=by
 have e:(N8.take n).length=n:=by rw [vP];show min n 8=n;omega
 exact⟨⟨(),(),λz O=>n8_ok z (List.mem_of_mem_take O)⟩,e⟩
theorem cut_take {vs:oj V}:cutV vs none (some (n:Int))=vs.take n:=by
 unfold cutV;rw [HT.sIx_none,HT.sIx_nat,UR,Nat.sub_zero];rcases Nat.le_total n vs.length with h|h
 ·rw [Nat.min_eq_left h]
 ·rw [Nat.min_eq_right h,uR (ui _),uR h]
theorem ints_of {ns:oj Int}:∀{ys:oj V},(∀y∈ys,y∈ns.map V.int)->∃ms:oj Int,ys=ms.map V.int
 | [],_=>⟨[],1⟩
 |y::r,h=>by
  obtain⟨i,_,e⟩:=A8.mp (h y uf);obtain⟨ms,O⟩:=ints_of (ys:=r) λz U=>h z (uc _ U);exact⟨i::ms,by rw [O,<-e];rfl⟩
inductive sp_lprs (K:PySem.W.Frag) (vs:List V) (H:Hp) (Q:VK) (E_:XK):Prop
 |mk (q:Addr) (ns:List Int) (_:vs= [.ref q]) (_:SqL K H q (ns.map V.int)) (_:∀(L:Addr) (ps:List (Str×D)) (us:List V) (H':Hp),H L=none->Same H H'->H' L=some (.lst us)->L2.IsL H' (ps.map prD) us->PrOk ps->ps.length<=8->Q (.ref L) H')
theorem sq_sm {K:o0}(h:SqL K H q xs)(s:Same H H'):SqL K H' q xs:=SqL.keepK (λo e=>s _ _ e) h
theorem ok_lsrcs (T:Tx K mg a):#[K,7,a.xZ,a.Xy,["script"],(sp_lprs K)]:=by
 have jh:=#[ok_cell,T];have ZA:=#[ok_potQ,T];have jS:=#[ok_srcd,T];exists 9,T.g_law_sources,yd
 obtain⟨q,ns,rfl,hq,k⟩:=h;have hs:=uE;exists _,%[#[qC,(1),yd.nd,#[Qk,sl_list,#[QW,#v[ql,ql,ql,ql,ql,ql,ql,ql]],QV,#[Qo,#[qS,QL,qi,#[qS,Zb,#[qt,jh,hr.mono (),T.g_law_cell_at,#v[pv 0,qi]],qi]]]]],#[qC,(2),yd.nd,#[QW,qd]],#[jL,#[y7,#v[#[qz,qQ,T.Yd,uJ,#v[pv 1]]]],#[qX,(3),yd.nd],%[#[qC,(4),yd.nd,#[qz,#[call_sumL,1,rfl],T.z_sum,boot_sum,#v[#[pe_stepL,10,(),pv 0,#[Qo,#[qS,QL,qi,pv 3]],_]]]]|#[qI,#[qr,op_ne,#[qS,Zb,pv 4,qi],qi,qy _],%[|#[qY,#[jx,uV,vy,vz,Yv,pv 2,#v[#[qB,#v[#[qN,Q4,pv 1,pv 3],#[qt,jS,hr.mono (),T.g_law_source,#v[#[qt,ZA,hr.mono (),T.g_law_pot,#v[pv 4,pv 3]],pv 1]]]]]]]],qw]]]|#[qp,pv 2]]
 exists 7
 refine⟨sml rfl,λl0 aq=> ?_⟩;have s0:=qf aq (.lst (N8.map V.str));have e0:(upd H l0 (.lst (N8.map V.str))) l0=some (.lst (N8.map V.str)):=qg;show YW _ (upd H l0 (.lst (N8.map V.str))) _;generalize upd H l0 (.lst (N8.map V.str))=H0 at s0 e0⊢;refine⟨0,q,ns,(0),1,(),(sq_sm hq s0),λc=>⟨_,0,1,(by show(0:Int)<8;decide),_,0,1,?_⟩⟩
 have m1:0<=c%8/\c%8<8:=⟨UK _ (),Uh _ ()⟩
 obtain⟨n,hn,au,aw⟩:∃n:Nat,1+c%8=(n:Int)/\1<=n/\n<=8:=⟨(1+c%8).toNat,(),(),()⟩
 obtain⟨hN,ax⟩:=n8_take au aw;dsimp only;rw [hn];refine⟨0,l0,0,SqL.of e0,λl hl=> ?_⟩;rw [cut_take,<-List.map_take];have ah:(N8.take n).Nodup:=List.Nodup.sublist (List.take_sublist _ _) n8_nd;generalize N8.take n=zs at hN ax ah⊢;have s1:=s0.trans (qf hl (.lst (zs.map V.str)));have e1:(upd H0 l (.lst (zs.map V.str))) l=some (.lst (zs.map V.str)):=qg;generalize upd H0 l (.lst (zs.map V.str))=H1 at s1 e1⊢;refine⟨v7 _,λL hL=> ?_⟩;have s2:=s1.trans (qf hL (.lst ([]:oj V)));have ak:H L=none:=s1.free hL;have ay:l≠L:=qk e1 hL;have e2:=qf hL (.lst ([]:oj V)) _ _ e1;have eL:(upd H1 L (.lst [])) L=some (.lst []):=qg;generalize upd H1 L (.lst [])=H2 at s2 e2 eL⊢;exists 0,l,0,.inl (SqL.of e2),zs.length,by rw [ua],(),()
 refine jV (n:=zs.length) (λi σ H'=>∃(ps:oj (Str×D)) (us:oj V) (x3 x4:om V),σ= [some (.ref q),some (.ref l),some (.ref L),x3,x4]/\Same H H'/\H' l=some (.lst (zs.map V.str))/\H' L=some (.lst us)/\L2.IsL H' (ps.map prD) us/\(ps.map (·.1)).Sublist (zs.take i)/\∀p∈ps,wX p.2) ⟨[],[],none,none,1,s2,e2,eL,1,List.nil_sublist _,λp hp=>by simp at hp⟩ ?_ ?_
 ·rintro i σ H' hi ⟨ps,us,x3,x4,rfl,sm,el,af,ac,O,U⟩;have aG:ps.length<=8:=by
   have h1:=O.length_le;rw [ua,vP] at h1;omega
  have aA:=ac.length;rw [ua] at aA;refine⟨0,0,_,0,1,0,q,0,(sq_sm hq sm),λys y0 _ al aB=> ?_⟩;obtain⟨ms,rfl⟩:=ints_of al;have sy:=qf aB (.lst (ms.map V.int));have ey:(upd H' y0 (.lst (ms.map V.int))) y0=some (.lst (ms.map V.int)):=qg;have Z:=sy _ _ af;have aa:=sy _ _ el;generalize upd H' y0 (.lst (ms.map V.int))=H3 at sy ey Z aa⊢;have ae:=ac.mono sy.tk;have am:=sm.trans sy;exists y0,ms,1,SqL.of ey;refine⟨0,_,0,1,(by show(0:Int)<11;decide),1,0,ite2 (λ_=> ?_) (λ_=> ?_)⟩
  ·have ag:i<zs.length:=hi;refine⟨0,.inl ⟨1,_,SqL.of Z⟩,0,0,l,_,_,V.str zs[i],1,1,SqL.of aa,?_,?_⟩
   ·rw [show(0:Int)+(i:Int)=((i:Nat):Int) by omega]
    exact QF (by rw [uH,uj ag];rfl)
   refine⟨0,0,_,0,(),(),λp H4 hp s4 P4=> ?_⟩
   have aC:=s4 _ _ aa;have aH:=s4 _ _ Z;have aI:L≠p:=qk Z hp;refine⟨0,p,l,zs,1,P4,aC,hN,λv d H5 hd hv P5 K5=>⟨sml rfl,λt ht=> ?_⟩⟩;have aD:Same H3 H5:=K5.same s4 hp;have st:=qf ht (.tup [.str zs[i],v]);have hz:=hN.2.2 _ (vd ag);have ao:Is (upd H5 t (.tup [.str zs[i],v])) (prD (zs[i],d)) (.ref t):=Is.new (ds:= [.str zs[i],d]) ⟨_,0,⟨1,fits ()⟩,_,0,hv,1⟩ ht
   generalize upd H5 t (.tup [.str zs[i],v])=H6 at st ao⊢;have ad:=aD.trans st;have ap:=ad _ _ Z;exists L,us,0,1,ap,()
   have tk:Tk H6 (upd H6 L (.lst (us++ [.ref t]))):=Tk.updL ap;refine⟨ps++ [(zs[i],d)],us++ [.ref t],_,0,λb o e=> ?_,?_,qg,?_,?_,λp' aE=> ?_⟩
   ·rw [qh (qk e ak)];exact ad _ _ (am _ _ e)
   ·rw [qh ay];exact ad _ _ aa
   ·rw [uw];exact((ae.mono ad.tk).mono tk).append (L2.IsL.one (ao.mono tk))
   ·rw [take1 ag,uw];exact O.append (List.Sublist.refl _)
   ·rcases A7.mp aE with h|h
    ·exact U p' h
    ·cases A6.mp h;exact hd
  ·exact⟨ps,us,_,0,am,aa,Z,ae,O.trans (by rw [take1 hi];exact List.sublist_append_left _ _),U⟩
 ·rintro σ H' ⟨ps,us,x3,x4,rfl,sm,el,af,ac,O,U⟩;rw [UV] at O;have aF:=O.length_le;rw [ua] at aF;exact⟨0,k L ps us H' ak sm af ac ⟨⟨λz hz=>(hN.2.2 z (O.mem hz)).1,ah.sublist O⟩,U⟩ ()⟩
inductive sp_badl (vs:List V) (H:Hp) (Q:VK) (E_:XK):Prop
 |mk (v:V) (d:D) (_:vs= [v]) (_:Is H d v) (_:∀(u:V) (H':Hp),Same H H'->((yc d).isSome=true->u= .non)->((yc d).isSome=false->u≠ .non)->Q u H')
inductive sp_isrule (vs:List V) (H:Hp) (Q:VK) (E_:XK):Prop
 |mk (v:V) (d:D) (_:vs= [v]) (_:Is H d v) (_:∀H',Same H H'->Q (.bl (yc d).isSome) H')
theorem ok_badl (T:Tx K mg a)(C:Fx K w mg g a):#[K,4,a.Wg,a.WJ,["tree"],sp_badl]:=by
 have Z:=#[ok_read,T,C];exists 9,T.g_bad_line,sc_bad_line
 obtain⟨v,d,rfl,hv,k⟩:=h;exists _,%[|#[qp,#[qN,qM,#[qt,Z,hr.mono (),T.g_read_lines,#v[pv 0]],qi]]]
 exists 7
 refine⟨0,v,d,1,hv,λu H' x y s' U hu=> ?_⟩;obtain⟨p,ws,rfl,hp,w1,r1,rfl,h1,w2,r2,rfl,h2,h3⟩:=hu;cases(show r2= [] from h3)
 refine⟨p,_,_,0,1,SqT.of hp,1,k _ H' s' (λe=> ?_) (λe=> ?_)⟩
 ·obtain⟨rs,O⟩:=XI e;obtain⟨_,rfl⟩:=U.1 rs O;exact h2
 ·have hn:yc d=none:=by
   cases hh:yc d with
   |none=>rfl
   |some rs=>rw [hh] at e;cases e
  obtain⟨i,rfl⟩:=U.2 hn;intro z;rw [z] at h2;cases(show V.non= .int i from h2)
theorem ok_isrule (T:Tx K mg a)(C:Fx K w mg g a):#[K,5,a.f_is_rule,a.d_is_rule,["value"],sp_isrule]:=by
 have O:=#[ok_badl,T,C];exists 9,T.g_is_rule,sc_is_rule,U
 obtain⟨v,d,rfl,Z,k⟩:=h;exists _,%[|#[qp,#[QZ,yX,#[qt,O,U.mono (),T.g_bad_line,#v[pv 0]],qU,qy _]]]
 exists 7
 refine⟨0,v,d,1,Z,λu H' s' h1 h2=>⟨1,?_⟩⟩;have e:decide (u=V.non)=(yc d).isSome:=by
  cases c:(yc d).isSome with
  |true=>rw [h1 c];rfl
  |false=>exact ug (h2 c)
 have:=k H' s';rwa [<-e] at this
end
theorem rows_of {n:Nat}:∀{ds:oj D},(∀d∈ds,(Qi n d).isSome=true)->(ds.filterMap (Qi n)).length=ds.length/\ds=(ds.filterMap (Qi n)).map (λr=>D.str (y8 r))/\∀r∈ds.filterMap (Qi n),jO n 300 r
 | [],_=>⟨1,1,λr h=>nomatch h⟩
 |d::ds,h=>by
  obtain⟨r,O⟩:=XI (h d uf);obtain⟨h1,h2,h3⟩:=rows_of (n:=n) (ds:=ds) λx U=>h x (uc _ U);have hd:d= .str (y8 r)/\jO n 300 r:=by
   cases d with
   |str z=>
    obtain⟨Z,a2⟩:=rowOf_ok (show ZZ n z=some r from O)
    exact⟨by rw [a2],Z⟩
   |non=>cases O
   |bl b=>cases O
   |int i=>cases O
   |lst=>cases O
   |dct=>cases O
   |tup xs=>cases O
  rw [U3 O];refine⟨by rw [um,um,h1],by rw [uh,<-h2,hd.1],λx U=> ?_⟩
  rcases A5.mp U with rfl|U
  ·exact hd.2
  ·exact h3 x U
variable {rs:oj Rw}
theorem read_rule {d:D}(h:yc d=some rs):d=xy rs/\ye rs:=by
 cases d with
 |tup ds=>
  rw [Xc] at h;split at h
  ·rename_i O
   simp only [uz,v9] at O;obtain⟨⟨⟨c1,c2⟩,U⟩,Z⟩:=O;cases h;obtain⟨h1,h2,h3⟩:=rows_of (List.all_eq_true.mp U);have e:D.tup ds=xy (ds.filterMap (Qi ds.length)):=by
    unfold xy;rw [<-h2]
   refine⟨e,⟨(),(),?_,by rwa [<-e]⟩⟩
   rwa [h1]
  ·cases h
 |non=>cases h
 |bl b=>cases h
 |int i=>cases h
 |str z=>cases h
 |lst=>cases h
 |dct=>cases h
noncomputable def GMT:oj Str:= ["begin","look","wanted","take","full"]
structure GFl (fs:oj (Str×V))(nv ov mv av rv ev:V):Prop where
 zH:fs.lookup ("name":Str)=some nv
 wJ:fs.lookup ("order":Str)=some ov
 YE:fs.lookup ("made_by":Str)=some mv
 yN:fs.lookup ("rule_asks":Str)=some av
 Qq:fs.lookup ("rule_run":Str)=some rv
 f_end:fs.lookup ("end":Str)=some ev
 meth:∀m∈GMT,fs.lookup m=none
 len:fs.length<=20
section
variable {fs:oj (Str×V)}{nv ov mv av rv ev:V}
variable {u:V}
theorem GFl.set_made_by (h:GFl fs nv ov mv av rv ev):GFl (putF "made_by" u fs) nv ov u av rv ev:=by
 refine⟨?_,?_,?_,?_,?_,?_,λm hm=> ?_,by rw [YT h.YE];exact h.len⟩
 all_goals rw [qF]
 all_goals first|rw [A3 rfl]|(rw [A2 ()];first|exact h.zH|exact h.wJ|exact h.YE|exact h.yN|exact h.Qq|exact h.f_end)|(rw [A2 (λe=>by subst e;revert hm;decide+kernel)];exact h.meth m hm)
theorem GFl.set_rule_asks (h:GFl fs nv ov mv av rv ev):GFl (putF "rule_asks" u fs) nv ov mv u rv ev:=by
 refine⟨?_,?_,?_,?_,?_,?_,λm hm=> ?_,by rw [YT h.yN];exact h.len⟩
 all_goals rw [qF]
 all_goals first|rw [A3 rfl]|(rw [A2 ()];first|exact h.zH|exact h.wJ|exact h.YE|exact h.yN|exact h.Qq|exact h.f_end)|(rw [A2 (λe=>by subst e;revert hm;decide+kernel)];exact h.meth m hm)
theorem GFl.set_rule_run (h:GFl fs nv ov mv av rv ev):GFl (putF "rule_run" u fs) nv ov mv av u ev:=by
 refine⟨?_,?_,?_,?_,?_,?_,λm hm=> ?_,by rw [YT h.Qq];exact h.len⟩
 all_goals rw [qF]
 all_goals first|rw [A3 rfl]|(rw [A2 ()];first|exact h.zH|exact h.wJ|exact h.YE|exact h.yN|exact h.Qq|exact h.f_end)|(rw [A2 (λe=>by subst e;revert hm;decide+kernel)];exact h.meth m hm)
theorem GFl.set_end (h:GFl fs nv ov mv av rv ev):GFl (putF "end" u fs) nv ov mv av rv u:=by
 refine⟨?_,?_,?_,?_,?_,?_,λm hm=> ?_,by rw [YT h.f_end];exact h.len⟩
 all_goals rw [qF]
 all_goals first|rw [A3 rfl]|(rw [A2 ()];first|exact h.zH|exact h.wJ|exact h.YE|exact h.yN|exact h.Qq|exact h.f_end)|(rw [A2 (λe=>by subst e;revert hm;decide+kernel)];exact h.meth m hm)
end
structure Gc where
 (x o:o3)
 n:Str
structure Gs where
 mb:D
 ra:oj D
 run:om (Mc×Rn)
 en:D
noncomputable def wV (CM:o3)(H:Hp)(x:o3)(rv:V):om (Mc×Rn)->Prop
 |none=>rv= .non
 |some (m,r)=>rv= .ref m.x/\m.x≠x/\y9 CM H m r
noncomputable def GoAt (C CM:o3)(H:Hp)(g:Gc)(s:Gs):Prop:=
 ∃(dx:o3) (fs:oj (Str×V)) (mv av rv ev:V),H g.x=some (.ins C dx fs)/\GFl fs (.str g.n) (.ref g.o) mv av rv ev/\Is H s.mb mv/\Is H (.tup s.ra) av/\wV CM H g.x rv s.run/\Is H s.en ev
variable {CM:o3}
theorem wV.same {x:o3}{o:om (Mc×Rn)}(h:wV CM H x rv o)(s:Same H H'):wV CM H' x rv o:=by
 cases o with
 |none=>exact h
 |some p=>exact⟨h.1,h.2.1,h.2.2.same s⟩
theorem GoAt.same {g:Gc}{s:Gs}(h:GoAt C CM H g s)(sm:Same H H'):GoAt C CM H' g s:=by
 obtain⟨dx,fs,mv,av,rv,ev,e,f,i,j,k,l⟩:=h;exact⟨dx,fs,mv,av,rv,ev,sm _ _ e,f,i.mono sm.tk,j.mono sm.tk,k.same sm,l.mono sm.tk⟩
theorem y9.put {m:Mc}{r:Rn}{x:o3}{fs:oj (Str×V)}(h:y9 CM H m r)(e:H x=some (.ins C dx fs))(n:m.x≠x):y9 CM (upd H x (.ins C dx fs')) m r:=by
 obtain⟨U,Z,rv,ru,tv,gv,e1,f,i,j,b,O,gl,t⟩:=h;have tk:Tk H (upd H x (.ins C dx fs')):=Tk.updI e;have n1:m.db≠x:=Ym.ne e b;have n2:m.dg≠x:=λz=>by rw [z,e] at O;cases O
 exact⟨U,Z,rv,ru,tv,gv,by rwa [qh n],f,i.mono tk,j.mono tk,b.move tk (qh n1),by rwa [qh n2],gl.mono tk,t.mono tk⟩
theorem wV.put {x:o3}{fs:oj (Str×V)}{o:om (Mc×Rn)}(h:wV CM H x rv o)(e:H x=some (.ins C dx fs)):wV CM (upd H x (.ins C dx fs')) x rv o:=by
 cases o with
 |none=>exact h
 |some p=>exact⟨h.1,h.2.1,h.2.2.put e h.2.1⟩
structure Gv (g:Gc)(H H':Hp):Prop where
 kept:∀b o,H b=some o->b≠g.x->H' b=some o
 tk:Tk H H'
theorem Wk {g:Gc}{fs:oj (Str×V)}{mv av ev:V}{s:Gs}(e:H g.x=some (.ins C dx fs))(f:GFl fs' (.str g.n) (.ref g.o) mv av rv ev)(i:Is H s.mb mv)(j:Is H (.tup s.ra) av)(k:wV CM H g.x rv s.run)(l:Is H s.en ev):
  GoAt C CM (upd H g.x (.ins C dx fs')) g s/\Gv g H (upd H g.x (.ins C dx fs')):=by
 have tk:Tk H (upd H g.x (.ins C dx fs')):=Tk.updI e;exact⟨⟨dx,fs',mv,av,rv,ev,qg,f,i.mono tk,j.mono tk,k.put e,l.mono tk⟩,⟨λb o h n=>by rwa [qh n],tk⟩⟩
noncomputable def lookS (s:Gs)(r:Rn):Gs:=if QR r.th=true then s else{s with en:=r.th}
inductive sp_look (C CM:Addr) (vs:List V) (H:Hp) (Q:VK) (E_:XK):Prop
 |mk (g:Gc) (s:Gs) (m:Mc) (r:Rn) (_:vs= [.ref g.x]) (_:GoAt C CM H g s) (_:s.run=some (m,r)) (_:Th r.th) (_:∀H',Gv g H H'->GoAt C CM H' g (lookS s r)->Q .non H')
section
variable {P:o9}{w:og}{K:o0}{mg:Str->om o6}{base:o8}{a:Ad}{g:Ga}
theorem ok_look (T:Tx K mg a):#[K,2,a.zN,a.zC,["self"],(sp_look a.qJ a.qo)]:=by
 have Ql:=#[ok_wait,T];have jv:=#[ok_now,T];exists 9,T.g_Going_look,W4
 obtain⟨g,st,m,r,rfl,hG,O,aa,k⟩:=h;exists _,%[|#[qI,#[Qx,#[Qj,#[yh,#[qL,5,pv 0,rfl],T.qu,T.g_Machine_is_waiting,Ql]]],%[|#[Qc,#[yh,#[qL,5,pv 0,rfl],T.qu,T.g_Machine_now,jv]]],qw]]
 exists 7
 obtain⟨dx,fs,mv,av,rv,ev,e,f,i,j,hR,l⟩:=id hG;rw [O] at hR;obtain⟨rfl,hn,Z⟩:=hR;obtain⟨dm,fm,ac,ru,tv,gv,em,U,i1,i2,i3,i4,i5,i6⟩:=id Z;exists 0,g.x,_,dx,fs,0,e,T.qO,T.qV,f.Qq,m.x,dm,fm,1,em,U.meth _ (),m,r,1,Z,aa,0
 cases c:QR r.th with
 |true=>
  refine iteF (k H ⟨λ_ _ h _=>h,Tk.refl H⟩ ?_);unfold lookS;rwa [A3 c]
 |false=>
  refine iteT ?_;refine⟨0,g.x,_,dx,fs,0,e,T.qO,T.qV,f.Qq,m.x,dm,fm,1,em,U.meth _ (),m,r,1,Z,λv hv=> ?_⟩
  refine⟨0,g.x,_,dx,fs,1,e,T.qO,T.Q2,by have:=f.len;omega,?_⟩
  have hS:lookS st r={st with en:=r.th}:=by
   unfold lookS;rw [c];exact A2 ub
  obtain⟨m1,m2⟩:=Wk (CM:=a.qo) (s:={st with en:=r.th}) e (f.set_end (u:=v)) i j (by rw [O];exact⟨1,hn,Z⟩) hv
  refine k _ m2 ?_;rw [hS];exact m1
inductive sp_runner (CM:Addr) (vs:List V) (H:Hp) (Q:VK) (E_:XK):Prop
 |mk (o:Addr) (v:V) (rs:List Rw) (own:Str) (_:vs= [.ref o,v,.str own]) (_:Is H (xy rs) v) (_:ye rs) (_:nm own=true) (_:∀(mc:Mc) (H':Hp),Same H H'->H mc.x=none->H mc.db=none->H mc.dg=none->mc.rs=rs->mc.own=own->y9 CM H' mc (runS rs own [] 300 B0 1 0)->Q (.ref mc.x) H')
theorem ok_runner (T:Tx K mg a)(C:Fx K w mg g a):#[K,8,a.Yt,a.YC,["self","rule","own"],(sp_runner a.qo)]:=by
 have wY:=#[ok_minit,T,C];exists 9,T.g_PlainOrder_runner,JQ
 obtain⟨o,v,rs,own,rfl,hv,hR,hn,k⟩:=h;have hl:=wS hn;have hI:∀H:Hp,Is H (.str own) (.str own):=λH=>YG ()
 exists _,%[|#[qp,#[Z9,T.M_Machine,wY,hr.mono (),T.m_Machine,T.g_Machine_init,passF,#v[pv 1,pv 2]]]]
 exists 7
 refine⟨0,0,λx dx Z aa nx=> ?_⟩;have U:Same H (upd (upd H dx (.own x)) x (.ins a.qo dx [])):=λb o h=>by rwa [qh (qk h Z),qh (qk h aa)]
 refine⟨x,dx,v,.str own,xy rs,.str own,1,qg,hv.mono U.tk,hI _,λz=> ?_,λ_ z=> ?_,λO af e1 ac e2 ag ah H' db dg kept ad ae hM=>⟨1,?_⟩⟩
 ·rw [hR.read] at z;cases z
 ·have:isNm (.str own)=true:=hn;rw [this] at z;cases z
 ·have e3:O=rs:=by
   have h1:=hR.read;rw [e1,ac.read] at h1;exact uI h1
  cases e2;subst e3;exact k ⟨x,db,dg,O,own⟩ H' (λb o h=>kept b o (U b o h) (qk h Z)) Z (U.free ad) (U.free ae) rfl rfl hM
noncomputable def R0 (rs:oj Rw)(n:Str):Rn:=runS rs n [] 300 B0 1 0
structure BegOk (H:Hp)(g:Gc)(d:D)(s s':Gs):Prop where
 mb:s'.mb=s.mb
 ra:s'.ra=s.ra
 lack:d= .non->s'.run=none/\s'.en=flt "lack"
 rule:d≠ .non->yc d=none->s'.run=none/\s'.en=flt "rule"
 go:∀rs,yc d=some rs->∃mc:Mc,H mc.x=none/\H mc.db=none/\H mc.dg=none/\mc.rs=rs/\mc.own=g.n/\s'.run=some (mc,R0 rs g.n)/\s'.en=if QR (R0 rs g.n).th=true then s.en else(R0 rs g.n).th
inductive sp_begin (C CM CO:Addr) (vs:List V) (H:Hp) (Q:VK) (E_:XK):Prop
 |mk (g:Gc) (s:Gs) (v:V) (d:D) (_:vs= [.ref g.x,v]) (_:GoAt C CM H g s) (_:s.run=none) (_:nm g.n=true) (_:Is H d v) (_:(∃dx fs,H g.o=some (.ins CO dx fs)/\fs.lookup ("runner":Str)=none)) (_:∀H' s',Gv g H H'->GoAt C CM H' g s'->BegOk H g d s s'->Q .non H')
theorem R0_ok {n:Str}(h:ye rs):RnOk rs (R0 rs n):=runS_ok h 300 B0 1 0 [] rfl B0_tr () (by have:=h.n0;omega) ⟨1,by simp [dpL],ui _⟩
theorem R0_th {n:Str}(h:ye rs):Th (R0 rs n).th:= .inr (R0_ok h).two
theorem ok_begin (T:Tx K mg a)(C:Fx K w mg g a):#[K,9,a.Xu,a.XG,["self","rule"],(sp_begin a.qJ a.qo a.qm)]:=by
 have O:=#[ok_isrule,T,C];have xT:=#[ok_runner,T,C];have Js:=#[ok_look,T];exists 9,T.g_Going_begin,wQ
 obtain⟨g,st,v,d,rfl,hG,U,hn,hv,⟨ad,ae,ho,af⟩,k⟩:=h;have hs:=uE;obtain⟨dx,fs,mv,av,rv,ev,e,f,i,j,hR,l⟩:=id hG;rw [U] at hR;exists _,%[|#[qI,#[qr,yX,pv 1,qU,qy _],%[|#[Qc,#[qB,#v[ql,ql]]]],%[|#[qI,#[Qx,#[Qj,#[qt,O,hr.mono (),T.g_is_rule,#v[pv 1]]]],%[|#[Qc,#[qB,#v[ql,ql]]]],%[#[Qc,#[Qm,#[qL,5,pv 0,rfl],T.qx,T.g_PlainOrder_runner,xT,#v[pv 1,#[qL,5,pv 0,rfl]]]]|#[qY,#[yh,pv 0,T.qO,T.g_Going_look,Js]]]]]]]
 exists 7
 exists 0,1,0;have fl:∀(z:Str) (H:Hp) (l:o3),z.length<=100->H l=none->Is (upd H l (.tup [.str "fault",.str z])) (flt z) (.ref l):=λz H l hz hl=>Is.new (ds:= [.str "fault",.str z]) ⟨_,0,YG (),_,0,YG (),1⟩ hl
 have aa:fs.length<1000:=by have:=f.len;omega
 have put:∀(z:Str) (t:o3) (H':Hp),z.length<=100->Same H H'->H' t=none->((d= .non->z="lack")/\(d≠ .non->z="rule"/\yc d=none))->Q .non (upd (upd H' t (.tup [.str "fault",.str z])) g.x (.ins a.qJ dx (putF "end" (.ref t) fs))):=λz t H' hz s' ht hd=>by
  have s1:=s'.trans (qf ht (.tup [.str "fault",.str z]));obtain⟨m1,m2⟩:=Wk (CM:=a.qo) (g:=g) (s:={st with en:=flt z}) (s1 _ _ e) (f.set_end (u:= .ref t)) (i.mono s1.tk) (j.mono s1.tk) (by show wV _ _ _ _ st.run;rwa [U]) (fl z H' t hz ht)
  refine k _ _ ⟨λb o h n=>m2.kept b o (s1 b o h) n,s1.tk.trans m2.tk⟩ m1 ⟨1,1,λh=>⟨U,by rw [hd.1 h]⟩,λh _=>⟨U,by rw [(hd.2 h).1]⟩,λrs h=> ?_⟩
  by_cases c:d= .non
  ·rw [c] at h;cases h
  ·rw [(hd.2 c).2] at h;cases h
 by_cases c:d= .non
 ·subst c;cases(show v= .non from hv)
  refine iteB (ue rfl) ⟨(sml rfl),λt ht=> ?_⟩;exists 0,g.x,_,dx,fs,1,(qf ht _) _ _ e,T.qO,T.Q2,aa;exact put "lack" t H () (Same.refl _) ht ⟨λ_=>rfl,λh=>absurd rfl h⟩
 ·refine iteN (ug (XQ hv c)) ?_;refine⟨0,v,d,1,hv,λH1 s1=>⟨0,?_⟩⟩;cases hd:yc d with
  |none=>
   refine iteT ⟨(sml rfl),λt ht=> ?_⟩;exists 0,g.x,_,dx,fs,1,(qf ht _) _ _ (s1 _ _ e),T.qO,T.Q2,aa;exact put "rule" t H1 () s1 ht ⟨λh=>absurd h c,λ_=>⟨1,hd⟩⟩
  |some rs=>
   refine iteF ?_;obtain⟨ed,ac⟩:=read_rule hd;have e1:=s1 _ _ e;refine⟨0,g.x,_,dx,fs,0,e1,T.qO,T.XH,f.wJ,g.o,ad,ae,1,s1 _ _ ho,af,0,0,g.x,_,dx,fs,0,e1,T.qO,T.yY,f.zH,g.o,v,rs,g.n,1,by rw [<-ed];exact hv.mono s1.tk,ac,hn,λmc H2 s2 nx nb ng ag ah hM=> ?_⟩
   have e2:=s2 _ _ e1;have Z:=s1.trans s2;exists 0,g.x,_,dx,fs,1,e2,T.qO,T.qV,aa;have ak:mc.x≠g.x:=(qk e1 nx).symm;obtain⟨m1,m2⟩:=Wk (C:=a.qJ) (CM:=a.qo) (g:=g) (s:={st with run:=some (mc,R0 rs g.n)}) e2 (f.set_rule_run (u:= .ref mc.x)) (i.mono Z.tk) (j.mono Z.tk) ⟨1,ak,hM⟩ (l.mono Z.tk)
   obtain⟨al,am,_,_,_,_,e3,f3,_⟩:=id m1;refine⟨0,g.x,al,am,1,e3,f3.meth _ (),g,_,mc,R0 rs g.n,1,m1,1,R0_th ac,λH3 v3 G3=>k H3 _ ⟨λb o h n=>v3.kept b o (m2.kept b o (Z b o h) n) n,(Z.tk.trans m2.tk).trans v3.tk⟩ G3 ?_⟩
   unfold lookS;refine⟨by split<;>rfl,by split<;>rfl,λh=>absurd h c,(λ_ h=>by rw [hd] at h;cases h),λao h=> ?_⟩
   rw [hd] at h;cases h;refine⟨mc,s1.free nx,s1.free nb,s1.free ng,ag,ah,by split<;>rfl,?_⟩
   split<;>rfl
inductive Xq (C CM:Addr) (vs:List V) (H:Hp) (Q:VK) (E_:XK):Prop
 |mk (g:Gc) (s:Gs) (_:vs= [.ref g.x]) (_:GoAt C CM H g s) (_:((s.run=none/\∃z,s.mb= .str z/\∀v H',Same H H'->Is H' (.tup [.str "rule",.str z]) v->Q v H')∨∃mc r d,s.run=some (mc,r)/\r.th= .tup [.str "asks",d]/\∀v,Is H d v->Q v H))
noncomputable def runG:om (Mc×Rn)->oj D
 |none=> []
 |some (_,r)=>r.gs
noncomputable def fullD (s:Gs):D:= .tup [.tup (s.ra++runG s.run),s.en]
inductive sp_full (C CM:Addr) (vs:List V) (H:Hp) (Q:VK) (E_:XK):Prop
 |mk (g:Gc) (s:Gs) (_:vs= [.ref g.x]) (_:GoAt C CM H g s) (_:s.ra.length+(runG s.run).length<=1000) (_:∀v H',Same H H'->Is H' (fullD s) v->Q v H')
variable {v u:V}{Q:VK}
theorem catG_is {K:o0}{xs ys:oj D}(O:Is H (.tup xs) v)(U:Is H (.tup ys) u)(hl:xs.length+ys.length<=1000)(k:∀p H',Same H H'->Is H' (.tup (xs++ys)) p->Q p H'):rCatG K v u H Q:=by
 obtain⟨a,vs,rfl,ha,Z⟩:=(show∃a vs,v= .ref a/\H a=some (.tup vs)/\L2.IsL H xs vs from O)
 obtain⟨b,us,rfl,hb,ib⟩:=(show∃a vs,u= .ref a/\H a=some (.tup vs)/\L2.IsL H ys vs from U)
 have la:=Z.length;have lb:=ib.length;have hs:=uE;refine⟨a,b,vs,us,1,1,SqT.of ha,SqT.of hb,(),λe=> ?_,λ_ e=> ?_,λ_ _ p hp=> ?_⟩
 ·have:xs= []:=List.length_eq_zero_iff.mp (by rw [e] at la;simpa using la.symm)
  rw [this] at k;exact k _ H (Same.refl _) U
 ·have:ys= []:=List.length_eq_zero_iff.mp (by rw [e] at lb;simpa using lb.symm)
  rw [this,vc] at k;exact k _ H (Same.refl _) O
 ·have n:=qf hp (.tup (vs++us));exact k _ _ n ⟨p,0,qg,(Z.append ib).mono n.tk⟩
theorem ok_wanted (T:Tx K mg a):#[K,2,a.xa,a.J1,["self"],(Xq a.qJ a.qo)]:=by
 have jv:=#[ok_now,T];exists 9,T.g_Going_wanted,Zu
 obtain⟨g,st,rfl,hG,h⟩:=h;have hs:=uE;obtain⟨dx,fs,mv,av,rv,ev,e,f,i,j,U,l⟩:=id hG;exists _,%[#[qI,#[qr,yX,#[qL,5,pv 0,rfl],qU,qy _],%[|#[qp,#[qB,#v[ql,#[qL,5,pv 0,rfl]]]]],qw]|#[qp,#[qN,JV,#[yh,#[qL,5,pv 0,rfl],T.qu,T.g_Machine_now,jv],qi]]]
 exists 7
 exists 0,g.x,_,dx,fs,0,e,T.qO,T.qV,f.Qq,1,0;rcases h with⟨O,z,hz,k⟩|⟨mc,r,d,O,Z,k⟩
 ·rw [O] at U;cases(show rv= .non from U)
  rw [hz] at i;obtain⟨rfl,hl⟩:=(show mv= .str z/\z.length<=sizeLine from i)
  refine iteB (ue rfl) ⟨0,g.x,_,dx,fs,0,e,T.qO,T.yF,f.YE,(sml rfl),λt ht=> ?_⟩;exact k _ _ (qf ht _) (Is.new ⟨_,0,YG (),_,0,⟨1,hl⟩,1⟩ ht)
 ·rw [O] at U;obtain⟨rfl,hn,hM⟩:=U;obtain⟨dm,fm,ac,ru,tv,gv,em,aa,i1,i2,i3,i4,i5,i6⟩:=id hM;refine iteN (ug (λz=>by cases z)) ?_
  refine⟨0,g.x,_,dx,fs,0,e,T.qO,T.qV,f.Qq,mc.x,dm,fm,1,em,aa.meth _ (),mc,r,1,hM,λv hv=> ?_⟩
  rw [Z] at hv;exact .inr (.inl (xq (i:=1) (d:=d) hv (QF (j:=1) rfl) λq hq=>k q hq))
theorem ok_full (T:Tx K mg a):#[K,2,a.zA,a.zI,["self"],(sp_full a.qJ a.qo)]:=by
 have Zr:=#[ok_asks,T];exists 9,T.g_Going_full,Xt
 obtain⟨g,st,rfl,hG,hl,k⟩:=h;have hs:=uE;obtain⟨dx,fs,mv,av,rv,ev,e,f,i,j,Z,l⟩:=id hG;exists _,%[#[qC,(1),Xt.nd,#[Q6,#[qr,yX,#[qL,5,pv 0,rfl],qU,qy _],#[qB,qd],#[yh,#[qL,5,pv 0,rfl],T.qu,T.g_Machine_asked,Zr]]]|#[qp,#[qB,#v[#[qS,yi,#[qL,5,pv 0,rfl],pv 1],#[qL,5,pv 0,rfl]]]]]
 exists 7
 have fin:∀(v:V) (H1:Hp),Same H H1->Is H1 (.tup (runG st.run)) v->tFld K (tVar 0) "rule_asks" [some (.ref g.x),some v] H1 λx H2=>tVar 1 [some (.ref g.x),some v] H2 λy H3=>rCatG K x y H3 λz H4=>tFld K (tVar 0) "end" [some (.ref g.x),some v] H4 λu H5=> [z,u].length<=sizeLine/\∀p,H5 p=none->Q (.ref p) (upd H5 p (.tup [z,u])):=λv H1 s1 hv=>by
  exists 0,g.x,_,dx,fs,0,s1 _ _ e,T.qO,T.yP,f.yN,0;refine catG_is (j.mono s1.tk) hv hl λz H4 s4 i4=> ?_;have U:=s1.trans s4;refine⟨0,g.x,_,dx,fs,0,U _ _ e,T.qO,T.Q2,f.f_end,(sml rfl),λp hp=> ?_⟩;have n:=qf hp (.tup [z,ev]);exact k _ _ (U.trans n) (Is.new ⟨_,0,i4,_,0,l.mono U.tk,1⟩ hp)
 exists 0,g.x,_,dx,fs,0,e,T.qO,T.qV,f.Qq,1,0;cases O:st.run with
 |none=>
  rw [O] at Z fin;cases(show rv= .non from Z)
  refine iteB (ue rfl) ⟨(sml rfl),λt ht=> ?_⟩;exact fin _ _ (qf ht _) (Is.new (ds:= []) rfl ht)
 |some p=>
  obtain⟨mc,r⟩:=p;rw [O] at Z fin;obtain⟨rfl,hn,hM⟩:=Z;obtain⟨dm,fm,ac,ru,tv,gv,em,aa,i1,i2,i3,i4,i5,i6⟩:=id hM;refine iteN (ug (λz=>by cases z)) ?_
  refine⟨0,g.x,_,dx,fs,0,e,T.qO,T.qV,f.Qq,mc.x,dm,fm,1,em,aa.meth _ (),mc,r,1,hM,λv H1 s1 hv=> ?_⟩
  exact fin v H1 s1 hv
structure Gw (g:Gc)(o:om (Mc×Rn))(H H':Hp):Prop where
 kept:∀b ob,H b=some ob->b≠g.x->(∀mc r,o=some (mc,r)->b≠mc.x/\b≠mc.db/\b≠mc.dg)->H' b=some ob
 tk:Tk H H'
inductive Xn (C CM CO:Addr) (vs:List V) (H:Hp) (Q:VK) (E_:XK):Prop
 |mk (g:Gc) (s:Gs) (v:V) (d:D) (_:vs= [.ref g.x,v]) (_:GoAt C CM H g s) (_:nm g.n=true) (_:Is H d v) (_:g.o≠g.x) (_:(∃dx fs,H g.o=some (.ins CO dx fs)/\fs.lookup ("runner":Str)=none)) (_:((s.run=none/\∃z,s.mb= .str z/\∀H' s',Gw g s.run H H'->GoAt C CM H' g s'->BegOk H g d {s with ra:= [.tup [.tup [.str "rule",.str z],d]]} s'->Q .non H')∨∃mc r u q,s.run=some (mc,r)/\mc.own=g.n/\ye mc.rs/\RnOk mc.rs r/\r.th= .tup [.str "asks",.tup [.str u,q]]/\ansB u d=true/\∀H',Gw g s.run H H'->GoAt C CM H' g (lookS {s with run:=some (mc,ansS mc.rs mc.own r d)} (ansS mc.rs mc.own r d))->Q .non H'))
theorem go_mv {g:Gc}{s:Gs}{mc:Mc}{r O:Rn}(h:GoAt C CM H g s)(Z:s.run=some (mc,r))(v:Mv mc H H')(hM:y9 CM H' mc O):GoAt C CM H' g {s with run:=some (mc,O)}:=by
 obtain⟨dx,fs,mv,av,rv,ev,e,f,i,j,k,l⟩:=h;rw [Z] at k;obtain⟨rfl,hn,hm⟩:=k;obtain⟨dm,fm,aa,ru,tv,gv,em,ac,i1,i2,i3,U,i5,i6⟩:=id hm;have n1:g.x≠mc.db:=(Ym.ne e i3).symm;have n2:g.x≠mc.dg:=λz=>by rw [<-z,e] at U;cases U
 exact⟨dx,fs,mv,av,_,ev,v.kept _ _ e hn.symm n1 n2,f,i.mono v.tk,j.mono v.tk,⟨1,hn,hM⟩,l.mono v.tk⟩
theorem ok_gtake (T:Tx K mg a)(C:Fx K w mg g a):#[K,10,a.zD,a.zE,["self","answer"],(Xn a.qJ a.qo a.qm)]:=by
 have jm:=#[ok_begin,T,C];have Js:=#[ok_look,T];have Zd:=#[ok_ans,T,C];exists 9,T.g_Going_take,kJ
 obtain⟨U,st,v,d,rfl,hG,hn,hv,am,⟨ao,ap,ho,aq⟩,h⟩:=h;have hs:=uE;obtain⟨dx,fs,mv,av,rv,ev,e,f,i,j,hR,l⟩:=id hG;exists _,%[|#[qI,#[qr,yX,#[qL,5,pv 0,rfl],qU,qy _],%[#[Qc,#[qB,#v[#[qB,#v[#[qB,#v[ql,#[qL,5,pv 0,rfl]]],pv 1]]]]]|#[qY,#[Qm,pv 0,T.qO,T.g_Going_begin,jm,#v[pv 1]]]],%[#[qY,#[Qm,#[qL,5,pv 0,rfl],T.qu,T.g_Machine_answer,Zd,#v[pv 1]]]|#[qY,#[yh,pv 0,T.qO,T.g_Going_look,Js]]]]]
 exists 7
 exists 0,U.x,_,dx,fs,0,e,T.qO,T.qV,f.Qq,1,0;rcases h with⟨O,z,hz,k⟩|⟨mc,r,u,q,O,au,ad,ae,af,Z,k⟩
 ·rw [O] at hR;cases(show rv= .non from hR)
  refine iteB (ue rfl) ?_;rw [hz] at i;obtain⟨rfl,hl⟩:=(show mv= .str z/\z.length<=sizeLine from i)
  have aw:fs.length<1000:=by have:=f.len;omega
  refine⟨0,U.x,_,dx,fs,0,e,T.qO,T.yF,f.YE,(sml rfl),λt1 ag=> ?_⟩;have m1:=qf ag (.tup [V.str "rule",V.str z]);have k1:Is (upd H t1 (.tup [V.str "rule",V.str z])) (.tup [.str "rule",.str z]) (.ref t1):=Is.new ⟨_,0,YG (),_,0,⟨1,hl⟩,1⟩ ag
  refine⟨0,(sml rfl),λt2 ah=> ?_⟩;have m2:=qf ah (.tup [V.ref t1,v]);have k2:=Is.new (ds:= [.tup [.str "rule",.str z],d]) ⟨_,0,k1,_,0,hv.mono m1.tk,1⟩ ah;refine⟨(sml rfl),λt3 ak=> ?_⟩;have m3:=qf ak (.tup [V.ref t2]);have k3:=Is.new (ds:= [.tup [.tup [.str "rule",.str z],d]]) ⟨_,0,k2,1⟩ ak;have s3:=(m1.trans m2).trans m3;exists 0,U.x,_,dx,fs,1,s3 _ _ e,T.qO,T.yP,aw;have iz:Is H (.str z) (.str z):=⟨1,hl⟩;obtain⟨p1,p2⟩:=Wk (C:=a.qJ) (CM:=a.qo) (g:=U) (s:={st with ra:= [.tup [.tup [.str "rule",.str z],d]]}) (s3 _ _ e) (f.set_rule_asks (u:= .ref t3)) (by show Is _ st.mb _;rw [hz];exact iz.mono s3.tk) k3 (by show wV _ _ _ _ st.run;rw [O];rfl) (l.mono s3.tk)
  obtain⟨aa,ac,_,_,_,_,e3,f3,_⟩:=id p1;have al:=s3.tk.trans p2.tk;refine⟨0,U.x,aa,ac,1,e3,f3.meth _ (),0,U,_,v,d,1,p1,O,hn,hv.mono al,⟨ao,ap,p2.kept _ _ (s3 _ _ ho) am,aq⟩,λH4 s4 v4 G4 b4=>k H4 s4 ⟨λb ob h n _=>v4.kept b ob (p2.kept b ob (s3 b ob h) n) n,al.trans v4.tk⟩ G4 ⟨b4.mb,b4.ra,b4.lack,b4.rule,λrs h=> ?_⟩⟩
  obtain⟨mc,c1,c2,c3,c4⟩:=b4.go rs h;have fr:∀b,upd (upd (upd (upd H t1 (.tup [V.str "rule",V.str z])) t2 (.tup [V.ref t1,v])) t3 (.tup [V.ref t2])) U.x (.ins a.qJ dx (putF "rule_asks" (.ref t3) fs)) b=none->H b=none:=λb hb=>by
   cases hc:H b with
   |none=>rfl
   |some ob=>
    by_cases c:b=U.x
    ·rw [c,qg] at hb;cases hb
    ·rw [p2.kept b ob (s3 b ob hc) c] at hb;cases hb
  exact⟨mc,fr _ c1,fr _ c2,fr _ c3,c4⟩
 ·rw [O] at hR;obtain⟨rfl,aA,hM⟩:=hR;obtain⟨dm,fm,aB,ru,tv,gv,em,ax,i1,i2,i3,i4,i5,i6⟩:=id hM;refine iteN (ug (λz=>by cases z)) ?_
  have ay:mc.own.length<=100:=by rw [au];have:=wS hn;omega
  refine⟨0,U.x,_,dx,fs,0,e,T.qO,T.qV,f.Qq,mc.x,dm,fm,1,em,ax.meth _ (),0,mc,r,v,u,q,d,1,hM,ae,af,hv,ad,ay,Z,λH1 v1 M1=> ?_⟩
  ·have G1:=go_mv hG O v1 M1;obtain⟨aa,ac,_,_,_,_,e3,f3,_⟩:=id G1;have hok:=ansS_ok (own:=mc.own) ad ae (by rw [af];show decide (("asks":Str)="asks")=true;exact ue rfl) (ansB_ok Z)
   refine⟨0,U.x,aa,ac,1,e3,f3.meth _ (),U,_,mc,0,G1,1,.inr hok.two,λH2 v2 G2=>k H2 ⟨λb ob h n1 n2=>v2.kept b ob (v1.kept b ob h (n2 mc r O).1 (n2 mc r O).2.1 (n2 mc r O).2.2) n1,v1.tk.trans v2.tk⟩ G2⟩
noncomputable def gfs (n:Str)(o t:o3):oj (Str×V):= [("name",.str n),("order",.ref o),("made_by",.non),("rule_asks",.ref t),("rule_run",.non),("end",.non)]
theorem gfs_ok (n:Str)(o t:o3):GFl (gfs n o t) (.str n) (.ref o) .non (.ref t) .non .non:=by
 refine⟨1,1,1,1,1,1,?_,(by show 6<=20;decide)⟩
 intro m hm;simp only [GMT,uC,uD,uM] at hm;rcases hm with rfl|rfl|rfl|rfl|rfl<;>rfl
noncomputable def s0G:Gs:=⟨.non,[],none,.non⟩
inductive sp_ginit (C CM CO:Addr) (vs:List V) (H:Hp) (Q:VK) (E_:XK):Prop
 |mk (x dx o:Addr) (n k:Str) (sv:V) (e:D) (_:vs= [.ref x,.str n,sv,.ref o]) (_:H x=some (.ins C dx [])) (_:Is H (.tup [.str k,e]) sv) (_:nm n=true) (_:o≠x) (_:(∃dx fs,H o=some (.ins CO dx fs)/\fs.lookup ("runner":Str)=none)) (_:∀H' s',(∀b ob,H b=some ob->b≠x->H' b=some ob)->Tk H H'->GoAt C CM H' ⟨x,o,n⟩ s'->(k="made"->s'={s0G with mb:=e})->(k≠"made"->BegOk H ⟨x,o,n⟩ e s0G s')->Q .non H')
theorem gen1 {x:o3}{fs:oj (Str×V)}{P:Hp->Prop}(e:H x=some (.ins C dx fs))(h:∀H1,H1 x=some (.ins C dx fs')->(∀b ob,H b=some ob->b≠x->H1 b=some ob)->Tk H H1->P H1):P (upd H x (.ins C dx fs')):=h _ qg (λb ob h n=>by rwa [qh n]) (Tk.updI e)
theorem ok_ginit (T:Tx K mg a)(C:Fx K w mg g a):#[K,10,a.Ju,a.zw,["self","name","source","order"],(sp_ginit a.qJ a.qo a.qm)]:=by
 have jm:=#[ok_begin,T,C];exists 9,T.g_Going_init,kC
 obtain⟨x,dx,o,n,k,sv,d,rfl,hx,aa,hn,nox,⟨ac,ad,ho,ae⟩,q⟩:=h;have hs:=uE;exists _,%[#[Qc,pv 1],#[Qc,pv 3],#[Qc,qU],#[Qc,#[qB,qd]],#[Qc,qU],#[Qc,qU]|#[qI,#[qr,Qn,#[qN,qM,pv 2,qi],ql,qy _],%[|#[Qc,#[qN,qM,pv 2,qi]]],%[|#[qY,#[Qm,pv 0,T.qO,T.g_Going_begin,jm,#v[#[qN,qM,pv 2,qi]]]]]]]
 exists 7
 exists 0,0,x,_,dx,0,hx,T.qO,T.yY,()
 refine gen1 (P:=tSeq _ _ _ _) hx λH1 x1 k1 t1=> ?_;refine⟨0,0,x,_,dx,0,x1,T.qO,T.XH,by show 1<1000;decide,?_⟩
 refine gen1 (P:=tSeq _ _ _ _) x1 λH2 x2 k2 t2=> ?_;refine⟨0,x,_,dx,0,x2,T.qO,T.yF,by show 2<1000;decide,?_⟩
 refine gen1 (P:=tSeq _ _ _ _) x2 λH3 x3 k3 t3=> ?_;refine⟨sml rfl,λt ht=> ?_⟩;have nxt:=(qk x3 ht).symm;have s4:=qf ht (.tup ([]:oj V));refine⟨0,x,_,dx,0,s4 _ _ x3,T.qO,T.yP,by show 3<1000;decide,?_⟩
 refine gen1 (P:=tSeq _ _ _ _) (s4 _ _ x3) λH5 x5 k5 t5=> ?_;refine⟨0,x,_,dx,0,x5,T.qO,T.qV,by show 4<1000;decide,?_⟩
 refine gen1 (P:=tSeq _ _ _ _) x5 λH6 x6 k6 t6=> ?_;refine⟨0,x,_,dx,0,x6,T.qO,T.Q2,by show 5<1000;decide,?_⟩
 refine gen1 (P:=λH=>_) x6 λZ O k7 t7=> ?_;have kp:∀b ob,H b=some ob->b≠x->Z b=some ob:=λb ob h nb=>k7 b ob (k6 b ob (k5 b ob (s4 b ob (k3 b ob (k2 b ob (k1 b ob h nb) nb) nb)) nb) nb) nb;have U:=(((((t1.trans t2).trans t3).trans s4.tk).trans t5).trans t6).trans t7;have O:Z x=some (.ins a.qJ dx (gfs n o t)):=O;have eT:Z t=some (.tup ([]:oj V)):=k7 _ _ (k6 _ _ (k5 _ _ qg nxt) nxt) nxt;have i0:Is Z (.tup []) (.ref t):=⟨t,[],1,eT,1⟩;have G0:GoAt a.qJ a.qo Z ⟨x,o,n⟩ s0G:=⟨dx,_,_,_,_,_,O,gfs_ok n o t,1,i0,1,1⟩;have af:=aa.mono U;obtain⟨p,ws,rfl,hp,w1,r1,rfl,⟨rfl,ag⟩,w2,r2,rfl,h2,h3⟩:=af;cases(show r2= [] from h3)
 exists 0,p,_,_,0,1,SqT.of hp,1,1,0;by_cases ck:k="made"
 ·refine iteB (ue (by rw [ck])) ⟨0,p,_,_,0,1,SqT.of hp,1,0,x,_,dx,0,O,T.qO,T.yF,(by show 6<1000;decide),?_⟩
  obtain⟨p1,p2⟩:=Wk (C:=a.qJ) (CM:=a.qo) (g:=⟨x,o,n⟩) (s:={s0G with mb:=d}) O ((gfs_ok n o t).set_made_by (u:=w2)) h2 i0 rfl rfl
  exact q _ _ (λb ob h nb=>p2.kept b ob (kp b ob h nb) nb) (U.trans p2.tk) p1 (λ_=>rfl) λz=>absurd ck z
 ·refine iteN (ug (λz=>ck (V.str.inj z))) ?_;refine⟨0,x,dx,0,O,(gfs_ok n o t).meth _ (),0,p,_,_,0,1,SqT.of hp,1,⟨x,o,n⟩,s0G,w2,d,1,G0,1,hn,h2,⟨ac,ad,kp _ _ ho nox,ae⟩,λH8 s8 v8 G8 b8=>q H8 s8 (λb ob h nb=>v8.kept b ob (kp b ob h nb) nb) (U.trans v8.tk) G8 (λz=>absurd z ck) λ_=>⟨b8.mb,b8.ra,b8.lack,b8.rule,λrs h=> ?_⟩⟩
  obtain⟨mc,c1,c2,c3,c4⟩:=b8.go rs h;have fr:∀b,Z b=none->H b=none:=λb hb=>by
   cases hc:H b with
   |none=>rfl
   |some ob=>
    by_cases c:b=x
    ·rw [c,O] at hb;cases hb
    ·rw [kp b ob hc c] at hb;cases hb
  exact⟨mc,fr _ c1,fr _ c2,fr _ c3,c4⟩
noncomputable def ZF:D->D
 | .non=> .tup [.str "lack"]
 | .tup [.str k,e]=>if k="leaf" then .tup [.str "value",e] else .non
 |_=> .non
noncomputable def xL:D->D
 | .tup [.str k,e]=>if k="said" then .tup [.str "value",e] else .tup [.str k,e]
 |d=>d
inductive sp_once (vs:List V) (H:Hp) (Q:VK) (E_:XK):Prop
 |mk (v:V) (d:D) (_:vs= [v]) (_:Is H d v) (_:(d= .non∨∃k e,d= .tup [.str k,e])) (_:∀u H',Same H H'->Is H' (ZF d) u->Q u H')
inductive sp_ansby (vs:List V) (H:Hp) (Q:VK) (E_:XK):Prop
 |mk (v:V) (k:Str) (e:D) (_:vs= [v]) (_:Is H (.tup [.str k,e]) v) (_:∀u H',Same H H'->Is H' (xL (.tup [.str k,e])) u->Q u H')
theorem ok_ansby (T:Tx K mg a):#[K,1,a.ZM,a.wI,["end"],sp_ansby]:=by
 exists 9,T.g_answer_by,sc_answer_by
 obtain⟨v,k,e,rfl,U,q⟩:=h;have hs:=uE;have O:=U;obtain⟨p,ws,rfl,Z,w1,r1,rfl,⟨rfl,aa⟩,w2,r2,rfl,h2,h3⟩:=U;cases(show r2= [] from h3)
 exists _,%[|#[qp,#[Q6,#[qr,Qn,#[qN,qM,pv 0,qi],ql,qy _],#[qB,#v[ql,#[qN,qM,pv 0,qi]]],pv 0]]]
 exists 7
 exists 0,p,_,_,0,1,SqT.of Z,1,1,0;by_cases c:k="said"
 ·refine iteB (ue (by rw [c])) ⟨0,p,_,_,0,1,SqT.of Z,1,(sml rfl),λt ht=> ?_⟩
  refine q _ _ (qf ht _) ?_;unfold xL;dsimp only;rw [A3 c];exact Is.new ⟨_,0,YG (),_,0,h2,1⟩ ht
 ·refine iteN (ug (λz=>c (V.str.inj z))) ⟨0,q _ H (Same.refl _) ?_⟩;unfold xL;dsimp only;rw [A2 c];exact O
theorem ok_once (T:Tx K mg a):#[K,1,a.jC,a.jH,["source"],sp_once]:=by
 exists 9,T.g_answer_at_once,zi
 obtain⟨v,d,rfl,U,hd,q⟩:=h;have hs:=uE;exists _,%[#[qI,#[qr,yX,pv 0,qU,qy _],%[|#[qp,#[qB,#v[ql]]]],qw]|#[qp,#[Q6,#[qr,Qn,#[qN,qM,pv 0,qi],ql,qy _],#[qB,#v[ql,#[qN,qM,pv 0,qi]]],qU]]]
 exists 7
 exists 0,1,0;rcases hd with rfl|⟨k,e,rfl⟩
 ·cases(show v= .non from U)
  refine iteB (ue rfl) ⟨(sml rfl),λt O=> ?_⟩;exact q _ _ (qf O _) (Is.new ⟨_,0,YG (),1⟩ O)
 ·obtain⟨p,ws,rfl,Z,w1,r1,rfl,⟨rfl,aa⟩,w2,r2,rfl,h2,h3⟩:=U;cases(show r2= [] from h3)
  refine iteN (ug (λz=>by cases z)) ?_
  exists 0,p,_,_,0,1,SqT.of Z,1,1,0;by_cases c:k="leaf"
  ·refine iteB (ue (by rw [c])) ⟨0,p,_,_,0,1,SqT.of Z,1,(sml rfl),λt O=> ?_⟩
   refine q _ _ (qf O _) ?_;unfold ZF;dsimp only;rw [A3 c];exact Is.new ⟨_,0,YG (),_,0,h2,1⟩ O
  ·refine iteN (ug (λz=>c (V.str.inj z))) (q _ H (Same.refl _) ?_);unfold ZF;dsimp only;rw [A2 c];exact(rfl:V.non=V.non)
end
structure Sy where
 G:Type
 fin:G->Bool
 want:G->om Str
 own:G->G
 tk:G->om D->G
 stuck:G->Str->G
 said:G->om D
 g0:Str->om G
 once:Str->om D
 lft:G->Nat
 M:Nat
 ns:oj Str
structure Sy.Ok (Y:Sy):Prop where
 fs:∀g m,Y.fin (Y.stuck g m)=true
 ss:∀g m,Y.said (Y.stuck g m)=none
 sf:∀g v,Y.said g=some v->Y.fin g=true
 lo:∀g,Y.fin g=false->Y.want g=none->Y.lft (Y.own g)<Y.lft g
 lt:∀g m a,Y.fin g=false->Y.want g=some m->Y.lft (Y.tk g a)<Y.lft g
 lk:∀g m,Y.fin g=false->Y.lft (Y.stuck g m)<Y.lft g
 l0:∀m g,Y.g0 m=some g->Y.lft g<=Y.M
 gn:∀m g,Y.g0 m=some g->m∈Y.ns
namespace Sy
variable {Y:Sy}
noncomputable abbrev Orc:=Str->om (om D)
noncomputable def step (Y:Sy)(f:Orc)(g:Y.G):Y.G:=if Y.fin g=true then g else match Y.want g with
 |none=>Y.own g
 |some m=>match f m with
  |some a=>Y.tk g a
  |none=>Y.stuck g m
noncomputable def it (Y:Sy)(f:Orc):Nat->Y.G->Y.G
 |0,g=>g
 |k+1,g=>it Y f k (step Y f g)
theorem Zn {f:Orc}{g:Y.G}(h:Y.fin g=true):step Y f g=g:=by unfold step;rw [A3 h]
theorem x8 {f:Orc}{g:Y.G}(h:Y.fin g=true):∀k,it Y f k g=g
 |0=>rfl
 |k+1=>by show it Y f k (step Y f g)=g;rw [Zn h];exact x8 h k
theorem XF {f:Orc}:∀(k j:Nat) (g:Y.G),it Y f (k+j) g=it Y f j (it Y f k g)
 |0,j,g=>by rw [Nat.zero_add];rfl
 |k+1,j,g=>by
  rw [Nat.add_right_comm];show it Y f (k+j) (step Y f g)=_;rw [XF k j]
  rfl
theorem it_snoc {f:Orc}(k:Nat)(g:Y.G):it Y f (k+1) g=step Y f (it Y f k g):=XF k 1 g
theorem step_lft (h:Y.Ok){f:Orc}{g:Y.G}(O:Y.fin g=false):Y.lft (step Y f g)<Y.lft g:=by
 unfold step;rw [O,A2 ub];cases U:Y.want g with
 |none=>exact h.lo g O U
 |some m=>
  show Y.lft (match f m with|some a=>Y.tk g a|none=>Y.stuck g m)<_
  cases f m with
  |some a=>exact h.lt g m a O U
  |none=>exact h.lk g m O
theorem it_end (h:Y.Ok){f:Orc}:∀(k:Nat) (g:Y.G),Y.lft g<=k->Y.fin (it Y f k g)=true
 |0,g,hl=>by
  show Y.fin g=true;cases O:Y.fin g with
  |true=>rfl
  |false=>have:=step_lft (f:=f) h O;omega
 |k+1,g,hl=>by
  show Y.fin (it Y f k (step Y f g))=true;cases O:Y.fin g with
  |true=>rw [Zn O,x8 O];exact O
  |false=>exact it_end h k _ (by have:=step_lft (f:=f) h O;omega)
variable {j:Nat}
theorem it_one {f:Orc}{g:Y.G}{k:Nat}(O:Y.fin (it Y f k g)=true)(U:Y.fin (it Y f j g)=true):it Y f k g=it Y f j g:=by
 rcases Nat.le_total k j with h|h
 ·obtain⟨d,rfl⟩:=UO h;rw [XF,x8 O]
 ·obtain⟨d,rfl⟩:=UO h;rw [XF,x8 U]
theorem it_mono (h:Y.Ok){f f':Orc}(hm:∀m a,f m=some a->f' m=some a):∀(k:Nat) (g:Y.G),it Y f' k g=it Y f k g∨((∀j,it Y f j (it Y f k g)=it Y f k g)/\Y.said (it Y f k g)=none)
 |0,g=> .inl rfl
 |k+1,g=>by
  show it Y f' k (step Y f' g)=it Y f k (step Y f g)∨_;by_cases c:step Y f' g=step Y f g
  ·rw [c];exact it_mono h hm k _
  ·right;have U:Y.fin g=false:=by
    cases U:Y.fin g with
    |false=>rfl
    |true=>exact absurd (by rw [Zn U,Zn U]) c
   have e:∃m,step Y f g=Y.stuck g m:=by
    unfold step at c⊢;rw [U,A2 ub] at c⊢;rw [A2 ub] at c;cases Z:Y.want g with
    |none=>rw [Z] at c;exact absurd rfl c
    |some m=>
     rw [Z] at c;simp only at c⊢;cases O:f m with
     |none=>exact⟨m,1⟩
     |some a=>rw [O,hm m a O] at c;exact absurd rfl c
   obtain⟨m,e⟩:=e;have e2:it Y f (k+1) g=Y.stuck g m:=by
    show it Y f k (step Y f g)=_;rw [e];exact x8 (h.fs g m) k
   rw [e2];exact⟨x8 (h.fs g m),h.ss g m⟩
theorem it_said (h:Y.Ok){f f':Orc}(hm:∀m a,f m=some a->f' m=some a){k:Nat}{g:Y.G}{v:D}(O:Y.said (it Y f k g)=some v):it Y f' k g=it Y f k g:=by
 rcases it_mono h hm k g with e|⟨_,e⟩
 ·exact e
 ·rw [O] at e;cases e
noncomputable def Fh (Y:Sy):Nat->Orc
 |0,m=>match Y.g0 m with
  |none=>some (Y.once m)
  |some _=>none
 |h+1,m=>match Y.g0 m with
  |none=>some (Y.once m)
  |some g=>(Y.said (it Y (Fh Y h) Y.M g)).map some
variable {m:Str}
theorem XZ (h:Y.g0 m=none):∀k,Fh Y k m=some (Y.once m)
 |0=>by simp only [Fh,h]
 |k+1=>by simp only [Fh,h]
theorem WD {g:Y.G}(h:Y.g0 m=some g)(k:Nat):Fh Y (k+1) m=(Y.said (it Y (Fh Y k) Y.M g)).map some:=by simp only [Fh,h]
theorem wE {g:Y.G}(h:Y.g0 m=some g):Fh Y 0 m=none:=by simp only [Fh,h]
theorem Fh_succ (h:Y.Ok):∀(k:Nat) (m:Str) (a:om D),Fh Y k m=some a->Fh Y (k+1) m=some a
 |0,m,a,e=>by
  cases O:Y.g0 m with
  |none=>rw [XZ O] at e⊢;exact e
  |some g=>rw [wE O] at e;cases e
 |k+1,m,a,e=>by
  cases O:Y.g0 m with
  |none=>rw [XZ O] at e⊢;exact e
  |some g=>
   rw [WD O] at e⊢;cases U:Y.said (it Y (Fh Y k) Y.M g) with
   |none=>rw [U] at e;cases e
   |some v=>
    rw [it_said h (Fh_succ h k) U];exact e
theorem Fh_le (h:Y.Ok){k:Nat}(O:k<=j){a:om D}(e:Fh Y k m=some a):Fh Y j m=some a:=by
 obtain⟨d,rfl⟩:=UO O
 induction d with
 |zero=>exact e
 |succ d U=>exact Fh_succ h _ _ _ (U ())
open Classical in
noncomputable def F (Y:Sy):Orc:=λm=>if h:∃a k,Fh Y k m=some a then some (choose h) else none
theorem F_iff (h:Y.Ok){a:om D}:F Y m=some a↔∃k,Fh Y k m=some a:=by
 unfold F;constructor
 ·intro e;by_cases c:∃a k,Fh Y k m=some a
  ·rw [dif_pos c] at e;have:=Classical.choose_spec c;rwa [uI e] at this
  ·rw [dif_neg c] at e;cases e
 ·rintro⟨k,e⟩;have c:∃a k,Fh Y k m=some a:=⟨a,k,e⟩;rw [dif_pos c];obtain⟨j,U⟩:=Classical.choose_spec c;have Z:=Fh_le h (Nat.le_max_left k j) e;have O:=Fh_le h (Nat.le_max_right k j) U;rw [Z] at O;exact O.symm
theorem F_of (h:Y.Ok){k:Nat}{a:om D}(e:Fh Y k m=some a):F Y m=some a:=(F_iff h).mpr ⟨k,e⟩
theorem F_once (h:Y.Ok)(O:Y.g0 m=none):F Y m=some (Y.once m):=F_of h (XZ O 0)
theorem step_near (h:Y.Ok)(g:Y.G):∃k,∀j,k<=j->step Y (Fh Y j) g=step Y (F Y) g:=by
 unfold step;by_cases U:Y.fin g=true
 ·exact⟨(0),λj _=>by rw [A3 U,A3 U]⟩
 ·cases hw:Y.want g with
  |none=>exact⟨(0),λj _=>rfl⟩
  |some m=>
   cases O:F Y m with
   |some a=>
    obtain⟨k,e⟩:=(F_iff h).mp O;exact⟨k,λj Z=>by simp only [Fh_le h Z e,O]⟩
   |none=>
    refine⟨(0),λj _=> ?_⟩;have:Fh Y j m=none:=by
     cases e:Fh Y j m with
     |none=>rfl
     |some a=>rw [F_of h e] at O;cases O
    simp only [this,O]
theorem it_near (h:Y.Ok):∀(n:Nat) (g:Y.G),∃k,∀j,k<=j->it Y (Fh Y j) n g=it Y (F Y) n g
 |0,g=>⟨(0),λ_ _=>rfl⟩
 |n+1,g=>by
  obtain⟨k1,h1⟩:=step_near h g;obtain⟨k2,h2⟩:=it_near h n (step Y (F Y) g);refine⟨max k1 k2,λj O=> ?_⟩;show it Y (Fh Y j) n (step Y (Fh Y j) g)=it Y (F Y) n (step Y (F Y) g);rw [h1 j (),h2 j ()]
theorem F_run (h:Y.Ok){g:Y.G}(U:Y.g0 m=some g):F Y m=(Y.said (it Y (F Y) Y.M g)).map some:=by
 cases Z:Y.said (it Y (F Y) Y.M g) with
 |some v=>
  obtain⟨k,e⟩:=it_near h Y.M g;refine F_of h (k:=k+1) ?_;rw [WD U,e k (ui _),Z]
  rfl
 |none=>
  show F Y m=none;cases e:F Y m with
  |none=>rfl
  |some a=>
   obtain⟨k,e⟩:=(F_iff h).mp e;cases k with
   |zero=>rw [wE U] at e;cases e
   |succ k=>
    rw [WD U] at e;cases O:Y.said (it Y (Fh Y k) Y.M g) with
    |none=>rw [O] at e;cases e
    |some v=>
     rw [<-it_said h (λm a q=>F_of h q) O,Z] at O;cases O
noncomputable def Wt (Y:Sy)(n m:Str):Prop:=∃g k,Y.g0 n=some g/\Y.fin (it Y (F Y) k g)=false/\Y.want (it Y (F Y) k g)=some m
theorem wt_less (h:Y.Ok){n:Str}(w:Wt Y n m){k:Nat}{a:om D}(e:Fh Y k n=some a):∃j b,j<k/\Fh Y j m=some b:=by
 obtain⟨g,i,hg,hf,hw⟩:=w;cases k with
 |zero=>rw [wE hg] at e;cases e
 |succ k=>
  exists k;rw [WD hg] at e;cases U:Y.said (it Y (Fh Y k) Y.M g) with
  |none=>rw [U] at e;cases e
  |some v=>
   have O:=h.sf _ _ U;have eM:=it_said h (f':=F Y) (λm a q=>F_of h q) U;rcases it_mono h (f:=Fh Y k) (f':=F Y) (λm a q=>F_of h q) i g with ei|⟨ei,es⟩
   ·rw [ei] at hf hw;cases hm:Fh Y k m with
    |some b=>exact⟨b,Nat.lt_succ_self k,1⟩
    |none=>
     have e1:it Y (Fh Y k) (i+1) g=Y.stuck (it Y (Fh Y k) i g) m:=by
      rw [it_snoc];unfold step;rw [hf,A2 ub,hw];simp only [hm]
     have e2:Y.fin (it Y (Fh Y k) (i+1) g)=true:=by rw [e1];exact h.fs _ _
     rw [<-it_one e2 O,e1,h.ss] at U;cases U
   ·have Z:it Y (Fh Y k) (i+Y.M) g=it Y (Fh Y k) i g:=by rw [XF];exact ei _
    have e3:it Y (Fh Y k) (Y.M+i) g=it Y (Fh Y k) Y.M g:=by rw [XF];exact x8 O i
    rw [<-e3,Nat.add_comm,Z,es] at U;cases U
inductive Wts (Y:Sy):Str->Str->Prop
 |one {n m:Str}:Wt Y n m->Wts Y n m
 |more {n m l:Str}:Wts Y n m->Wt Y m l->Wts Y n l
theorem wts_less (h:Y.Ok){n:Str}(w:Wts Y n m):∀{k:Nat}{a:om D},Fh Y k n=some a->∃j b,j<k/\Fh Y j m=some b:=by
 induction w with
 |one w=>exact λe=>wt_less h w e
 |more _ w O=>
  intro k a e;obtain⟨j,b,hj,U⟩:=O e;obtain⟨i,c,hi,Z⟩:=wt_less h w U;exact⟨i,c,(),Z⟩
theorem Xw (h:Y.Ok){n:Str}(w:Wts Y n n):F Y n=none:=by
 have O:∀k a,Fh Y k n≠some a:=by
  intro k
  induction k using Nat.strongRecOn with
  |_ k U=>
   intro a e;obtain⟨j,b,Z,e1⟩:=wts_less h w e;exact U j Z b e1
 cases e:F Y n with
 |none=>rfl
 |some a=>
  obtain⟨k,e⟩:=(F_iff h).mp e;exact absurd e (O k a)
structure Ss (Y:Sy) where
 stk:oj (Str×Y.G)
 don:oj (Str×Y.G)
noncomputable def YH (l:oj (Str×Y.G))(m:Str):om Y.G:=(l.find? λp=>decide (p.1=m)).map (·.2)
noncomputable def yet (S:Ss Y)(m:Str):om (om (om D)):=if m∈S.stk.map (·.1) then some none else match Y.g0 m with
 |none=>some (some (Y.once m))
 |some _=>(YH S.don m).map λg=>(Y.said g).map some
noncomputable def nxt (S:Ss Y):Ss Y:=match S.stk with
 | []=>S
 |(n,g)::r=>if Y.fin g=true then⟨r,S.don++ [(n,g)]⟩ else match Y.want g with
  |none=>⟨(n,Y.own g)::r,S.don⟩
  |some m=>match yet S m with
   |some (some a)=>⟨(n,Y.tk g a)::r,S.don⟩
   |some none=>⟨(n,Y.stuck g m)::r,S.don⟩
   |none=>match Y.g0 m with
    |some g'=>⟨(m,g')::(n,g)::r,S.don⟩
    |none=>S
noncomputable def nx (S:Ss Y):Nat->Ss Y
 |0=>S
 |k+1=>nxt (nx S k)
noncomputable def rest (S:Ss Y):oj Str:=Y.ns.filter λm=>decide (m∉S.stk.map (·.1))&&decide (m∉S.don.map (·.1))
noncomputable def lfts:oj (Str×Y.G)->Nat
 | []=>0
 |(_,g)::r=>Y.lft g+1+lfts r
noncomputable def mu (S:Ss Y):Nat:=lfts S.stk+(Y.M+2)*(rest S).length
variable {S:Ss Y}
theorem JG (h:yet S m=none):m∉S.stk.map (·.1)/\(∃g,Y.g0 m=some g)/\m∉S.don.map (·.1):=by
 unfold yet at h;by_cases c:m∈S.stk.map (·.1)
 ·rw [A3 c] at h;cases h
 ·rw [A2 c] at h;cases O:Y.g0 m with
  |none=>rw [O] at h;cases h
  |some g=>
   rw [O] at h;simp only [Option.map_eq_none_iff] at h;refine⟨c,⟨g,1⟩,λhm=> ?_⟩;obtain⟨p,U,rfl⟩:=A8.mp hm;have h3:(S.don.find? λq=>decide (q.1=p.1))=none:=by simpa [YH] using h
   rw [Uf] at h3;exact h3 p U (by simp)
variable {l:oj Str}
theorem W3 {p q:Str->Bool}(Z:m∈l)(hp:p m=true)(hq:q m=false)(O:∀x,q x=true->p x=true):(l.filter q).length<(l.filter p).length:=by
 induction l with
 |nil=>cases Z
 |cons x r U=>
  have le:(r.filter q).length<=(r.filter p).length:=by
   clear U Z
   induction r with
   |nil=>exact ui _
   |cons y r U=>
    rw [vq,vq];cases h1:q y with
    |true=>rw [O y h1,A3 rfl,A3 rfl];simp only [um];omega
    |false=>
     rw [A2 ub];split
     ·simp only [um];omega
     ·exact U
  rw [vq,vq];rcases A5.mp Z with rfl|hm
  ·rw [hp,hq,A3 rfl,A2 ub,um];omega
  ·have:=U hm;cases h1:q x with
   |true=>rw [O x h1,A3 rfl,A3 rfl];simp only [um];omega
   |false=>
    rw [A2 ub];split
    ·simp only [um];omega
    ·exact this
theorem nxt_mu (h:Y.Ok)(hs:S.stk≠ []):mu (nxt S)<mu S:=by
 obtain⟨stk,don⟩:=S;cases stk with
 |nil=>exact absurd rfl hs
 |cons p r=>
  obtain⟨n,g⟩:=p;have same:∀g',Y.lft g'<Y.lft g->mu (⟨(n,g')::r,don⟩:Ss Y)<mu ⟨(n,g)::r,don⟩:=by
   intro g' hl;show Y.lft g'+1+lfts r+(Y.M+2)*_<Y.lft g+1+lfts r+(Y.M+2)*_;have e:rest (⟨(n,g')::r,don⟩:Ss Y)=rest ⟨(n,g)::r,don⟩:=rfl;rw [e];omega
  unfold nxt;simp only;cases O:Y.fin g with
  |true=>
   rw [A3 rfl];show lfts r+(Y.M+2)*_<Y.lft g+1+lfts r+(Y.M+2)*_;have e:rest (⟨r,don++ [(n,g)]⟩:Ss Y)=rest ⟨(n,g)::r,don⟩:=by
    unfold rest
    congr 1
    funext x
    simp only [uw,uh,U5,List.mem_append,uC,uD,uM,<-Bool.decide_and];rw [uX];constructor
    ·rintro⟨a,b⟩;exact⟨λz=>z.elim (λz=>b (.inr z)) a,λz=>b (.inl z)⟩
    ·rintro⟨a,b⟩;exact⟨λz=>a (.inr z),λz=>z.elim b λz=>a (.inl z)⟩
   rw [e];omega
  |false=>
   rw [A2 ub];cases hw:Y.want g with
   |none=>exact same _ (h.lo g O hw)
   |some m=>
    simp only;cases hy:yet (⟨(n,g)::r,don⟩:Ss Y) m with
    |some o=>
     cases o with
     |some a=>exact same _ (h.lt g m a O hw)
     |none=>exact same _ (h.lk g m O)
    |none=>
     simp only;obtain⟨h1,⟨g',U⟩,h2⟩:=JG hy;rw [U];show Y.lft g'+1+(Y.lft g+1+lfts r)+(Y.M+2)*(rest (⟨(m,g')::(n,g)::r,don⟩:Ss Y)).length<Y.lft g+1+lfts r+(Y.M+2)*(rest (⟨(n,g)::r,don⟩:Ss Y)).length;have e:(rest (⟨(m,g')::(n,g)::r,don⟩:Ss Y)).length<(rest (⟨(n,g)::r,don⟩:Ss Y)).length:=by
      refine W3 (m:=m) (h.gn m g' U) ?_ ?_ ?_
      ·simp only [uz,v9];exact⟨h1,h2⟩
      ·simp
      ·intro x Z;simp only [uz,v9] at Z⊢;exact⟨λz=>Z.1 (uc _ z),Z.2⟩
     have l0:=h.l0 m g' U;have e2:=Nat.mul_le_mul_left (Y.M+2) (Nat.succ_le_of_lt e);rw [Nat.mul_succ] at e2;omega
noncomputable def Chn (Y:Sy):oj (Str×Y.G)->Prop
 | []=>True
 |(n,g)::r=>(∃s k,Y.g0 n=some s/\g=it Y (F Y) k s)/\Chn Y r/\∀p r',r=p::r'->Y.fin p.2=false/\Y.want p.2=some n
structure SOk (n0:Str)(S:Ss Y):Prop where
 chn:Chn Y S.stk
 nd:(S.stk.map (·.1)++S.don.map (·.1)).Nodup
 don:∀p∈S.don,∃s,Y.g0 p.1=some s/\p.2=it Y (F Y) Y.M s
 bot:(S.stk.map (·.1)).getLast? =some n0∨S.stk= []/\(S.don.map (·.1)).getLast? =some n0
theorem chn_wts {n:Str}{g:Y.G}:∀{r:oj (Str×Y.G)}{m:Str},Chn Y ((n,g)::r)->m∈r.map (·.1)->Wts Y m n:=by
 intro r
 induction r generalizing n g with
 |nil=>intro m _ h;cases h
 |cons p r ih=>
  intro m hc hm;obtain⟨O,g'⟩:=p;obtain⟨_,U,c3⟩:=hc;obtain⟨f1,w1⟩:=c3 (O,g') r rfl;obtain⟨s,k,hs,Z⟩:=U.1;have w:Wt Y O n:=⟨s,k,hs,by rwa [<-Z],by rwa [<-Z]⟩
  rcases A5.mp hm with rfl|hm
  ·exact .one w
  ·exact .more (ih U hm) w
theorem WS {l:oj (Str×Y.G)}{g:Y.G}(h:YH l m=some g):(m,g)∈l:=by
 unfold YH at h;cases e:l.find? λp=>decide (p.1=m) with
 |none=>rw [e] at h;cases h
 |some p=>
  rw [e] at h;cases uI h;have:=List.find?_some e;have hm:p.1=m:=uq this;rw [<-hm];exact U0 e
variable {n0:Str}
theorem nxt_ok (h:Y.Ok)(hs:SOk n0 S):SOk n0 (nxt S):=by
 obtain⟨stk,don⟩:=S;cases stk with
 |nil=>exact hs
 |cons p r=>
  obtain⟨n,g⟩:=p;obtain⟨chn,nd,O,bot⟩:=hs;obtain⟨⟨s,k,U,hk⟩,c2,c3⟩:=chn;have on:∀g',Y.fin g=false->step Y (F Y) g=g'->SOk n0 (⟨(n,g')::r,don⟩:Ss Y):=by
   intro g' hf e;refine⟨⟨⟨s,k+1,U,?_⟩,c2,c3⟩,nd,O,.inl ?_⟩
   ·rw [it_snoc,<-hk,e]
   ·rcases bot with b|⟨b,_⟩
    ·exact b
    ·cases b
  unfold nxt;simp only;cases hf:Y.fin g with
  |true=>
   rw [A3 rfl];refine⟨c2,?_,λq hq=> ?_,?_⟩
   ·show(r.map (·.1)++(don++ [(n,g)]).map (·.1)).Nodup;have ac:(n::(r.map (·.1)++don.map (·.1))).Nodup:=nd;rw [uw,<-vK];show((r.map (·.1)++don.map (·.1))++ [n]).Nodup;exact(List.perm_append_comm (l₁:= [n]) (l₂:=r.map (·.1)++don.map (·.1))).nodup_iff.mp ac
   ·rcases A7.mp hq with hq|hq
    ·exact O q hq
    ·cases A6.mp hq;exists s,U;show g=_;rw [hk];refine it_one (by rwa [<-hk]) (it_end h _ _ (h.l0 n s U))
   ·rcases bot with b|⟨b,_⟩
    ·cases r with
     |nil=>
      right;exists 1;have hn:n=n0:=by simpa using b
      show((don++ [(n,g)]).map (·.1)).getLast? =some n0;rw [uw,hn];simp
     |cons q r=>
      left
      simpa [UJ] using b
    ·cases b
  |false=>
   rw [A2 ub];have aa:step Y (F Y) g=match Y.want g with
     |none=>Y.own g
     |some m=>match F Y m with
      |some a=>Y.tk g a
      |none=>Y.stuck g m:=by
    unfold step;rw [hf,A2 ub]
   cases hw:Y.want g with
   |none=>exact on _ hf (by rw [aa,hw])
   |some m=>
    rw [hw] at aa;simp only at aa⊢;cases Z:yet (⟨(n,g)::r,don⟩:Ss Y) m with
    |some o=>
     have hF:F Y m=o:=by
      unfold yet at Z;by_cases c:m∈((n,g)::r).map (·.1)
      ·rw [A3 c] at Z;cases Z;have w:Wt Y n m:=⟨s,k,U,by rwa [<-hk],by rwa [<-hk]⟩
       rcases A5.mp c with rfl|hm
       ·exact Xw h (.one w)
       ·exact Xw h (.more (chn_wts (g:=g) ⟨⟨s,k,U,hk⟩,c2,c3⟩ hm) w)
      ·rw [A2 c] at Z;cases hg:Y.g0 m with
       |none=>
        rw [hg] at Z;cases Z;exact F_once h hg
       |some gm=>
        rw [hg] at Z;simp only at Z;cases hd:YH don m with
        |none=>rw [hd] at Z;cases Z
        |some gd=>
         rw [hd] at Z;cases Z;obtain⟨s',e1,e2⟩:=O _ (WS hd);rw [hg] at e1;cases e1;have e3:gd=it Y (F Y) Y.M gm:=e2;rw [F_run h hg,e3]
     cases o with
     |some a=>exact on _ hf (by rw [aa,hF])
     |none=>exact on _ hf (by rw [aa,hF])
    |none=>
     simp only;obtain⟨h1,⟨g',hg⟩,h2⟩:=JG Z;rw [hg];refine⟨⟨⟨g',(0),hg,1⟩,⟨⟨s,k,U,hk⟩,c2,c3⟩,λq r' e=> ?_⟩,?_,O,.inl ?_⟩
     ·cases e;exact⟨hf,hw⟩
     ·show(m::(((n,g)::r).map (·.1)++don.map (·.1))).Nodup;rw [U4];refine⟨λz=> ?_,nd⟩;rcases A7.mp z with z|z
      ·exact h1 z
      ·exact h2 z
     ·rcases bot with b|⟨b,_⟩
      ·show(m::n::r.map (·.1)).getLast? =some n0;rwa [UJ]
      ·cases b
theorem nx_ok (h:Y.Ok){n0:Str}{S:Ss Y}(O:SOk n0 S):∀k,SOk n0 (nx S k)
 |0=>O
 |k+1=>nxt_ok h (nx_ok h O k)
theorem nx_stop {S:Ss Y}{k:Nat}(h:(nx S k).stk= []):∀j,nx S (k+j)=nx S k
 |0=>rfl
 |j+1=>by
  show nxt (nx S (k+j))=_;rw [nx_stop h j];unfold nxt;rw [h]
theorem nx_one {k:Nat}(O:(nx S k).stk= [])(U:(nx S j).stk= []):nx S k=nx S j:=by
 rcases Nat.le_total k j with h|h
 ·obtain⟨d,rfl⟩:=UO h;exact(nx_stop O d).symm
 ·obtain⟨d,rfl⟩:=UO h;exact nx_stop U d
noncomputable def S0 (Y:Sy)(n:Str):Ss Y:=match Y.g0 n with
 |none=>⟨[],[]⟩
 |some g=>⟨[(n,g)],[]⟩
theorem S0_ok {n:Str}{g:Y.G}(O:Y.g0 n=some g):SOk n (S0 Y n):=by
 unfold S0;rw [O];exact⟨⟨⟨g,(0),O,1⟩,trivial,λ_ _ e=>by cases e⟩,by simp,λ_ h=>(by cases h),.inl rfl⟩
end Sy
end K68
namespace K68
open PySem L2 PyProof.Rows
noncomputable def ThS (d:D):Prop:=(∃z,d=flt z)∨(∃e,d= .tup [.str "said",e]/\isT e=true)∨∃(u z:Str),d= .tup [.str "asks",.tup [.str u,.str z]]/\isT (.str z)=true/\(u="names"∨(u="thing"∨u="has")/\nm z=true)
theorem isNm_st {d:D}(h:isNm d=true):∃z,d= .str z/\nm z=true:=by
 cases d with
 |str z=>exact⟨z,1,h⟩
 |_=>cases h
variable {own:Str}{n:Nat}{r:Rw}{e:D}
theorem rowO_sh {B:Str->D}{p:Int}(hr:jO n 300 r)(h:Tr B)(O:rowO own r B p= .stop e):ThS e:=by
 unfold rowO at O;obtain⟨ks,hk,hp⟩:=id hr;obtain⟨U,ps⟩:=r;by_cases c1:U∈MKR
 ·rw [A3 c1] at O;simp only at O;generalize made U B own ps=dm at O;have aa:(if isT dm=true then Out.go (setB B (b0 ps) dm) (p+1) else .stop (flt "big"))= .stop e->ThS e:=by
   intro hq;by_cases c:isT dm=true
   ·rw [A3 c] at hq;cases hq
   ·rw [A2 c] at hq;cases hq;exact .inl ⟨0⟩
  cases dm with
  |non=>cases O;exact .inl ⟨0⟩
  |_=>exact aa O
 rw [A2 c1] at O;by_cases c2:U∈ASK
 ·rw [A3 c2] at O;cases O;obtain⟨_,_,ek⟩:=wj _ hk c2;simp only at ek;subst ek;obtain⟨z0,z1,rfl,h0,h1⟩:=ZQ hp;have hT:=h z1 h1;show ThS (askF U (B z1));unfold askF;by_cases d1:U="names"
  ·rw [A3 d1];by_cases Z:isStr (B z1)=true
   ·rw [A3 Z];obtain⟨z,ez⟩:∃z,B z1= .str z:=by
     cases hb:B z1 with
     |str z=>exact⟨z,1⟩
     |_=>rw [hb] at Z;cases Z
    rw [ez] at hT⊢;exact .inr (.inr ⟨_,z,1,hT,.inl rfl⟩)
   ·rw [A2 Z];exact .inl ⟨0⟩
  ·rw [A2 d1];by_cases Z:isNm (B z1)=true
   ·rw [A3 Z];obtain⟨z,ez,hz⟩:=isNm_st Z;rw [ez] at hT⊢;refine .inr (.inr ⟨_,z,1,hT,.inr ⟨?_,hz⟩⟩);split
    ·exact .inl rfl
    ·exact .inr rfl
   ·rw [A2 Z];exact .inl ⟨0⟩
 rw [A2 c2] at O;by_cases c3:U="say"
 ·rw [A3 c3] at O;cases O;subst c3;have ek:=frm_say _ hk rfl;simp only at ek;subst ek;obtain⟨z0,rfl,h0⟩:=sh_b hp;exact .inr (.inl ⟨0,h z0 h0⟩)
 rw [A2 c3] at O;by_cases c4:U="fault"
 ·rw [A3 c4] at O;cases O;exact .inl ⟨0⟩
 rw [A2 c4] at O;by_cases c5:jump U B ps=true
 ·rw [A3 c5] at O;cases O
 ·rw [A2 c5] at O;cases O
theorem runS_sh {rs:oj Rw}{own:Str}(U:ye rs):∀(f:Nat) (B:Str->D) (p:Int) (n:Nat) (gs:oj D),Tr B->1<=p->p<=rs.length+1->ThS (runS rs own gs f B p n).th
 |0,B,p,n,gs,hT,h1,h2=>by
  show ThS (if p>rs.length then flt "silent" else flt "long")
  split<;>exact .inl ⟨0⟩
 |f+1,B,p,n,gs,hT,h1,h2=>by
  unfold runS;by_cases c:p>rs.length
  ·rw [A3 c];exact .inl ⟨0⟩
  ·rw [A2 c];have O:=U.ok _ (kY h1 ())
   have hok:=rowO_ok (own:=own) O hT h1 ()
   cases Z:rowO own (jR rs p) B p with
   |go B' p'=>
    rw [Z] at hok;exact runS_sh U f B' p' (n+1) gs hok.1 hok.2.1 hok.2.2
   |stop e=>exact rowO_sh O hT Z
variable {rs:oj Rw}
theorem ansS_sh (O:ye rs){r:Rn}{a:D}(h:RnOk rs r)(U:QR r.th=true)(ha:X8 a):ThS (ansS rs own r a).th:=by
 obtain⟨k1,_⟩:=h.ask U;unfold ansS;cases hn:wl a with
 |true=>rw [A3 rfl];exact .inl ⟨0⟩
 |false=>
  rw [A2 ub];have Z:isT a=true:=by
   rcases ha with rfl|ha
   ·cases hn
   ·exact ha
  exact runS_sh O _ _ _ _ _ (kh h.tr Z) (by have:=h.p1;omega) ()
theorem runS_n {rs:oj Rw}{own:Str}:∀(f:Nat) (B:Str->D) (p:Int) (n:Nat) (gs:oj D),QR (runS rs own gs f B p n).th=true->1<=f/\n<=(runS rs own gs f B p n).n
 |0,B,p,n,gs,h=>by
  have h:QR (if p>rs.length then flt "silent" else flt "long")=true:=h
  split at h<;>exact absurd h ()
 |f+1,B,p,n,gs,h=>by
  exists ()
  unfold runS at h⊢;by_cases c:p>rs.length
  ·rw [A3 c] at h;exact absurd h (show¬QR (flt "silent")=true by decide+kernel)
  ·rw [A2 c] at h⊢;cases U:rowO own (jR rs p) B p with
   |go O p'=>
    rw [U] at h;have:=(runS_n f O p' (n+1) gs h).2;show n<=(runS rs own gs f O p' (n+1)).n;omega
   |stop e=>
    show n<=(if QR e=true then n else n+1)
    split<;>omega
theorem ansS_n {r:Rn}{a:D}(h:QR (ansS rs own r a).th=true):r.n+1<300/\r.n+1<=(ansS rs own r a).n:=by
 unfold ansS at h⊢;cases hn:wl a with
 |true=>rw [hn,A3 rfl] at h;exact absurd h (show¬QR (flt "lack")=true by decide+kernel)
 |false=>
  rw [hn,A2 ub] at h;rw [A2 ub];have:=runS_n _ _ _ _ _ h;exact⟨(),this.2⟩
structure Gp where
 n:Str
 mb:D
 ra:oj D
 run:om (oj Rw×Rn)
 en:om D
noncomputable def enOf (r:Rn):om D:=if QR r.th=true then none else some r.th
noncomputable def begP (g:Gp)(d:D):Gp:=if wl d=true then{g with en:=some (flt "lack")} else match yc d with
 |none=>{g with en:=some (flt "rule")}
 |some rs=>{g with run:=some (rs,R0 rs g.n),en:=enOf (R0 rs g.n)}
noncomputable def Yq (g:Gp)(d:D):Gp:=match g.run with
 |none=>begP {g with ra:= [.tup [.tup [.str "rule",g.mb],d]]} d
 |some (rs,r)=>{g with run:=some (rs,ansS rs g.n r d),en:=enOf (ansS rs g.n r d)}
noncomputable def yZ (g:Gp):D:=match g.run with
 |none=> .tup [.str "rule",g.mb]
 |some (_,r)=>zf r.th
noncomputable def JO (qs:oj (Str×D))(k z:Str):D:=if k="has" then .str (if z∈qs.map (·.1) then "yes" else "no") else rowT (rowG [] ((qs.map (·.1)).filter λy=>Txt.startswith y z))
noncomputable def isHN (k:Str):Bool:=decide (k="has")||decide (k="names")
noncomputable def QY (g:Gp):om Str:=match yZ g with
 | .tup [.str k,.str z]=>if isHN k=true then none else some z
 |_=>none
noncomputable def ownP (qs:oj (Str×D))(g:Gp):Gp:=match yZ g with
 | .tup [.str k,.str z]=>Yq g (JO qs k z)
 |_=>{g with en:=some (flt "name")}
noncomputable def xM:D->om D
 | .tup [.str k,v]=>if k="said" then some v else none
 |_=>none
noncomputable def Zk (g:Gp):om D:=g.en.bind xM
noncomputable def stkP (g:Gp)(m:Str):Gp:={g with en:=some (.tup [.str "stuck",.str m])}
noncomputable def lftP (g:Gp):Nat:=match g.en with
 |some _=>0
 |none=>match g.run with
  |none=>302
  |some (_,r)=>1+(300-r.n)
noncomputable def g0D (m:Str):D->om Gp
 | .tup [.str k,e]=>if k="leaf" then none else if k="made" then some ⟨m,e,[],none,none⟩ else some (begP ⟨m,.non,[],none,none⟩ e)
 |_=>none
noncomputable def onceD:D->om D
 | .tup [.str _,e]=>some e
 |_=>none
noncomputable def SyP (qs:oj (Str×D)):Sy:=⟨Gp,λg=>g.en.isSome,QY,ownP qs,λg a=>Yq g (a.getD .non),stkP,Zk,λm=>g0D m (qE qs m),λm=>onceD (qE qs m),lftP,(302),qs.map (·.1)⟩
variable {g:Gp}
theorem lft_beg (h:g.run=none)(d:D):g.en=none->lftP (begP g d)<302:=by
 intro O;unfold begP;split
 ·show(0:Nat)<302;omega
 ·cases U:yc d with
  |none=>show(0:Nat)<302;omega
  |some rs=>
   show(match enOf (R0 rs g.n) with|some _=>0|none=>1+(300-(R0 rs g.n).n))<302
   cases enOf (R0 rs g.n) with
   |some d=>show(0:Nat)<302;omega
   |none=>show(1+(300-(R0 rs g.n).n):Nat)<302;omega
theorem lft_take (O:g.en=none)(d:D):lftP (Yq g d)<lftP g:=by
 unfold Yq;cases U:g.run with
 |none=>
  have e:lftP g=302:=by unfold lftP;rw [O,U]
  rw [e];exact lft_beg (g:=⟨g.n,g.mb,[.tup [.tup [.str "rule",g.mb],d]],none,g.en⟩) rfl d O
 |some p=>
  obtain⟨rs,r⟩:=p;have e:lftP g=1+(300-r.n):=by unfold lftP;rw [O,U]
  rw [e];show(match enOf (ansS rs g.n r d) with|some _=>0|none=>1+(300-(ansS rs g.n r d).n))<_
  unfold enOf;by_cases c:QR (ansS rs g.n r d).th=true
  ·rw [A3 c];have:=ansS_n c;show 1+(300-(ansS rs g.n r d).n)<1+(300-r.n);omega
  ·rw [A2 c];show 0<1+(300-r.n);omega
variable {qs:oj (Str×D)}{z:Str}
theorem Yj (h:z∉qs.map (·.1)):qE qs z= .non:=by
 unfold qE;have:(qs.find? λp=>decide (p.1=z))=none:=by
  rw [Uf];intro p O e;exact h (A8.mpr ⟨p,O,uq e⟩)
 rw [this]
 rfl
theorem ya (qs:oj (Str×D)):(SyP qs).Ok where
 fs:=λ_ _=>rfl
 ss:=λg m=>by
  show xM (.tup [.str "stuck",.str m])=none;unfold xM;exact A2 ()
 sf:=λg v h=>by
  have h:Zk g=some v:=h;unfold Zk at h;show g.en.isSome=true;cases O:g.en with
  |none=>rw [O] at h;cases h
  |some d=>rfl
 lo:=λg U Z=>by
  have O:g.en=none:=by
   cases O:g.en with
   |none=>rfl
   |some d=>have U:g.en.isSome=false:=U;rw [O] at U;cases U
  show lftP (ownP qs g)<lftP g;unfold ownP;split
  ·exact lft_take O _
  ·have:0<lftP g:=by
    unfold lftP;rw [O];simp only;split<;>omega
   exact this
 lt:=λg m a U Z=>by
  have O:g.en=none:=by
   cases O:g.en with
   |none=>rfl
   |some d=>have U:g.en.isSome=false:=U;rw [O] at U;cases U
  exact lft_take O _
 lk:=λg m U=>by
  have O:g.en=none:=by
   cases O:g.en with
   |none=>rfl
   |some d=>have U:g.en.isSome=false:=U;rw [O] at U;cases U
  show 0<lftP g;unfold lftP;rw [O];simp only;split<;>omega
 l0:=λm g h=>by
  have h:g0D m (qE qs m)=some g:=h;show lftP g<=302;unfold g0D at h;split at h
  ·split at h
   ·cases h
   ·split at h
    ·cases h;exact ui _
    ·cases h;exact Uj (lft_beg rfl _ rfl)
  ·cases h
 gn:=λm g h=>by
  have h:g0D m (qE qs m)=some g:=h;show m∈qs.map (·.1);by_cases c:m∈qs.map (·.1)
  ·exact c
  ·rw [Yj c] at h;cases h
noncomputable def EnS (d:D):Prop:=(∃z,d=flt z)∨(∃e,d= .tup [.str "said",e]/\isT e=true)∨∃z,d= .tup [.str "stuck",.str z]
structure GI (g:Gp):Prop where
 n:nm g.n=true
 run:∀rs r,g.run=some (rs,r)->ye rs/\RnOk rs r/\ThS r.th/\(g.en=none->QR r.th=true)
 no:g.run=none->g.en=none->∃z,g.mb= .str z/\nm z=true
 en:∀d,g.en=some d->EnS d
 ra:nL g.ra=true/\dpL g.ra<=30/\g.ra.length<=1
theorem en_of {r:Rn}(h:ThS r.th){d:D}(e:enOf r=some d):EnS d:=by
 unfold enOf at e;by_cases c:QR r.th=true
 ·rw [A3 c] at e;cases e
 ·rw [A2 c] at e;cases e;rcases h with h|h|⟨u,z,h,_⟩
  ·exact .inl h
  ·exact .inr (.inl h)
  ·rw [h] at c;exact absurd (show decide (("asks":Str)="asks")=true from ue rfl) c
theorem en_none {r:Rn}(e:enOf r=none):QR r.th=true:=by
 unfold enOf at e;by_cases c:QR r.th=true
 ·exact c
 ·rw [A2 c] at e;cases e
theorem R0_sh {n:Str}(h:ye rs):ThS (R0 rs n).th:=runS_sh h 300 B0 1 0 [] B0_tr () (by have:=h.n0;omega)
theorem gi_beg (d:D)(h1:nm g.n=true)(h2:g.run=none)(h3:nL g.ra=true/\dpL g.ra<=30/\g.ra.length<=1):GI (begP g d):=by
 unfold begP;split
 ·exact⟨h1,λrs r e=>(by rw [show g.run=some (rs,r) from e] at h2;cases h2),(λ_ e=>by cases e),λd e=>by cases e;exact .inl ⟨0⟩,h3⟩
 ·cases U:yc d with
  |none=>exact⟨h1,λrs r e=>(by rw [show g.run=some (rs,r) from e] at h2;cases h2),(λ_ e=>by cases e),λd e=>by cases e;exact .inl ⟨0⟩,h3⟩
  |some rs=>
   have O:=(read_rule U).2;exact⟨h1,λZ r e=>by cases e;exact⟨O,R0_ok O,R0_sh O,λe=>en_none e⟩,λe _=>(by cases e),λd e=>en_of (R0_sh O) e,h3⟩
theorem gi_take (h:GI g)(U:g.en=none){d:D}(ha:X8 d):GI (Yq g d):=by
 unfold Yq;cases Z:g.run with
 |none=>
  obtain⟨z,hz,_⟩:=h.no Z U;refine gi_beg d h.n rfl ?_;have O:nD d=true/\dp d<=12:=by
   rcases ha with rfl|ha
   ·exact⟨1,by simp [dp]⟩
   ·exact⟨WK (yB ha),JX ha⟩
  rw [hz];refine⟨?_,?_,ui _⟩
  ·simp only [nL,nD,O.1,vQ]
  ·simp only [dpL,dp];have:=O.2;omega
 |some p=>
  obtain⟨rs,r⟩:=p;obtain⟨k1,k2,k3,k4⟩:=h.run rs r Z;have hs:=ansS_sh (own:=g.n) k1 k2 (k4 U) ha;exact⟨h.n,λaa r' e=>by cases e;exact⟨k1,ansS_ok k1 k2 (k4 U) ha,hs,λe=>en_none e⟩,λe _=>(by cases e),λd e=>en_of hs e,h.ra⟩
theorem gi_stk (h:GI g)(m:Str):GI (stkP g m):=⟨h.n,λrs r e=>⟨(h.run rs r e).1,(h.run rs r e).2.1,(h.run rs r e).2.2.1,(λz=>by cases z)⟩,(λ_ e=>by cases e),λd e=>by cases e;exact .inr (.inr ⟨m,1⟩),h.ra⟩
theorem rowG_tree:∀(zs O:oj Str),isT (rowT O)=true->isT (rowT (rowG O zs))=true
 | [],O,h=>h
 |z::r,O,h=>by
  unfold rowG;split
  ·rename_i c;exact rowG_tree r _ c
  ·exact h
theorem look_ok (U:Qw qs){k:Str}(z:Str)(hk:isHN k=true):isT (JO qs k z)=true/\ansB k (JO qs k z)=true:=by
 unfold JO;by_cases c:k="has"
 ·rw [A3 c,c];split<;>exact⟨(),()⟩
 ·rw [A2 c];have O:isT (rowT (rowG [] ((qs.map (·.1)).filter λy=>Txt.startswith y z)))=true:=rowG_tree _ [] ()
  exists O;have Z:isRow (rowT (rowG [] ((qs.map (·.1)).filter λy=>Txt.startswith y z)))=true:=by
   show List.all (List.map D.str _) isNm=true;rw [U9];intro x hx;obtain⟨y,hy,rfl⟩:=A8.mp hx;rcases rowG_mem _ _ _ hy with h|h
   ·cases h
   ·exact U.1.1.1 y (A9.mp h).1
  unfold ansB;rw [A2 (show¬wl (rowT _)=true from ub),A3 O,A2 c,Z,Bool.or_true]
theorem JD (h:GI g)(he:g.en=none)(U:QY g=none):∃rs r k z,g.run=some (rs,r)/\r.th= .tup [.str "asks",.tup [.str k,.str z]]/\isHN k=true/\isT (.str z)=true/\ownP qs g=Yq g (JO qs k z):=by
 unfold QY at U;cases Z:g.run with
 |none=>
  obtain⟨z,hz,_⟩:=h.no Z he;have e:yZ g= .tup [.str "rule",.str z]:=by unfold yZ;rw [Z,hz]
  rw [e] at U;simp only [show isHN "rule"=false by decide+kernel,A2 ub] at U
  cases U
 |some p=>
  obtain⟨rs,r⟩:=p;obtain⟨k1,k2,k3,k4⟩:=h.run rs r Z;have O:=k4 he;rcases k3 with⟨z,e⟩|⟨d,e,_⟩|⟨u,z,e,ht,hu⟩
  ·rw [e] at O;exact absurd O (by show¬decide (("fault":Str)="asks")=true;decide+kernel)
  ·rw [e] at O;exact absurd O (by show¬decide (("said":Str)="asks")=true;decide+kernel)
  ·have e2:yZ g= .tup [.str u,.str z]:=by unfold yZ;rw [Z];show zf r.th=_;rw [e];rfl
   rw [e2] at U;simp only at U;cases hk:isHN u with
   |false=>rw [hk,A2 ub] at U;cases U
   |true=>exact⟨rs,r,u,z,1,e,hk,ht,by unfold ownP;rw [e2]⟩
variable {m:Str}
theorem JL (h:GI g)(he:g.en=none)(O:QY g=some m):nm m=true/\((g.run=none/\g.mb= .str m)∨∃rs r,g.run=some (rs,r)/\r.th= .tup [.str "asks",.tup [.str "thing",.str m]]):=by
 unfold QY at O;cases Z:g.run with
 |none=>
  obtain⟨z,hz,hn⟩:=h.no Z he;have e:yZ g= .tup [.str "rule",.str z]:=by unfold yZ;rw [Z,hz]
  rw [e] at O;simp only [show isHN "rule"=false by decide+kernel,A2 ub] at O
  cases O;exact⟨hn,.inl ⟨1,hz⟩⟩
 |some p=>
  obtain⟨rs,r⟩:=p;obtain⟨k1,k2,k3,k4⟩:=h.run rs r Z;have U:=k4 he;rcases k3 with⟨z,e⟩|⟨d,e,_⟩|⟨u,z,e,ht,hu⟩
  ·rw [e] at U;exact absurd U (by show¬decide (("fault":Str)="asks")=true;decide+kernel)
  ·rw [e] at U;exact absurd U (by show¬decide (("said":Str)="asks")=true;decide+kernel)
  ·have e2:yZ g= .tup [.str u,.str z]:=by unfold yZ;rw [Z];show zf r.th=_;rw [e];rfl
   rw [e2] at O;simp only at O;rcases hu with rfl|⟨rfl|rfl,hn⟩
   ·rw [A3 ()] at O;cases O
   ·rw [A2 ()] at O
    cases O;exact⟨hn,.inr ⟨rs,r,1,e⟩⟩
   ·rw [A3 ()] at O;cases O
theorem gi_own (U:Qw qs)(h:GI g)(O:g.en=none)(Z:QY g=none):GI (ownP qs g):=by
 obtain⟨rs,r,k,z,_,_,hk,_,e⟩:=JD (qs:=qs) h O Z;rw [e];exact gi_take h O (.inr (look_ok U z hk).1)
theorem zq (U:Qw qs)(h:m∈qs.map (·.1)):nm m=true/\∃k e,qE qs m= .tup [.str k,e]/\(k="made"->∃z,e= .str z/\nm z=true)/\(k≠"made"->(k="leaf"∨k="rule")/\isT e=true):=by
 have hs:=U.1.2 _ (dat_mem U.1.1.2 h);obtain⟨⟨k,e,O⟩,h2,_⟩:=hs;have O:qE qs m= .tup [.str k,e]:=O;have h2:isSrc (qE qs m)=true:=h2;rw [O] at h2;have e1:isSrc (.tup [.str k,e])=if eqD (.str k) (.str "made")=true then isNm e else(eqD (.str k) (.str "leaf")||eqD (.str k) (.str "rule"))&&isT e:=rfl
 rw [e1] at h2;have Z:∀y:Str,eqD (.str k) (.str y)=decide (k=y):=λy=>rfl;rw [Z,Z,Z] at h2;refine⟨U.1.1.1 m h,k,e,O,λc=> ?_,λc=> ?_⟩
 ·rw [ue c,A3 rfl] at h2;exact isNm_st h2
 ·rwa [ug c,A2 ub,uz,Bool.or_eq_true,v9,v9] at h2
theorem gi_g0 (U:Qw qs)(h:g0D m (qE qs m)=some g):GI g/\g.n=m:=by
 have hm:m∈qs.map (·.1):=(ya qs).gn m g h;obtain⟨hn,k,e,hd,h1,h2⟩:=zq U hm;rw [hd] at h;unfold g0D at h;simp only at h;have O:nL ([]:oj D)=true/\dpL ([]:oj D)<=30/\([]:oj D).length<=1:=⟨1,by simp [dpL],v7 _⟩
 split at h
 ·cases h
 ·split at h
  ·rename_i c
   cases h;obtain⟨z,rfl,Z⟩:=h1 c;exact⟨⟨hn,λrs r e=>(by cases e),λ_ _=>⟨z,1,Z⟩,λd e=>(by cases e),O⟩,1⟩
  ·cases h;exists gi_beg e hn rfl O;unfold begP;split
   ·rfl
   ·split<;>rfl
theorem said_ok (h:GI g){v:D}(e:Zk g=some v):isT v=true:=by
 unfold Zk at e;cases O:g.en with
 |none=>rw [O] at e;cases e
 |some d=>
  rw [O] at e;have e:xM d=some v:=e;rcases h.en d O with⟨z,rfl⟩|⟨x,rfl,U⟩|⟨z,rfl⟩
  ·exact absurd e (by unfold xM flt;simp only;rw [A2 ()];exact λh=>by cases h)
  ·have Z:xM (.tup [.str "said",x])=some x:=by unfold xM;dsimp only;exact A3 rfl
   rw [Z] at e;cases e;exact U
  ·exact absurd e (by unfold xM;simp only;rw [A2 ()];exact λh=>by cases h)
theorem take_n (g:Gp)(d:D):(Yq g d).n=g.n:=by
 unfold Yq;split
 ·unfold begP;split
  ·rfl
  ·split<;>rfl
 ·rfl
theorem own_n (qs:oj (Str×D))(g:Gp):(ownP qs g).n=g.n:=by
 unfold ownP;split
 ·exact take_n _ _
 ·rfl
noncomputable def SGI {qs:oj (Str×D)}(S:Sy.Ss (SyP qs)):Prop:=∀p:Str×Gp,p∈S.stk∨p∈S.don->GI p.2/\p.2.n=p.1
theorem yet_ok (Z:Qw qs){S:Sy.Ss (SyP qs)}(h:SGI S){a:om D}(e:Sy.yet S m=some (some a)):X8 (a.getD .non):=by
 unfold Sy.yet at e;split at e
 ·cases e
 ·split at e
  ·rename_i O
   cases e;have O:g0D m (qE qs m)=none:=O;show X8 ((onceD (qE qs m)).getD .non);by_cases hm:m∈qs.map (·.1)
   ·obtain⟨hn,k,e,hd,h1,h2⟩:=zq Z hm;rw [hd] at O⊢;unfold g0D at O;simp only at O;by_cases c:k="leaf"
    ·exact .inr (h2 (by rw [c];decide+kernel)).2
    ·rw [A2 c] at O;split at O<;>cases O
   ·rw [Yj hm];exact .inl rfl
  ·cases hd:Sy.YH S.don m with
   |none=>rw [hd] at e;cases e
   |some g=>
    rw [hd] at e;have e:(Zk g).map some=some a:=uI e;cases U:Zk g with
    |none=>rw [U] at e;cases e
    |some v=>
     rw [U] at e;cases e;exact .inr (said_ok (h (m,g) (.inr (Sy.WS hd))).1 U)
theorem nxt_gi (hq:Qw qs){S:Sy.Ss (SyP qs)}(h:SGI S):SGI (Sy.nxt S):=by
 obtain⟨stk,don⟩:=S;cases stk with
 |nil=>exact h
 |cons p r=>
  obtain⟨n,g⟩:=p;obtain⟨U,hn⟩:=h (n,g) (.inl uf);have on:∀g':Gp,GI g'->g'.n=n->SGI #[Y,(n,g')::r,don]:=by
   intro g' h1 h2 p O;rcases O with O|O
   ·rcases A5.mp O with rfl|O
    ·exact⟨h1,h2⟩
    ·exact h p (.inl (uc _ O))
   ·exact h p (.inr O)
  unfold Sy.nxt;simp only;by_cases hf:(SyP qs).fin g=true
  ·rw [A3 hf];intro p O;rcases O with O|O
   ·exact h p (.inl (uc _ O))
   ·rcases A7.mp O with O|O
    ·exact h p (.inr O)
    ·cases A6.mp O;exact⟨U,hn⟩
  ·rw [A2 hf];have Z:Gp.en g=none:=by
    cases Z:Gp.en g with
    |none=>rfl
    |some d=>exact absurd (show(Gp.en g).isSome=true by rw [Z];rfl) hf
   cases hw:(SyP qs).want g with
   |none=>exact on _ (gi_own hq U Z hw) ((own_n qs g).trans hn)
   |some m=>
    simp only;cases hy:Sy.yet #[Y,(n,g)::r,don] m with
    |some o=>
     cases o with
     |some a=>exact on _ (gi_take U Z (yet_ok hq h hy)) ((take_n _ _).trans hn)
     |none=>exact on _ (gi_stk U m) hn
    |none=>
     obtain⟨_,⟨g',e⟩,_⟩:=Sy.JG hy;simp only;rw [e];intro p O;rcases O with O|O
     ·rcases A5.mp O with rfl|O
      ·exact gi_g0 hq e
      ·exact h p (.inl O)
     ·exact h p (.inr O)
structure Oc where
 (x dx px ls du dr df:o3)
noncomputable def ofs (o:Oc):oj (Str×V):= [("given_project",.ref o.px),("stack",.ref o.ls),("under_way",.ref o.du),("full_runs",.ref o.dr),("found",.ref o.df)]
noncomputable def OMT:oj Str:= ["go_through","enter","settle","runner","leave","go_on","answer_yet","begin_anew"]
theorem of_gp (o:Oc):(ofs o).lookup ("given_project":Str)=some (.ref o.px):=rfl
theorem of_st (o:Oc):(ofs o).lookup ("stack":Str)=some (.ref o.ls):=rfl
theorem of_uw (o:Oc):(ofs o).lookup ("under_way":Str)=some (.ref o.du):=rfl
theorem of_fr (o:Oc):(ofs o).lookup ("full_runs":Str)=some (.ref o.dr):=rfl
theorem of_fd (o:Oc):(ofs o).lookup ("found":Str)=some (.ref o.df):=rfl
theorem Zz (o:Oc):∀m∈OMT,(ofs o).lookup m=none:=by
 intro m hm;simp only [OMT,uC,uD,uM] at hm;rcases hm with rfl|rfl|rfl|rfl|rfl|rfl|rfl|rfl<;>rfl
structure Kp (L:oj o3)(H H':Hp):Prop where
 kept:∀b ob,H b=some ob->b∉L->H' b=some ob
 tk:Tk H H'
variable {L:oj o3}{H H':Hp}
theorem Kp.of (s:Same H H'):Kp L H H':=⟨λb ob h _=>s b ob h,s.tk⟩
variable {H1 H2:Hp}
theorem Kp.trans (h:Kp L H H1)(k:Kp L H1 H2):Kp L H H2:=⟨λb ob e n=>k.kept b ob (h.kept b ob e n) n,h.tk.trans k.tk⟩
variable {p:o3}
theorem Kp.updD {xs ys:oj (Key×V)}(h:H p=some (.dK xs))(O:p∈L):Kp L H (upd H p (.dK ys)):=⟨λb ob e n=>by have nb:b≠p:=(λz=>n (by rwa [z]));rwa [qh nb],Tk.updD h⟩
theorem Z6 {κ:Type}[DecidableEq κ](k j:κ):∀kvs:oj (κ×V),valV (Y5 kvs k) j=if j=k then none else valV kvs j
 | []=>by show none=_;split<;>rfl
 |p::r=>by
  by_cases c:p.1=k
  ·rw [dropK_pos c,Z6 k j r];by_cases d:j=k
   ·rw [A3 d,A3 d]
   ·rw [A2 d,A2 d,QG (λz=>d (z.symm.trans c))]
  ·rw [dropK_neg c];by_cases d:p.1=j
   ·rw [QO d,A2 (λz=>c (d.trans z)),QO d]
   ·rw [QG d,Z6 k j r,QG d]
variable {C:o3}
theorem QX.kp {x:o3}(h:QX C H x qs)(k:Kp L H H')(Z:∀p∈L,(∃xs,H p=some (.lst xs))∨(∃xs,H p=some (.dK xs))∨H p=none):QX C H' x qs:=by
 obtain⟨dx,d,o,vs,O,U,e3,e4⟩:=h;have n1:x∉L:=λz=>by rcases Z x z with⟨_,e⟩|⟨_,e⟩|e<;>rw [e] at O<;>cases O
 have n2:d∉L:=λz=>by rcases Z d z with⟨_,e⟩|⟨_,e⟩|e<;>rw [e] at U<;>cases U
 exact⟨dx,d,o,vs,k.kept _ _ O n1,k.kept _ _ U n2,e3,e4.mono k.tk⟩
structure OAt (CO CP:o3)(H:Hp)(o:Oc)(qs:oj (Str×D)):Prop where
 e:H o.x=some (.ins CO o.dx (ofs o))
 p:QX CP H o.px qs
variable {CO CP:o3}
theorem OAt.kp {o:Oc}(h:OAt CO CP H o qs)(k:Kp L H H')(O:∀p∈L,(∃xs,H p=some (.lst xs))∨(∃xs,H p=some (.dK xs))∨H p=none):OAt CO CP H' o qs:=by
 refine⟨k.kept _ _ h.e (λz=> ?_),h.p.kp k O⟩;have U:=h.e;rcases O o.x z with⟨_,e⟩|⟨_,e⟩|e<;>rw [e] at U<;>cases U
noncomputable def UkOk {qs:oj (Str×D)}(S:Sy.Ss (SyP qs))(uk:oj (Key×V)):Prop:=∀m:Str,(valV uk (Sum.inr m)).isSome=decide (m∈S.stk.map (·.1))
noncomputable def FdOk {qs:oj (Str×D)}(H:Hp)(S:Sy.Ss (SyP qs))(fk:oj (Key×V)):Prop:=∀(m:Str) (g:Gp),g0D m (qE qs m)=some g->
 (∀g':Gp,Sy.YH S.don m=some g'->∃v,valV fk (Sum.inr m)=some v/\Is H (xL (g'.en.getD .non)) v)/\(Sy.YH S.don m=none->valV fk (Sum.inr m)=none)
variable {fk:oj (Key×V)}
theorem FdOk.mono {S:Sy.Ss (SyP qs)}(h:FdOk H S fk)(t:Tk H H'):FdOk H' S fk:=λm g O=>⟨λg' e=>let⟨v,a,b⟩:=(h m g O).1 g' e;⟨v,a,b.mono t⟩,(h m g O).2⟩
noncomputable def ansIs:om (om D)->D->Prop
 |some (some v),d=>d= .tup [.str "value",v]
 |some none,d=>d= .tup [.str "lack"]
 |none,d=>∃k r,d= .tup (.str k::r)/\k≠"value"/\k≠"lack"
noncomputable def YetIs {qs:oj (Str×D)}(H:Hp)(S:Sy.Ss (SyP qs))(m:Str)(v:V):Prop:=match Sy.yet S m with
 |none=>v= .non
 |some o=>∃d,Is H d v/\ansIs o d
inductive sp_yet (CO CP:Addr) (vs:List V) (H:Hp) (Q:VK) (E_:XK):Prop
 |mk (o:Oc) (m:Str) (qs:List (Str×D)) (S:Sy.Ss (SyP qs)) (uk fk:List (Key×V)) (_:vs= [.ref o.x,.str m]) (_:OAt CO CP H o qs) (_:Qw qs) (_:SGI S) (_:H o.du=some (.dK uk)) (_:UkOk S uk) (_:H o.df=some (.dK fk)) (_:FdOk H S fk) (_:fk.length<=100000) (_:(∀p∈S.don,(SyP qs).fin p.2=true)) (_:∀(v:V) (H':Hp) (fk':List (Key×V)),Kp [o.df] H H'->H' o.df=some (.dK fk')->FdOk H' S fk'->fk'.length<=fk.length+1->(Sy.yet S m=none->fk'.length=fk.length)->YetIs H' S m v->Q v H')
inductive sp_anew (CO:Addr) (vs:List V) (H:Hp) (Q:VK) (E_:XK):Prop
 |mk (x dx px:Addr) (_:vs= [.ref x,.ref px]) (_:H x=some (.ins CO dx [])) (_:∀(o:Oc) (H':Hp),o.x=x->o.dx=dx->o.px=px->(∀b ob,H b=some ob->b≠x->H' b=some ob)->Tk H H'->H o.ls=none->H o.du=none->H o.dr=none->H o.df=none-> [o.ls,o.du,o.dr,o.df].Nodup->H' x=some (.ins CO dx (ofs o))->H' o.ls=some (.lst [])->H' o.du=some (.dK [])->H' o.dr=some (.dK [])->H' o.df=some (.dK [])->Q .non H')
inductive sp_leave (vs:List V) (H:Hp) (Q:VK) (E_:XK):Prop
 |mk (x:_) (y:_) (_:vs= [x,y]) (_:Q .non H)
theorem once_ans (O:Qw qs)(h:g0D m (qE qs m)=none):∃k,ZF (qE qs m)= .tup k/\ansIs (some (onceD (qE qs m))) (.tup k):=by
 by_cases hm:m∈qs.map (·.1)
 ·obtain⟨hn,k,e,hd,h1,h2⟩:=zq O hm;rw [hd] at h⊢;unfold g0D at h;simp only at h;by_cases c:k="leaf"
  ·refine⟨[.str "value",e],?_,1⟩;unfold ZF;simp only;exact A3 c
  ·rw [A2 c] at h;split at h<;>cases h
 ·rw [Yj hm];exact⟨0,1⟩
theorem once_no (O:Qw qs)(h:g0D m (qE qs m)=some g):ZF (qE qs m)= .non:=by
 obtain⟨hn,k,e,hd,h1,h2⟩:=zq O ((ya qs).gn m g h);rw [hd] at h⊢;unfold g0D at h;simp only at h;by_cases c:k="leaf"
 ·rw [A3 c] at h;cases h
 ·unfold ZF;simp only;exact A2 c
theorem ans_of (h:GI g)(hf:g.en.isSome=true):ansIs ((Zk g).map some) (xL (g.en.getD .non)):=by
 cases Z:g.en with
 |none=>rw [Z] at hf;cases hf
 |some d=>
  unfold Zk;rw [Z];show ansIs ((xM d).map some) (xL d);rcases h.en d Z with⟨z,rfl⟩|⟨x,rfl,hx⟩|⟨z,rfl⟩
  ·have O:xM (flt z)=none:=by unfold xM flt;dsimp only;exact A2 ()
   have U:xL (flt z)=flt z:=by unfold xL flt;dsimp only;exact A2 ()
   rw [O,U];exact⟨"fault",[.str z],1,(),()⟩
  ·have O:xM (.tup [.str "said",x])=some x:=by unfold xM;dsimp only;exact A3 rfl
   have U:xL (.tup [.str "said",x])= .tup [.str "value",x]:=by unfold xL;dsimp only;exact A3 rfl
   rw [O,U];exact rfl
  ·have O:xM (.tup [.str "stuck",.str z])=none:=by unfold xM;dsimp only;exact A2 ()
   have U:xL (.tup [.str "stuck",.str z])= .tup [.str "stuck",.str z]:=by unfold xL;dsimp only;exact A2 ()
   rw [O,U];exact⟨"stuck",[.str z],1,(),()⟩
section
variable {P:o9}{w:og}{K:o0}{mg:Str->om o6}{base:o8}{a:Ad}{g:Ga}
theorem ok_leave (T:Tx K mg a):#[K,1,a.YO,a.YM,["self","going"],sp_leave]:=by
 exists 9,T.g_PlainOrder_leave,xF,O
 obtain⟨x,y,rfl,q⟩:=h;exists _,%[|ps_pass]
 exists 7
 exact q
theorem ok_anew (T:Tx K mg a):#[K,1,a.yG,a.yt,["self","project"],(sp_anew a.qm)]:=by
 exists 9,T.g_PlainOrder_begin_anew,jd
 obtain⟨x,dx,px,rfl,hx,q⟩:=h;have hs:=uE;exists _,%[#[Qc,pv 1],#[Qc,#[QW,qd]],#[Qc,Zo],#[Qc,Zo]|#[Qc,Zo]]
 exists 7
 exists 0,0,x,_,dx,0,hx,T.qx,T.Qb,()
 refine⟨(sml rfl),λU h1=> ?_⟩;have n1:x≠U:=qk qg h1;refine⟨0,x,_,dx,0,(qh n1).trans qg,T.qx,T.Qz,by show 1<1000;decide,?_⟩
 intro Z h2;have n2:x≠Z:=qk qg h2;refine⟨0,x,_,dx,0,(qh n2).trans qg,T.qx,T.Qv,by show 2<1000;decide,?_⟩
 intro l3 h3;have n3:x≠l3:=qk qg h3;refine⟨0,x,_,dx,0,(qh n3).trans qg,T.qx,T.Qu,by show 3<1000;decide,?_⟩
 intro l4 h4;have n4:x≠l4:=qk qg h4;refine⟨0,x,_,dx,0,(qh n4).trans qg,T.qx,T.QB,by show 4<1000;decide,?_⟩
 rw [qh n1.symm] at h1;have O:Z≠U:=λz=>by rw [z,qh n1.symm,qg] at h2;cases h2
 have k2:H Z=none:=by rwa [qh n2.symm,qh O,qh n2.symm] at h2
 have aa:l3≠Z:=λz=>by rw [z,qh n2.symm,qg] at h3;cases h3
 have ac:l3≠U:=λz=>by rw [z,qh n1.symm,qh O.symm,qh n1.symm,qg] at h3;cases h3
 have k3:H l3=none:=by rwa [qh n3.symm,qh aa,qh n3.symm,qh ac,qh n3.symm] at h3
 have ad:l4≠l3:=λz=>by rw [z,qh n3.symm,qg] at h4;cases h4
 have ae:l4≠Z:=λz=>by rw [z,qh n2.symm,qh aa.symm,qh n2.symm,qg] at h4;cases h4
 have af:l4≠U:=λz=>by rw [z,qh n1.symm,qh ac.symm,qh n1.symm,qh O.symm,qh n1.symm,qg] at h4;cases h4
 have k4:H l4=none:=by rwa [qh n4.symm,qh ad,qh n4.symm,qh ae,qh n4.symm,qh af,qh n4.symm] at h4
 have kp:∀b ob,H b=some ob->b≠x->(upd (upd (upd (upd (upd (upd (upd (upd (upd H x (.ins a.qm dx (putF "given_project" (V.ref px) []))) U (.lst [])) x (.ins a.qm dx (putF "stack" (V.ref U) (putF "given_project" (V.ref px) [])))) Z (.dK [])) x (.ins a.qm dx (putF "under_way" (V.ref Z) (putF "stack" (V.ref U) (putF "given_project" (V.ref px) []))))) l3 (.dK [])) x (.ins a.qm dx (putF "full_runs" (V.ref l3) (putF "under_way" (V.ref Z) (putF "stack" (V.ref U) (putF "given_project" (V.ref px) [])))))) l4 (.dK [])) x (.ins a.qm dx (putF "found" (V.ref l4) (putF "full_runs" (V.ref l3) (putF "under_way" (V.ref Z) (putF "stack" (V.ref U) (putF "given_project" (V.ref px) []))))))) b=some ob:=λb ob h nb=>by
  rwa [qh nb,qh (qk h k4),qh nb,qh (qk h k3),qh nb,qh (qk h k2),qh nb,qh (qk h h1),qh nb]
 refine q ⟨x,dx,px,U,Z,l3,l4⟩ _ rfl rfl rfl kp ?_ h1 k2 k3 k4 ?_ ?_ ?_ ?_ ?_ ?_
 ·refine⟨λb xs e=>kp b _ e (λz=> ?_),λb xs e=>⟨xs,kp b _ e (λz=> ?_)⟩,λb xs e=>⟨xs,kp b _ e (λz=> ?_)⟩⟩<;>(rw [z,hx] at e;cases e)
 ·simp only [U4,uC,uD,uM,UW,UP,vR,and_true];exact⟨⟨O.symm,ac.symm,af.symm⟩,⟨aa.symm,ae.symm⟩,ad.symm⟩
 ·exact qg
 ·rw [qh n1.symm,qh af.symm,qh n1.symm,qh ac.symm,qh n1.symm,qh O.symm,qh n1.symm];exact qg
 ·rw [qh n2.symm,qh ae.symm,qh n2.symm,qh aa.symm,qh n2.symm];exact qg
 ·rw [qh n3.symm,qh ad.symm,qh n3.symm];exact qg
 ·rw [qh n4.symm];exact qg
theorem ok_oinit (T:Tx K mg a):#[K,2,a.yR,a.Y7,["self","project"],(sp_anew a.qm)]:=by
 have U:=#[ok_anew,T];exists 9,T.g_PlainOrder_init,Xp,Z
 obtain⟨x,dx,px,rfl,O,q⟩:=h;exists _,%[|#[qY,#[Qm,20,pv 0,T.qx,T.g_PlainOrder_begin_anew.h,U,Z.mono (),T.g_PlainOrder_begin_anew.b,.nil,qA,#v[pv 1],_,_,_]]]
 exists 7
 exact⟨0,x,dx,0,O,1,0,x,dx,px,1,O,q⟩
theorem ok_yet (T:Tx K mg a):#[K,2,a.yI,a.yD,["self","name"],(sp_yet a.qm a.qD)]:=by
 have Qe:=#[xn,T];have Ze:=#[ok_once,T];exists 9,T.g_PlainOrder_answer_yet,yq
 obtain⟨o,m,qs,S,uk,fk,rfl,Z,hq,hG,ad,hU,aa,hF,hl,ac,k⟩:=h;have hs:=uE;exists _,%[#[qI,#[pt_cmp,6,#[pc_din,5,Q9 hr,pv 1,#[qL,5,pv 0,rfl]],_],%[|#[qp,#[qB,#v[ql]]]],qw],#[qC,(2),yq.nd,#[qt,Ze,hr.mono (),T.g_answer_at_once,#v[#[Qm,#[qL,5,pv 0,rfl],T.yH,T.g_Project_source_of,Qe,#v[pv 1]]]]],#[qI,#[qr,ZP,pv 2,qU,qy _],%[|#[Jb,#[qL,5,pv 0,rfl],pv 1,pv 2]],qw]|#[qp,#[pe_dget1,7,Q9 hr,#[qL,5,pv 0,rfl],pv 1,⟨1,1,1,1⟩]]]
 exists 7
 exists 0,0,o.x,_,o.dx,_,0,Z.e,T.qx,T.Qv,of_uw o,o.du,0,DGet.k (k:=Sum.inr m) ad,0;rw [hU m];by_cases c:m∈S.stk.map (·.1)
 ·have ey:Sy.yet S m=some none:=by unfold Sy.yet;rw [A3 c]
  refine iteB (ue c) ⟨(sml rfl),λt ht=> ?_⟩;have s1:=qf ht (.tup [V.str "ring"]);refine k _ _ fk (Kp.of s1) (s1 _ _ aa) (hF.mono s1.tk) (Nat.le_succ _) (λ_=>rfl) ?_;unfold YetIs;rw [ey];exact⟨_,Is.new (ds:= [.str "ring"]) ⟨_,0,YG (),1⟩ ht,"ring",[],1,(),()⟩
 refine iteN (ug c) ?_;exists 0,o.x,_,o.dx,_,0,Z.e,T.qx,T.Qb,of_gp o;obtain⟨ae,dp,op,ak,hx,hd,hk,hv⟩:=id Z.p;refine⟨o.px,ae,0,hx,YK,0,o.px,m,qs,1,Z.p,λv h1 h2=> ?_⟩;have af:Is H (qE qs m) v:=by
  by_cases cm:m∈qs.map (·.1)
  ·exact h1 cm
  ·rw [h2 cm,Yj cm];exact rfl
 refine⟨v,qE qs m,1,af,?_,λu H1 s1 hu=> ?_⟩
 ·by_cases cm:m∈qs.map (·.1)
  ·obtain⟨_,k,e,hd,_⟩:=zq hq cm;exact .inr ⟨k,e,hd⟩
  ·exact .inl (Yj cm)
 have O:=s1 _ _ aa;exists 0,1,0;cases hg:g0D m (qE qs m) with
 |none=>
  obtain⟨l,e1,e2⟩:=once_ans hq hg;rw [e1] at hu;have ag:u≠ .non:=XQ hu (by intro z;cases z)
  have ey:Sy.yet S m=some (some (onceD (qE qs m))):=by have U:=hg;unfold Sy.yet;rw [A2 c,show(SyP qs).g0 m=_ from U];rfl
  refine iteB (by simp [ag]) ?_
  have kp:Kp [o.df] H (upd H1 o.df (.dK (putK fk (Sum.inr m) u))):=(Kp.of s1).trans (Kp.updD O uf);exists 0,0,o.x,_,o.dx,_,0,s1 _ _ Z.e,T.qx,T.QB,of_fd o,0,o.df,0,DPut.k (k:=Sum.inr m) O ()
  have ah:=Z.kp kp (by intro p hp;cases A6.mp hp;exact .inr (.inl ⟨_,aa⟩))
  exists 0,o.x,_,o.dx,_,0,ah.e,T.qx,T.QB,of_fd o,o.df,1,.inl ⟨_,.inl qg⟩,0,_,DGet.k (k:=Sum.inr m) qg;rw [XE,A3 rfl];refine k _ _ _ kp qg ?_ (yL _ _ _) (λz=>by rw [ey] at z;cases z) ?_
  ·intro m' g' U;rw [XE,A2 (λz=>by injection z with z;rw [z,hg] at U;cases U)]
   exact(hF.mono kp.tk) m' g' U
  ·unfold YetIs;rw [ey];exact⟨_,(hu.mono (Tk.updD O)),e2⟩
 |some g=>
  rw [once_no hq hg] at hu;cases(show u= .non from hu)
  refine iteN (by simp) ?_
  exists 0,o.x,_,o.dx,_,0,s1 _ _ Z.e,T.qx,T.QB,of_fd o,o.df,1,.inl ⟨_,.inl O⟩,0,_,DGet.k (k:=Sum.inr m) O;refine k _ _ fk (Kp.of s1) O (hF.mono s1.tk) (Nat.le_succ _) (λ_=>rfl) ?_;have ey:Sy.yet S m=(Sy.YH S.don m).map λg=>(Zk g).map some:=by have U:=hg;unfold Sy.yet;rw [A2 c,show(SyP qs).g0 m=_ from U];rfl
  obtain⟨f1,f2⟩:=hF m g hg;unfold YetIs;rw [ey];cases hd:Sy.YH S.don m with
  |none=>
   rw [f2 hd];exact rfl
  |some g'=>
   obtain⟨y,e1,e2⟩:=f1 g' hd;rw [e1];exact⟨_,e2.mono s1.tk,ans_of (hG (m,g') (.inr (Sy.WS hd))).1 (ac (m,g') (Sy.WS hd))⟩
structure GRel (g:Gc)(s:Gs)(p:Gp):Prop where
 n:g.n=p.n
 mb:s.mb=p.mb
 ra:s.ra=p.ra
 run:(s.run.map λq=>(q.1.rs,q.2))=p.run
 own:∀mc r,s.run=some (mc,r)->mc.own=g.n
 en:s.en=p.en.getD .non
noncomputable def plcR:om (Mc×Rn)->oj o3
 |none=> []
 |some (mc,_)=> [mc.x,mc.db,mc.dg]
noncomputable def plc (g:Gc)(s:Gs):oj o3:=g.x::plcR s.run
theorem GRel.none {g:Gc}{s:Gs}{p:Gp}(h:GRel g s p)(e:p.run=none):s.run=none:=by
 have:=h.run;rw [e] at this;cases O:s.run with
 |none=>rfl
 |some q=>rw [O] at this;cases this
theorem GRel.some {g:Gc}{s:Gs}{p:Gp}(h:GRel g s p){rs:oj Rw}{r:Rn}(e:p.run=some (rs,r)):∃mc:Mc,s.run=some (mc,r)/\mc.rs=rs/\mc.own=g.n:=by
 have:=h.run;rw [e] at this;cases O:s.run with
 |none=>rw [O] at this;cases this
 |some q=>
  obtain⟨mc,U⟩:=q;rw [O] at this;cases this;exact⟨mc,1,1,h.own mc U O⟩
variable {CM:o3}
theorem GoAt.frame {g:Gc}{s:Gs}(h:GoAt C CM H g s)(O:∀b∈plc g s,∀ob,H b=some ob->H' b=some ob)(t:Tk H H'):GoAt C CM H' g s:=by
 obtain⟨dx,fs,mv,av,rv,ev,e,f,i,j,k,l⟩:=h;refine⟨dx,fs,mv,av,rv,ev,O _ uf _ e,f,i.mono t,j.mono t,?_,l.mono t⟩;cases U:s.run with
 |none=>rwa [U] at k
 |some q=>
  obtain⟨mc,r⟩:=q;have hp:plc g s= [g.x,mc.x,mc.db,mc.dg]:=by unfold plc plcR;rw [U]
  rw [hp] at O;rw [U] at k;obtain⟨k1,k2,dm,fm,Z,ru,tv,gv,em,aa,i1,i2,⟨bf,ib,jb⟩,i4,i5,i6⟩:=k;exact⟨k1,k2,dm,fm,Z,ru,tv,gv,O _ (by simp) _ em,aa,i1.mono t,i2.mono t,⟨bf,O _ (by simp) _ ib,λz hz=>(jb z hz).mono t⟩,O _ (by simp) _ i4,i5.mono t,i6.mono t⟩
theorem GoAt.there {g:Gc}{s:Gs}(h:GoAt C CM H g s):∀b∈plc g s,∃ob,H b=some ob:=by
 obtain⟨dx,fs,mv,av,rv,ev,e,f,i,j,k,l⟩:=h;intro b O;rcases A5.mp O with rfl|O
 ·exact⟨_,e⟩
 ·cases U:s.run with
  |none=>rw [U] at O;cases O
  |some q=>
   obtain⟨mc,r⟩:=q;rw [U] at O k;obtain⟨k1,k2,dm,fm,Z,ru,tv,gv,em,aa,i1,i2,⟨bf,ib,jb⟩,i4,i5,i6⟩:=k;simp only [plcR,uC,uD,uM] at O;rcases O with rfl|rfl|rfl
   ·exact⟨_,em⟩
   ·exact⟨_,ib⟩
   ·exact⟨_,i4⟩
theorem beg_rel {g:Gc}{d:D}{s s':Gs}{p:Gp}(b:BegOk H g d s s')(h:GRel g s p)(U:p.run=none)(he:p.en=none):GRel g s' (begP p d)/\∀c∈plc g s',c=g.x∨H c=none:=by
 have hr:=h.none U;have Z:s.en= .non:=by rw [h.en,he];rfl
 have nil:s'.run=none->∀c∈plc g s',c=g.x∨H c=none:=λe c O=>by
  unfold plc at O;rw [e] at O;rcases A5.mp O with z|z
  ·exact .inl z
  ·cases z
 unfold begP;by_cases c:d= .non
 ·obtain⟨b1,b2⟩:=b.lack c;rw [A3 (by rw [c];rfl)]
  exact⟨⟨h.n,b.mb.trans h.mb,b.ra.trans h.ra,(by show _=p.run;rw [b1,U];rfl),(λmc r e=>by rw [b1] at e;cases e),b2⟩,nil b1⟩
 ·rw [A2 (λz=>c (by cases d with|non=>rfl|_=>cases z))]
  cases hd:yc d with
  |none=>
   obtain⟨b1,b2⟩:=b.rule c hd;exact⟨⟨h.n,b.mb.trans h.mb,b.ra.trans h.ra,(by show _=p.run;rw [b1,U];rfl),(λmc r e=>by rw [b1] at e;cases e),b2⟩,nil b1⟩
  |some rs=>
   obtain⟨mc,c1,c2,c3,c4,c5,c6,c7⟩:=b.go rs hd;refine⟨⟨h.n,b.mb.trans h.mb,b.ra.trans h.ra,?_,λaa r e=> ?_,?_⟩,λc O=> ?_⟩
   ·rw [c6];show some (mc.rs,R0 rs g.n)=some (rs,R0 rs p.n);rw [c4,h.n]
   ·rw [c6] at e;cases e;exact c5
   ·rw [c7,h.n,Z];show _=(enOf (R0 rs p.n)).getD .non;unfold enOf;split<;>rfl
   ·unfold plc at O;rw [c6] at O;simp only [plcR,uC,uD,uM] at O;rcases O with z|rfl|rfl|rfl
    ·exact .inl z
    ·exact .inr c1
    ·exact .inr c2
    ·exact .inr c3
noncomputable def runPG:om (oj Rw×Rn)->oj D
 |none=> []
 |some (_,r)=>r.gs
noncomputable def xR (p:Gp):D:= .tup [.tup (p.ra++runPG p.run),p.en.getD .non]
theorem full_rel {g:Gc}{s:Gs}{p:Gp}(h:GRel g s p):fullD s=xR p:=by
 unfold fullD xR;rw [h.ra,h.en];have e:runG s.run=runPG p.run:=by
  rw [<-h.run];cases s.run with
  |none=>rfl
  |some q=>rfl
 rw [e]
theorem full_len {p:Gp}(h:GI p):p.ra.length+(runPG p.run).length<=1000:=by
 have h1:=h.ra.2.2;cases O:p.run with
 |none=>show _+0<=1000;omega
 |some q=>
  obtain⟨rs,r⟩:=q;have h2:=(h.run rs r O).2.1;have h3:=h2.gs.2.2;have h4:=h2.n;show _+r.gs.length<=1000;omega
inductive sp_enter (CO CP CG CM:Addr) (vs:List V) (H:Hp) (Q:VK) (E_:XK):Prop
 |mk (o:Oc) (m:Str) (qs:List (Str×D)) (xs:List V) (uk:List (Key×V)) (p:Gp) (_:vs= [.ref o.x,.str m]) (_:OAt CO CP H o qs) (_:Qw qs) (_:H o.ls=some (.lst xs)) (_:xs.length<=100000) (_:H o.du=some (.dK uk)) (_:uk.length<=100000) (_:g0D m (qE qs m)=some p) (_:∀(g:Gc) (s:Gs) (H':Hp),Kp [o.ls,o.du] H H'->H' o.ls=some (.lst (xs++ [.ref g.x]))->H' o.du=some (.dK (putK uk (Sum.inr m) (.bl true)))->GoAt CG CM H' g s->GRel g s p->g.o=o.x->(∀b∈plc g s,H b=none)->Q .non H')
inductive sp_settle (CO CP CG CM:Addr) (vs:List V) (H:Hp) (Q:VK) (E_:XK):Prop
 |mk (o:Oc) (qs:List (Str×D)) (g:Gc) (s:Gs) (p:Gp) (rk fk:List (Key×V)) (_:vs= [.ref o.x,.ref g.x]) (_:OAt CO CP H o qs) (_:GoAt CG CM H g s) (_:GRel g s p) (_:GI p) (_:p.en.isSome=true) (_:H o.dr=some (.dK rk)) (_:rk.length<=100000) (_:H o.df=some (.dK fk)) (_:fk.length<=100000) (_:o.dr≠o.df) (_:o.dr∉plc g s) (_:o.df∉plc g s) (_:∀(v1 v2:V) (H':Hp),Kp [o.dr,o.df] H H'->H' o.dr=some (.dK (putK rk (Sum.inr g.n) v1))->Is H' (xR p) v1->H' o.df=some (.dK (putK fk (Sum.inr g.n) v2))->Is H' (xL (p.en.getD .non)) v2->Q .non H')
theorem ok_enter (T:Tx K mg a)(C:Fx K w mg g a):#[K,12,a.YL,a.YR,["self","name"],(sp_enter a.qm a.qD a.qJ a.qo)]:=by
 have Qe:=#[xn,T];have O:=#[ok_ginit,T,C];exists 9,T.g_PlainOrder_enter,xr
 obtain⟨o,m,qs,xs,uk,p,rfl,hO,hq,U,ap,Z,aq,hp,k⟩:=h;have hs:=uE;exists _,%[#[qY,#[jx,uV,vy,vz,Yv,#[qL,5,pv 0,rfl],#v[#[Z9,T.M_Going,O,hr.mono (),T.m_Going,T.g_Going_init,qA,#v[pv 1,#[Qm,#[qL,5,pv 0,rfl],T.yH,T.g_Project_source_of,Qe,#v[pv 1]],pv 0]]]]]|#[Jb,#[qL,5,pv 0,rfl],pv 1,jN]]
 exists 7
 exists 0,o.x,_,o.dx,_,0,hO.e,T.qx,T.Qz,of_st o,.inl ⟨1,_,SqL.of U⟩;exists 0,0,o.x,_,o.dx,_,0,hO.e,T.qx,T.Qb,of_gp o;obtain⟨ak,dp,op,au,hx,hd,hk,hv⟩:=id hO.p;refine⟨o.px,ak,0,hx,YK,0,o.px,m,qs,1,hO.p,λsv h1 h2=> ?_⟩;have hm:m∈qs.map (·.1):=(ya qs).gn m p hp;have af:=h1 hm;obtain⟨hn,kk,e,al,g1,g2⟩:=zq hq hm;rw [al] at af hp;refine⟨0,λx dx aa ag nx=> ?_⟩;have s0:Same H (upd (upd H dx (.own x)) x (.ins a.qJ dx [])):=λb o h=>by rwa [qh (qk h aa),qh (qk h ag)]
 have nox:o.x≠x:=qk hO.e aa;refine⟨x,dx,o.x,m,kk,sv,e,1,qg,af.mono s0.tk,hn,nox,⟨_,_,s0 _ _ hO.e,Zz o _ ()⟩,λH1 s1 am aw G1 b1 b2=>⟨1,?_⟩⟩
 have ac:Same H H1:=λb ob h=>am b ob (s0 b ob h) (qk h aa);have rel:GRel ⟨x,o.x,m⟩ s1 p/\∀c∈plc ⟨x,o.x,m⟩ s1,H c=none:=by
  unfold g0D at hp;simp only at hp;split at hp
  ·cases hp
  ·split at hp
   ·rename_i c
    cases hp;have e1:=b1 c;rw [e1];refine⟨⟨1,1,1,1,(λ_ _ z=>by cases z),1⟩,λc hc=> ?_⟩
    rcases A5.mp hc with rfl|hc
    ·exact aa
    ·cases hc
   ·rename_i c
    cases hp;obtain⟨r1,r2⟩:=beg_rel (p:=⟨m,.non,[],none,none⟩) (b2 c) ⟨1,1,1,1,(λ_ _ z=>by cases z),1⟩ rfl rfl
    refine⟨r1,λc hc=> ?_⟩;rcases r2 c hc with rfl|hc
    ·exact aa
    ·exact s0.free hc
 exists o.ls,xs,0,1,ac _ _ U,()
 have ah:Kp [o.ls,o.du] H1 (upd H1 o.ls (.lst (xs++ [.ref x]))):=⟨λb ob h n=>by rw [qh (λz=>n (by rw [z];exact uf))];exact h,Kept.tk (p:=o.ls) (λb ob h n=>by rwa [qh n]) (ac _ _ U) qg⟩
 have n1:o.du≠o.ls:=λz=>by rw [z,U] at Z;cases Z
 have ad:upd H1 o.ls (.lst (xs++ [.ref x])) o.du=some (.dK uk):=by rw [qh n1];exact ac _ _ Z
 have n2:o.x≠o.ls:=λz=>by have:=hO.e;rw [z,U] at this;cases this
 have n3:o.x≠o.du:=λz=>by have:=hO.e;rw [z,Z] at this;cases this
 refine⟨0,o.x,_,o.dx,_,0,(by rw [qh n2];exact ac _ _ hO.e),T.qx,T.Qv,of_uw o,0,o.du,0,DPut.k (k:=Sum.inr m) ad (),?_⟩
 have ao:=((Kp.of (L:= [o.ls,o.du]) ac).trans ah).trans (Kp.updD (ys:=putK uk (Sum.inr m) (.bl true)) ad (uc _ uf));refine k ⟨x,o.x,m⟩ s1 _ ao (by rw [qh n1.symm];exact qg) qg (G1.frame (λb hb ob h=> ?_) ((ah.trans (Kp.updD (ys:=putK uk (Sum.inr m) (.bl true)) ad (uc _ uf)))).tk) rel.1 rfl rel.2
 have ae:=rel.2 b hb;have m1:b≠o.ls:=λz=>by rw [z,U] at ae;cases ae
 have m2:b≠o.du:=λz=>by rw [z,Z] at ae;cases ae
 rw [qh m2,qh m1];exact h
theorem ok_settle (T:Tx K mg a):#[K,3,a.YF,a.Yw,["self","going"],(sp_settle a.qm a.qD a.qJ a.qo)]:=by
 have O:=#[ok_full,T];have U:=#[ok_ansby,T];have Xi:=#[ok_leave,T];exists 9,T.g_PlainOrder_settle,JN
 obtain⟨o,qs,g,st,p,rk,fk,rfl,hO,hG,hR,hI,ae,ac,ay,af,aA,ag,nr,nf,k⟩:=h;have hs:=uE;exists _,%[#[Jb,#[qL,5,pv 0,rfl],#[qL,5,pv 1,rfl],#[yh,pv 1,T.qO,T.g_Going_full,O]],#[Jb,#[qL,5,pv 0,rfl],#[qL,5,pv 1,rfl],#[qt,U,hr.mono (),T.g_answer_by,#v[#[qL,5,pv 1,rfl]]]]|#[qY,#[Qm,pv 0,T.qx,T.g_PlainOrder_leave,Xi,#v[pv 1]]]]
 exists 7
 obtain⟨dx,fs,mv,av,rv,ev,e,f,i,j,aB,l⟩:=id hG;have aw:o.dr≠g.x:=λz=>nr (by rw [z];exact uf)
 have aC:o.df≠g.x:=λz=>nf (by rw [z];exact uf)
 have ah:o.x≠o.dr:=λz=>by have:=hO.e;rw [z,ac] at this;cases this
 have ak:o.x≠o.df:=λz=>by have:=hO.e;rw [z,af] at this;cases this
 have al:(runG st.run).length=(runPG p.run).length:=by
  have:=full_rel hR;unfold fullD xR at this;simp only [D.tup.injEq,vm] at this;have:=this.1;rw [hR.ra] at this;rw [List.append_cancel_left this]
 refine⟨0,g.x,dx,fs,1,e,f.meth _ (),g,st,1,hG,(by rw [hR.ra,al];exact full_len hI),λv1 H1 s1 i1=> ?_⟩
 rw [full_rel hR] at i1;exists 0,o.x,_,o.dx,_,0,s1 _ _ hO.e,T.qx,T.Qu,of_fr o,0,g.x,_,dx,fs,0,s1 _ _ e,T.qO,T.yY,f.zH,o.dr,0,DPut.k (k:=Sum.inr g.n) (s1 _ _ ac) ()
 have ad:Kp [o.dr,o.df] H (upd H1 o.dr (.dK (putK rk (Sum.inr g.n) v1))):=(Kp.of s1).trans (Kp.updD (s1 _ _ ac) uf);generalize Z:upd H1 o.dr (.dK (putK rk (Sum.inr g.n) v1))=H2 at ad⊢;have am:H2 o.dr=some (.dK (putK rk (Sum.inr g.n) v1)):=by rw [<-Z];exact qg
 have e2:H2 g.x=some (.ins a.qJ dx fs):=by rw [<-Z,qh aw.symm];exact s1 _ _ e
 have ao:H2 o.x=some (.ins a.qm o.dx (ofs o)):=by rw [<-Z,qh ah];exact s1 _ _ hO.e
 have aa:H2 o.df=some (.dK fk):=by rw [<-Z,qh ag.symm];exact s1 _ _ af
 have i2:Is H2 (xR p) v1:=i1.mono (by rw [<-Z];exact Tk.updD (s1 _ _ ac))
 have l2:Is H2 (p.en.getD .non) ev:=by rw [<-hR.en];exact l.mono ad.tk
 obtain⟨kk,ee,ap⟩:∃kk ee,p.en.getD .non= .tup [.str kk,ee]:=by
  cases aq:p.en with
  |none=>rw [aq] at ae;cases ae
  |some d=>
   rcases hI.en d aq with⟨z,rfl⟩|⟨x,rfl,_⟩|⟨z,rfl⟩
   ·exact⟨_,0⟩
   ·exact⟨_,0⟩
   ·exact⟨_,0⟩
 refine⟨0,g.x,_,dx,fs,0,e2,T.qO,T.Q2,f.f_end,ev,kk,ee,1,(by rwa [<-ap]),λv2 H3 s3 i3=> ?_⟩
 rw [<-ap] at i3;exists 0,o.x,_,o.dx,_,0,s3 _ _ ao,T.qx,T.QB,of_fd o,0,g.x,_,dx,fs,0,s3 _ _ e2,T.qO,T.yY,f.zH,o.df,0,DPut.k (k:=Sum.inr g.n) (s3 _ _ aa) ()
 have au:Tk H3 (upd H3 o.df (.dK (putK fk (Sum.inr g.n) v2))):=Tk.updD (s3 _ _ aa);have ax:Kp [o.dr,o.df] H (upd H3 o.df (.dK (putK fk (Sum.inr g.n) v2))):=(ad.trans (Kp.of s3)).trans (Kp.updD (s3 _ _ aa) (uc _ uf));refine⟨0,o.x,o.dx,0,(by rw [qh ak];exact s3 _ _ ao),Zz o _ (),0,_,0,?_⟩
 exact k v1 v2 _ ax (by rw [qh ag];exact s3 _ _ am) (i2.mono (s3.tk.trans au)) qg (i3.mono au)
end
variable {v:V}
theorem no_looked:List.lookup ("looked_up":Str) [(("by_name":Str),v)]=none:=by rfl
theorem inHN (k:Str):inV (V.str k) [V.str "has",V.str "names"]=isHN k:=by
 have h:=zh k ["has","names"];refine h.trans ?_;unfold isHN;rw [<-Bool.decide_or,uX];simp
section
variable {C CM CO:o3}{H:Hp}{g:Gc}{s:Gs}{p:Gp}{Q:VK}{E:XK}
theorem want_sp (G:GoAt C CM H g s)(R:GRel g s p)(I:GI p)(O:p.en=none)(U:QY p=some m)(k:∀kd v H',Same H H'->isHN kd=false->Is H' (.tup [.str kd,.str m]) v->Q v H'):Xq C CM [.ref g.x] H Q E:=by
 obtain⟨hn,h⟩:=JL I O U;exists g,s,1,G;rcases h with⟨h1,h2⟩|⟨rs,r,h1,h2⟩
 ·exact .inl ⟨R.none h1,m,by rw [R.mb,h2],λv H' s' i=>k _ v H' s' () i⟩
 ·obtain⟨mc,Z,e2,e3⟩:=R.some h1;exact .inr ⟨mc,r,_,Z,h2,λv i=>k _ v H (Same.refl _) () i⟩
theorem want_spO (G:GoAt C CM H g s)(R:GRel g s p)(I:GI p)(O:p.en=none)(U:QY p=none)(k:∀rs r kd z v,p.run=some (rs,r)->r.th= .tup [.str "asks",.tup [.str kd,.str z]]->isHN kd=true->isT (.str z)=true->ownP qs p=Yq p (JO qs kd z)->Is H (.tup [.str kd,.str z]) v->Q v H):Xq C CM [.ref g.x] H Q E:=by
 obtain⟨rs,r,kd,z,h1,h2,h3,h4,h5⟩:=JD (qs:=qs) I O U;obtain⟨mc,Z,e2,e3⟩:=R.some h1;exact⟨g,s,1,G,.inr ⟨mc,r,_,Z,h2,λv i=>k rs r kd z v h1 h2 h3 h4 h5 i⟩⟩
theorem take_sp (G:GoAt C CM H g s)(R:GRel g s p)(I:GI p)(Z:p.en=none){d:D}{v:V}(hv:Is H d v)(U:∀rs r,p.run=some (rs,r)->∃u q,r.th= .tup [.str "asks",.tup [.str u,q]]/\ansB u d=true)(aa:g.o≠g.x)(ho:∃dx fs,H g.o=some (.ins CO dx fs)/\fs.lookup ("runner":Str)=none)
  (k:∀H' s',Gw g s.run H H'->GoAt C CM H' g s'->GRel g s' (Yq p d)->(∀b∈plc g s',b∈plc g s∨H b=none)->Q .non H'):Xn C CM CO [.ref g.x,v] H Q E:=by
 refine⟨g,s,v,d,1,G,by rw [R.n];exact I.n,hv,aa,ho,?_⟩
 cases O:p.run with
 |none=>
  obtain⟨z,hz,_⟩:=I.no O Z;have hr:=R.none O;refine .inl ⟨hr,z,by rw [R.mb,hz],λH' s' w G' b=> ?_⟩
  obtain⟨r1,r2⟩:=beg_rel (p:=⟨p.n,p.mb,[.tup [.tup [.str "rule",p.mb],d]],none,none⟩) b ⟨R.n,R.mb,(by show _= [D.tup [.tup [.str "rule",p.mb],d]];rw [hz]),(by show s.run.map _=none;rw [hr];rfl),R.own,(by show s.en= .non;rw [R.en,Z];rfl)⟩ rfl rfl
  refine k H' s' w G' ?_ λc hc=> ?_
  ·have:Yq p d=begP ⟨p.n,p.mb,[.tup [.tup [.str "rule",p.mb],d]],none,none⟩ d:=by
    unfold Yq;rw [O];show begP ⟨p.n,p.mb,_,none,p.en⟩ d=_;rw [Z]
   rwa [this]
  ·rcases r2 c hc with rfl|h
   ·exact .inl uf
   ·exact .inr h
 |some q=>
  obtain⟨rs,r⟩:=q;obtain⟨mc,e1,e2,e3⟩:=R.some O;obtain⟨k1,k2,k3,k4⟩:=I.run rs r O;obtain⟨u,q,h1,h2⟩:=U rs r O;subst e2;refine .inr ⟨mc,r,u,q,e1,e3,k1,k2,h1,h2,λH' w G'=> ?_⟩;have ee:Yq p d={p with run:=some (mc.rs,ansS mc.rs p.n r d),en:=enOf (ansS mc.rs p.n r d)}:=by unfold Yq;rw [O]
  refine k H' _ w G' ?_ ?_
  ·rw [ee,e3,R.n];unfold lookS enOf;by_cases c:QR (ansS mc.rs p.n r d).th=true
   ·rw [A3 c,A3 c];exact⟨R.n,R.mb,R.ra,1,(λac r' z=>by cases z;exact e3),(by show s.en= .non;rw [R.en,Z];rfl)⟩
   ·rw [A2 c,A2 c];exact⟨R.n,R.mb,R.ra,1,(λac r' z=>by cases z;exact e3),1⟩
  ·intro b hb;left;unfold plc at hb⊢;rw [e1];unfold lookS at hb;split at hb<;>exact hb
end
noncomputable def LO (o:Oc):oj o3:= [o.ls,o.du,o.dr,o.df]
structure Bs (CO CP:o3)(H0:Hp)(o:Oc)(qs:oj (Str×D)):Prop where
 oa:OAt CO CP H0 o qs
 ls:∃xs,H0 o.ls=some (.lst xs)
 du:∃xs,H0 o.du=some (.dK xs)
 dr:∃xs,H0 o.dr=some (.dK xs)
 df:∃xs,H0 o.df=some (.dK xs)
 nd:(LO o).Nodup
 q:Qw qs
section
variable {CO CP:o3}{H0 H H':Hp}{o:Oc}{qs:oj (Str×D)}
theorem Bs.at (b:Bs CO CP H0 o qs)(k:Kp (LO o) H0 H):OAt CO CP H o qs:=b.oa.kp k (by
 intro p O;simp only [LO,uC,uD,uM] at O;rcases O with rfl|rfl|rfl|rfl
 ·exact .inl b.ls
 ·exact .inr (.inl b.du)
 ·exact .inr (.inl b.dr)
 ·exact .inr (.inl b.df))
theorem Bs.new (b:Bs CO CP H0 o qs){c:o3}(h:H0 c=none):c≠o.x/\c≠o.ls/\c≠o.du/\c≠o.dr/\c≠o.df:=by
 obtain⟨_,h1⟩:=b.ls;obtain⟨_,h2⟩:=b.du;obtain⟨_,h3⟩:=b.dr;obtain⟨_,h4⟩:=b.df;exact⟨(qk b.oa.e h).symm,(qk h1 h).symm,(qk h2 h).symm,(qk h3 h).symm,(qk h4 h).symm⟩
theorem Bs.nlo (b:Bs CO CP H0 o qs){c:o3}(h:H0 c=none):c∉LO o:=by
 obtain⟨_,h1,h2,h3,h4⟩:=b.new h;simp only [LO,uC,uD,uM,UW];exact⟨h1,h2,h3,h4⟩
theorem kp_more (b:Bs CO CP H0 o qs)(k:Kp (LO o) H0 H)(h:∀c ob,H c=some ob->c∉o.df::L->H' c=some ob)(t:Tk H H')(O:∀c∈L,H0 c=none):Kp (LO o) H0 H':=⟨λc ob e n=>h c ob (k.kept c ob e n) (λz=>by
 rcases A5.mp z with rfl|z
 ·exact n (by simp [LO])
 ·rw [O c z] at e;cases e),k.tk.trans t⟩
end
section
variable {qs:oj (Str×D)}{n:Str}{p:Gp}{r don:oj (Str×Gp)}
theorem nxt_own (U:p.en=none)(Z:QY p=none):Sy.nxt #[Y,(n,p)::r,don]=⟨(n,ownP qs p)::r,don⟩:=by
 have hf:(SyP qs).fin p=false:=by show p.en.isSome=false;rw [U];rfl
 have O:(SyP qs).want p=none:=Z;unfold Sy.nxt;simp only;rw [hf,A2 ub,O]
 rfl
theorem nxt_tk (U:p.en=none)(Z:QY p=some m){a:om D}(hy:Sy.yet #[Y,(n,p)::r,don] m=some (some a)):Sy.nxt #[Y,(n,p)::r,don]=⟨(n,Yq p (a.getD .non))::r,don⟩:=by
 have hf:(SyP qs).fin p=false:=by show p.en.isSome=false;rw [U];rfl
 have O:(SyP qs).want p=some m:=Z;unfold Sy.nxt;simp only;rw [hf,A2 ub,O];simp only;rw [hy]
 rfl
theorem nxt_stk (U:p.en=none)(Z:QY p=some m)(hy:Sy.yet #[Y,(n,p)::r,don] m=some none):Sy.nxt #[Y,(n,p)::r,don]=⟨(n,stkP p m)::r,don⟩:=by
 have hf:(SyP qs).fin p=false:=by show p.en.isSome=false;rw [U];rfl
 have O:(SyP qs).want p=some m:=Z;unfold Sy.nxt;simp only;rw [hf,A2 ub,O];simp only;rw [hy]
 rfl
theorem nxt_push (Z:p.en=none)(hw:QY p=some m)(U:Sy.yet #[Y,(n,p)::r,don] m=none):∃p',g0D m (qE qs m)=some p'/\Sy.nxt #[Y,(n,p)::r,don]=⟨(m,p')::(n,p)::r,don⟩:=by
 have hf:(SyP qs).fin p=false:=by show p.en.isSome=false;rw [Z];rfl
 have O:(SyP qs).want p=some m:=hw;obtain⟨_,⟨p',e⟩,_⟩:=Sy.JG U;exists p',e;unfold Sy.nxt;simp only;rw [hf,A2 ub,O];simp only;rw [U];simp only;rw [e]
theorem nxt_pop {d:D}(O:p.en=some d):Sy.nxt #[Y,(n,p)::r,don]=⟨r,don++ [(n,p)]⟩:=by
 have U:(SyP qs).fin p=true:=by show p.en.isSome=true;rw [O];rfl
 unfold Sy.nxt;simp only;rw [U,A3 rfl]
 rfl
end
theorem ansB_thing {d:D}(h:X8 d):ansB "thing" d=true:=by
 unfold ansB;rcases h with rfl|h
 ·rfl
 ·cases hn:wl d with
  |true=>rfl
  |false=>
   rw [A2 ub,A3 h,A2 ()]
   rfl
structure Rnd {qs:oj (Str×D)}(CG CM:o3)(H0 H H1:Hp)(o:Oc)(S:Sy.Ss (SyP qs))(L0:oj o3)(g:Gc)(s1:Gs)(n:Str)(p1:Gp)(r:oj (Str×Gp))(fk1:oj (Key×V))(top:Nat):Prop where
 st:∃j,#[Y,(n,p1)::r,S.don]=Sy.nx S j
 len:fk1.length+Sy.mu #[Y,(n,p1)::r,S.don]<=top
 kp:∀b ob,H b=some ob->b∉o.df::L0->H1 b=some ob
 tk:Tk H H1
 df:H1 o.df=some (.dK fk1)
 fd:FdOk H1 S fk1
 go:GoAt CG CM H1 g s1
 rel:GRel g s1 p1
 pl:∀b∈plc g s1,b∈L0∨H b=none/\H0 b=none
 gi:SGI #[Y,(n,p1)::r,S.don]
inductive sp_gon (CO CP CG CM:Addr) (vs:List V) (H:Hp) (Q:VK) (E_:XK):Prop
 |mk (H0:Hp) (o:Oc) (qs:List (Str×D)) (g:Gc) (s:Gs) (n:Str) (p:Gp) (r don:List (Str×Gp)) (uk fk:List (Key×V)) (top:Nat) (_:vs= [.ref o.x,.ref g.x]) (_:Bs CO CP H0 o qs) (_:Kp (LO o) H0 H) (_:H o.du=some (.dK uk)) (_:UkOk #[Y,(n,p)::r,don] uk) (_:(∀q∈don,q.2.en.isSome=true)) (_:top<=100000) (_:g.o=o.x) (_:(∀b∈plc g s,H0 b=none)) (_:Rnd CG CM H0 H H o #[Y,(n,p)::r,don] (plc g s) g s n p r fk top) (_:∀(v:V) (H':Hp) (s':Gs) (p':Gp) (fk':List (Key×V)),Rnd CG CM H0 H H' o #[Y,(n,p)::r,don] (plc g s) g s' n p' r fk' top->((v= .non/\p'.en.isSome=true)∨∃m,v= .str m/\p'.en=none/\QY p'=some m/\Sy.yet #[Y,(n,p')::r,don] m=none)->Q v H')
theorem Rnd.more {qs:oj (Str×D)}{CG CM CO CP:o3}{H0 H H1 H2 H3:Hp}{o:Oc}{S:Sy.Ss (SyP qs)}{L0:oj o3}{g:Gc}{s1 s3:Gs}{n:Str}{p1 p3:Gp}{r:oj (Str×Gp)}{fk1 U:oj (Key×V)}{top:Nat}(b:Bs CO CP H0 o qs)(k0:Kp (LO o) H0 H)(hL:∀b∈L0,H0 b=none)(h:Rnd CG CM H0 H H1 o S L0 g s1 n p1 r fk1 top)(k2:Kp [o.df] H1 H2)(f2:H2 o.df=some (.dK U))(d2:FdOk H2 S U)(l2:U.length<=fk1.length+1)
  (ac:∀b ob,H2 b=some ob->b∉plc g s1->H3 b=some ob) (t3:Tk H2 H3) (G3:GoAt CG CM H3 g s3) (R3:GRel g s3 p3) (ae:∀b∈plc g s3,b∈plc g s1∨H2 b=none) (e:Sy.nxt #[Y,(n,p1)::r,S.don]=⟨(n,p3)::r,S.don⟩):
  Rnd CG CM H0 H H3 o S L0 g s3 n p3 r U top/\Sy.mu #[Y,(n,p3)::r,S.don]<Sy.mu #[Y,(n,p1)::r,S.don]:=by
 have ad:=Sy.nxt_mu (ya qs) (S:=#[Y,(n,p1)::r,S.don]) (by intro z;cases z)
 rw [e] at ad;have af:∀b∈plc g s1,H0 b=none:=λb hb=>(h.pl b hb).elim (hL b) (·.2);have nf:o.df∉plc g s1:=λz=>(b.new (af _ z)).2.2.2.2 rfl;have ag:∀b ob,H1 b=some ob->b∉o.df::plc g s1->H3 b=some ob:=λc ob q z=>ac c ob (k2.kept c ob q (λy=>z (by rw [A6.mp y];exact uf))) (λy=>z (uc _ y))
 refine⟨⟨?_,by have:=h.len;omega,λc ob q z=> ?_,(h.tk.trans k2.tk).trans t3,ac _ _ f2 nf,d2.mono t3,G3,R3,λc Z=> ?_,?_⟩,ad⟩
 ·obtain⟨j,hj⟩:=h.st;exact⟨j+1,by show _=Sy.nxt (Sy.nx S j);rw [<-hj,e]⟩
 ·refine ag c ob (h.kp c ob q z) λy=> ?_;rcases A5.mp y with rfl|y
  ·exact z uf
  ·rcases h.pl c y with y|⟨y,_⟩
   ·exact z (uc _ y)
   ·rw [q] at y;cases y
 ·rcases ae c Z with Z|Z
  ·exact h.pl c Z
  ·have O:H1 c=none:=by
    cases hq:H1 c with
    |none=>rfl
    |some ob=>
     by_cases y:c=o.df
     ·rw [y,f2] at Z;cases Z
     ·rw [k2.kept c ob hq (λz=>y (A6.mp z))] at Z;cases Z
   by_cases c0:c∈L0
   ·exact .inl c0
   ·right;have aa:H c=none:=by
     cases hq:H c with
     |none=>rfl
     |some ob=>
      by_cases y:c=o.df
      ·rw [y,h.df] at O;cases O
      ·rw [h.kp c ob hq (λz=>by rcases A5.mp z with z|z;exact y z;exact c0 z)] at O;cases O
    exists aa;cases hq:H0 c with
    |none=>rfl
    |some ob=>
     by_cases y:c∈LO o
     ·have:=kp_more b k0 h.kp h.tk hL;simp only [LO,uC,uD,uM] at y;have keep:∀x,(∃xs,H0 x=some (.lst xs))∨(∃xs,H0 x=some (.dK xs))->H1 x≠none:=λx hx hn=>by
       rcases hx with⟨xs,hx⟩|⟨xs,hx⟩
       ·obtain⟨ys,hy⟩:=this.tk.lst x xs hx;rw [hy] at hn;cases hn
       ·obtain⟨ys,hy⟩:=this.tk.dct x xs hx;rw [hy] at hn;cases hn
      rcases y with rfl|rfl|rfl|rfl
      ·exact absurd O (keep _ (.inl b.ls))
      ·exact absurd O (keep _ (.inr b.du))
      ·exact absurd O (keep _ (.inr b.dr))
      ·exact absurd O (keep _ (.inr b.df))
     ·rw [k0.kept c ob hq y] at aa;cases aa
 ·have:=nxt_gi b.q h.gi;rwa [e] at this
section
variable {P:o9}{w:og}{K:o0}{mg:Str->om o6}{base:o8}{a:Ad}{g:Ga}
theorem ok_gon (T:Tx K mg a)(C:Fx K w mg g a):#[K,11,a.YI,a.YS,["self","going"],(sp_gon a.qm a.qD a.qJ a.qo)]:=by
 have wO:=#[ok_wanted,T];have Jy:=#[ok_gtake,T,C];have xl:=#[ok_looked,T];have qZ:=#[ok_yet,T];exists 9,T.g_PlainOrder_go_on,yj
 obtain⟨H0,o,qs,Z,st,n,p,r,don,uk,fk,top,rfl,hB,hK,aK,hU,ap,aX,aq,hL,h0,k⟩:=h;have hs:=uE;exists _,%[#[JE,#[qr,yX,#[qL,5,pv 1,rfl],qU,qy _],%[#[qC,(2),yj.nd,#[yh,pv 1,T.qO,T.g_Going_wanted,wO]],#[qI,#[qr,QI,#[qN,qM,pv 2,qi],#[qB,#v[ql,ql]],#[w]],%[#[qY,#[Qm,pv 1,T.qO,T.g_Going_take,Jy,#v[#[Qm,#[qL,5,pv 0,rfl],T.yH,T.g_Project_looked_up,xl,#v[pv 2]]]]]|ps_continue],qw],#[qC,(3),yj.nd,#[Qm,pv 0,T.qx,T.g_PlainOrder_answer_yet,qZ,#v[#[qN,qM,pv 2,qi]]]],#[qI,#[qr,yX,pv 3,qU,qy _],%[|#[qp,#[qN,qM,pv 2,qi]]],qw]|#[qI,#[qr,Qn,#[qN,qM,pv 3,qi],ql,qy _],%[|#[qY,#[Qm,pv 1,T.qO,T.g_Going_take,Jy,#v[#[qN,qM,pv 3,qi]]]]],%[|#[qI,#[qr,Qn,#[qN,qM,pv 3,qi],ql,qy _],%[|#[qY,#[Qm,pv 1,T.qO,T.g_Going_take,Jy,#v[qU]]]],%[|#[Qc,8,pv 1,#[qB,#v[ql,#[qN,qM,pv 2,qi]]],rfl]]]]]]]|#[qp,qU]]
 exists 7
 let J_:Nat->L2.St->Hp->Prop:=λmm σ H1=>∃(s1:Gs) (p1:Gp) (fk1:oj (Key×V)) (u3 u4:om V),σ= [some (.ref o.x),some (.ref Z.x),u3,u4]/\mm=Sy.mu #[Y,(n,p1)::r,don]/\Rnd a.qJ a.qo H0 H H1 o #[Y,(n,p)::r,don] (plc Z st) Z s1 n p1 r fk1 top
 exists J_,⟨_,st,p,fk,none,none,1,1,h0⟩;rintro mm σ H1 ⟨s1,p1,fk1,u3,u4,rfl,rfl,O⟩;have aL:=kp_more hB hK O.kp O.tk hL;have aa:=hB.at aL;have au:∀b∈plc Z s1,H0 b=none:=λb hb=>(O.pl b hb).elim (hL b) (·.2);obtain⟨hI,aZ⟩:=O.gi (n,p1) (.inl uf);have hI:GI p1:=hI;have aw:H1 o.du=some (.dK uk):=O.kp _ _ aK (λz=>by
  rcases A5.mp z with z|z
  ·have:=hB.nd;simp [LO] at this;exact this.2.1.2 z
  ·exact(hB.new (hL _ z)).2.2.1 rfl)
 obtain⟨dx,fs,mv,av,rv,ev,e,f,i,j,a1,l⟩:=id O.go;have a2:fs.length<1000:=by have:=f.len;omega
 exists 0,Z.x,_,dx,fs,0,e,T.qO,T.Q2,f.f_end,1,0;cases he:p1.en with
 |some d=>
  have l':Is H1 d ev:=by have:=l;rwa [O.rel.en,he] at this
  have aM:d≠ .non:=by rcases hI.en d he with⟨z,rfl⟩|⟨x,rfl,_⟩|⟨z,rfl⟩<;>(intro z;cases z)
  refine iteN (ug (XQ l' aM)) ?_;exact k _ H1 s1 p1 fk1 O (.inl ⟨1,by rw [he];rfl⟩)
 |none=>
  have l':Is H1 .non ev:=by have:=l;rwa [O.rel.en,he] at this
  cases(show ev= .non from l')
  refine iteB (ue rfl) ?_;exists λσ' H'=>∃m',m'<Sy.mu #[Y,(n,p1)::r,don]/\J_ m' σ' H',λ_ _ h=>h;exists 8,B1,b1;have ax:Z.o≠Z.x:=by rw [aq];exact(hB.new (hL _ uf)).1.symm
  have ak:∀H2:Hp,(∀b ob,H1 b=some ob->b∉o.df::plc Z s1->H2 b=some ob)->∃dx fs,H2 Z.o=some (.ins a.qm dx fs)/\fs.lookup ("runner":Str)=none:=λH2 h2=>⟨_,_,(by rw [aq];exact h2 _ _ aa.e (λz=>by
   rcases A5.mp z with z|z
   ·have:=aa.e;rw [z,O.df] at this;cases this
   ·exact(hB.new (au _ z)).1 rfl)),Zz o _ ()⟩
  cases hw:QY p1 with
  |none=>
   exists 0,Z.x,dx,fs,1,e,f.meth _ ()
   refine want_spO (E:=E0) (qs:=qs) O.go O.rel hI he hw λrs rr kd z v ay al ac hz aA hv=>b1 _ _ ?_;exists 8,B2,b2;obtain⟨q,ws,rfl,hq,w1,r1,rfl,⟨rfl,aN⟩,w2,r2,rfl,⟨rfl,aB⟩,h3⟩:=id hv;cases(show r2= [] from h3)
   refine⟨0,q,_,_,0,1,SqT.of hq,1,(sml rfl),λt ht=> ?_⟩;have s2:=qf ht (.tup [V.str "has",V.str "names"]);exists t,0,.inr (SqT.of qg),1,1,0;refine iteB ((inHN kd).trans ac) ?_;obtain⟨aO,dp,op,a3,hx,hd,hk,a4⟩:=id aa.p;have a5:z.length<=300:=by
    have:=yB hz;simp only [good,Qy,uz,v9] at this;exact this.1
   obtain⟨a6,aP⟩:=look_ok hB.q z ac;generalize a7:upd H1 t (.tup [V.str "has",V.str "names"])=H2 at s2⊢;have fin:∀(u:V) (H3:Hp),Same H2 H3->Is H3 (JO qs kd z) u->Xn a.qJ a.qo a.qm [.ref Z.x,u] H3 (λ_ H4=>∃m',m'<Sy.mu #[Y,(n,p1)::r,don]/\J_ m' [some (.ref o.x),some (.ref Z.x),some (.ref q),u4] H4) E0:=λu H3 s3 hu=>by
    have U:=s2.trans s3;refine take_sp (O.go.same U) O.rel hI he hu (λaQ r' e'=> ?_) ax (ak H3 λb ob h _=>U b ob h) λH4 s4 w4 G4 R4 aR=> ?_
    ·rw [ay] at e';cases e';exact⟨kd,_,al,aP⟩
    ·rw [<-aA] at R4;have kq:∀b ob,H3 b=some ob->b∉plc Z s1->H4 b=some ob:=λb ob h n=>w4.kept b ob h (λy=>n (by rw [y];exact uf)) (λmc r' y=>by
      unfold plc at n;rw [y] at n;simp only [plcR,uC,uD,uM,UW] at n;exact⟨n.2.1,n.2.2.1,n.2.2.2⟩)
     obtain⟨m1,m2⟩:=O.more hB hK hL (Kp.of U) (U _ _ O.df) (O.fd.mono U.tk) (Nat.le_succ _) kq w4.tk G4 R4 aR (nxt_own he hw);exact⟨_,m2,s4,_,fk1,_,0,1,m1⟩
   exists 0,Z.x,dx,fs,1,s2 _ _ e,f.meth _ ()
   exists 0,o.x,_,o.dx,_,0,s2 _ _ aa.e,T.qx,T.Qb,of_gp o;exists o.px,aO,0,s2 _ _ hx,no_looked,0,o.px,q,kd,z,qs,1,aa.p.same s2,hB.q,s2 _ _ hq,()
   have aC:kd="has"∨kd≠"has"/\kd="names":=by
    unfold isHN at ac;by_cases c:kd="has"
    ·exact .inl c
    ·rw [ug c,Bool.false_or] at ac;exact .inr ⟨c,uq ac⟩
   rcases aC with c|⟨c',c⟩
   ·refine .inl ⟨c,fin _ H2 (Same.refl _) ?_⟩;unfold JO;rw [A3 c];exact YG (by split<;>decide)
   ·refine .inr ⟨c,λu H3 s3 hu=>fin u H3 s3 ?_⟩;unfold JO;rwa [A2 c']
  |some m=>
   obtain⟨a8,al⟩:=JL hI he hw;exists 0,Z.x,dx,fs,1,e,f.meth _ ()
   refine want_sp (E:=E0) O.go O.rel hI he hw λkd v H2 s2 ac hv=>b1 _ _ ?_;exists 8,B2,b2;obtain⟨q,ws,rfl,hq,w1,r1,rfl,⟨rfl,aN⟩,w2,r2,rfl,⟨rfl,aB⟩,h3⟩:=id hv;cases(show r2= [] from h3)
   refine⟨0,q,_,_,0,1,SqT.of hq,1,(sml rfl),λt ht=> ?_⟩;have s3:=qf ht (.tup [V.str "has",V.str "names"]);exists t,0,.inr (SqT.of qg),1,1,0;refine iteN ((inHN kd).trans ac) (b2 _ _ ?_);exists 8,B3,b3;generalize upd H2 t (.tup [V.str "has",V.str "names"])=H3 at s3⊢;have U:=s2.trans s3;have aD:=s3 _ _ hq;have aE:SGI #[Y,(n,p1)::r,don]:=O.gi;exists 0,o.x,o.dx,0,U _ _ aa.e,Zz o _ ()
   refine⟨0,q,_,_,0,1,SqT.of aD,1,o,m,qs,#[Y,(n,p1)::r,don],uk,fk1,1,⟨U _ _ aa.e,aa.p.same U⟩,hB.q,aE,U _ _ aw,hU,U _ _ O.df,O.fd.mono U.tk,(by have:=O.len;omega),ap,λu H4 am k4 f4 d4 l4 aS y4=> ?_⟩
   have ad:Kp [o.df] H1 H4:=(Kp.of U).trans k4;have aF:H4 q=some (.tup [V.str kd,V.str m]):=k4.tk.tup _ _ aD;have aT:o.df∉plc Z s1:=λz=>(hB.new (au _ z)).2.2.2.2 rfl;have G4:GoAt a.qJ a.qo H4 Z s1:=O.go.frame (λb hb ob h=>ad.kept b ob h (λz=>aT (by rwa [<-A6.mp z]))) ad.tk
   obtain⟨ao,ae,a9,ba,bb,bc,e4,af,i4,j4,aG,bd⟩:=id G4;refine b3 _ _ ?_;exists 8,B4,b4;exists 0,1,0;unfold YetIs at y4;cases hy:Sy.yet #[Y,(n,p1)::r,don] m with
   |none=>
    rw [hy] at y4;cases(show u= .non from y4)
    refine iteB (ue rfl) ⟨0,q,_,_,0,1,SqT.of aF,1,?_⟩;refine k _ H4 s1 p1 am ⟨O.st,(by rw [aS hy];exact O.len),λb ob h z=>ad.kept b ob (O.kp b ob h z) (λy=>z (by rw [A6.mp y];exact uf)),O.tk.trans ad.tk,f4,d4,G4,O.rel,O.pl,O.gi⟩ (.inr ⟨m,1,he,hw,hy⟩)
   |some oa=>
    rw [hy] at y4;obtain⟨d,hd,ha⟩:=y4;have sh:∃kk rr,d= .tup (.str kk::rr):=by
     cases oa with
     |none=>obtain⟨kk,rr,h,_⟩:=ha;exact⟨kk,rr,h⟩
     |some x=>cases x with
      |none=>exact⟨_,_,ha⟩
      |some y=>exact⟨_,_,ha⟩
    obtain⟨kk,rr,rfl⟩:=sh;obtain⟨qa,wa,rfl,ag,w1,r1,rfl,⟨rfl,aY⟩,h3⟩:=id hd;refine iteN (ug (λz=>by cases z)) (b4 _ _ ?_)
    exists 0,qa,_,_,0,1,SqT.of ag,QF (j:=0) rfl,1,0;have fin:∀(dd:D) (u:V),Is H4 dd u->X8 dd->Sy.nxt #[Y,(n,p1)::r,don]=⟨(n,Yq p1 dd)::r,don⟩->Xn a.qJ a.qo a.qm [.ref Z.x,u] H4 (λ_ H5=>∃m',m'<Sy.mu #[Y,(n,p1)::r,don]/\J_ m' [some (.ref o.x),some (.ref Z.x),some (.ref q),some (.ref qa)] H5) E0:=λdd u hu hok ah=>by
     refine take_sp G4 O.rel hI he hu (λaQ r' e'=> ?_) ax (ak H4 λb ob h n=>ad.kept b ob h (λz=>n (by rw [A6.mp z];exact uf))) λH5 s5 w5 G5 R5 aU=> ?_
     ·rcases al with⟨h1,_⟩|⟨rs,rr,h1,h2⟩
      ·rw [h1] at e';cases e'
      ·rw [h1] at e';cases e';exact⟨"thing",_,h2,ansB_thing hok⟩
     ·have kq:∀b ob,H4 b=some ob->b∉plc Z s1->H5 b=some ob:=λb ob h n=>w5.kept b ob h (λy=>n (by rw [y];exact uf)) (λmc r' y=>by
       unfold plc at n;rw [y] at n;simp only [plcR,uC,uD,uM,UW] at n;exact⟨n.2.1,n.2.2.1,n.2.2.2⟩)
      obtain⟨m1,m2⟩:=O.more hB hK hL ad f4 d4 l4 kq w5.tk G5 R5 aU ah;exact⟨_,m2,s5,_,am,_,0,1,m1⟩
    cases oa with
    |some x=>
     have hok:=yet_ok hB.q aE hy;have ah:=nxt_tk he hw hy;cases x with
     |some y=>
      cases(show D.tup (.str kk::rr)= .tup [.str "value",y] from ha)
      obtain⟨w5,r5,rfl,h5,h6⟩:=h3;cases(show r5= [] from h6)
      refine iteB (ue rfl) ?_;exact⟨0,Z.x,ao,ae,1,e4,af.meth _ (),0,qa,_,_,0,1,SqT.of ag,1,fin y w5 h5 hok ah⟩
     |none=>
      cases(show D.tup (.str kk::rr)= .tup [.str "lack"] from ha)
      refine iteN () ?_
      exists 0,qa,_,_,0,1,SqT.of ag,QF (j:=0) rfl,1,0;refine iteB (ue rfl) ?_;exact⟨0,Z.x,ao,ae,1,e4,af.meth _ (),fin .non .non rfl hok ah⟩
    |none=>
     obtain⟨k2,r2,e5,c1,c2⟩:=ha;cases e5;refine iteN (ug (λz=>c1 (V.str.inj z))) ?_;exists 0,qa,_,_,0,1,SqT.of ag,QF (j:=0) rfl,1,0;refine iteN (ug (λz=>c2 (V.str.inj z))) ?_;refine⟨0,q,_,_,0,1,SqT.of aF,1,(sml rfl),λt5 aH=> ?_⟩;have s5:=qf aH (.tup [V.str "stuck",V.str m]);have aI:ae.length<1000:=by have:=af.len;omega
     exists 0,Z.x,_,ao,ae,1,s5 _ _ e4,T.qO,T.Q2,aI;have aV:=Is.new (H:=H4) (ds:= [.str "stuck",.str m]) (p:=t5) ⟨_,0,YG (),_,0,⟨1,aB⟩,1⟩ aH
     obtain⟨g1,g2⟩:=Wk (C:=a.qJ) (CM:=a.qo) (g:=Z) (s:={s1 with en:= .tup [.str "stuck",.str m]}) (s5 _ _ e4) (af.set_end (u:= .ref t5)) (i4.mono s5.tk) (j4.mono s5.tk) (aG.same s5) aV
     have aJ:GRel Z {s1 with en:= .tup [.str "stuck",.str m]} (stkP p1 m):=⟨O.rel.n,O.rel.mb,O.rel.ra,O.rel.run,O.rel.own,1⟩
     have aW:Kp [o.df] H1 (upd H4 t5 (.tup [V.str "stuck",V.str m])):=ad.trans (Kp.of s5);obtain⟨m1,m2⟩:=O.more hB hK hL aW (s5 _ _ f4) (d4.mono s5.tk) l4 (λb ob h n=>g2.kept b ob h (λy=>n (by rw [y];exact uf))) g2.tk g1 aJ (λb hb=> .inl hb) (nxt_stk he hw hy)
     exact⟨_,m2,_,_,am,_,0,1,m1⟩
noncomputable def xI (CG CM:o3)(H:Hp)(ox:o3):oj (Gc×Gs)->oj (Str×Gp)->Prop
 | [],[]=>True
 |q::t,p::l=>GoAt CG CM H q.1 q.2/\GRel q.1 q.2 p.2/\q.1.o=ox/\xI CG CM H ox t l
 |_,_=>False
noncomputable def plcs:oj (Gc×Gs)->oj o3
 | []=> []
 |q::t=>plc q.1 q.2++plcs t
noncomputable def Sep:oj (Gc×Gs)->Prop
 | []=>True
 |q::t=>(∀b∈plc q.1 q.2,b∉plcs t)/\Sep t
theorem xI.frame {CG CM ox:o3}{H H':Hp}:∀{st:oj (Gc×Gs)}{l:oj (Str×Gp)},xI CG CM H ox st l->(∀b∈plcs st,∀ob,H b=some ob->H' b=some ob)->Tk H H'->xI CG CM H' ox st l
 | [],[],_,_,_=>trivial
 | [],_::_,h,_,_=>h.elim
 |_::_,[],h,_,_=>h.elim
 |q::t,p::l,⟨h1,h2,h3,h4⟩,hk,tk=>⟨h1.frame (λb O=>hk b (vE _ O)) tk,h2,h3,xI.frame h4 (λb O=>hk b (uK _ O)) tk⟩
theorem xI.there {CG CM ox:o3}{H:Hp}:∀{st:oj (Gc×Gs)}{l:oj (Str×Gp)},xI CG CM H ox st l->∀b∈plcs st,∃ob,H b=some ob
 | [],[],_=>λb O=>by cases O
 | [],_::_,h=>h.elim
 |_::_,[],h=>h.elim
 |q::t,p::l,⟨h1,h2,h3,h4⟩=>λb O=>by
  rcases A7.mp O with O|O
  ·exact h1.there b O
  ·exact xI.there h4 b O
theorem xI.len {CG CM ox:o3}{H:Hp}:∀{st:oj (Gc×Gs)}{l:oj (Str×Gp)},xI CG CM H ox st l->st.length=l.length
 | [],[],_=>rfl
 | [],_::_,h=>h.elim
 |_::_,[],h=>h.elim
 |q::t,p::l,⟨h1,h2,h3,h4⟩=>by rw [um,um,xI.len h4]
theorem lfts_len {Y:Sy}:∀l:oj (Str×Y.G),l.length<=Sy.lfts l
 | []=>ui _
 |(_,g)::r=>by
  have:=lfts_len r;show r.length+1<=Y.lft g+1+Sy.lfts r;omega
theorem mu_S0 (O:Qw qs)(n:Str):Sy.mu (Sy.S0 (SyP qs) n)<=20000:=by
 have U:=O.2.2;have Z:∀S:Sy.Ss (SyP qs),(Sy.rest S).length<=60:=λS=>by
  have h1:(Sy.rest S).length<=(qs.map (·.1)).length:=Um _ _;rw [ua] at h1;omega
 unfold Sy.mu;have h2:=Z (Sy.S0 (SyP qs) n);have h3:(SyP qs).M=302:=rfl;rw [h3];have h4:Sy.lfts (Sy.S0 (SyP qs) n).stk<=303:=by
  unfold Sy.S0;cases hg:(SyP qs).g0 n with
  |none=>exact v7 _
  |some g=>
   have:=(ya qs).l0 n g hg;show(SyP qs).lft g+1+0<=303;have h3:(SyP qs).M=302:=rfl;omega
 omega
structure OI {qs:oj (Str×D)}(CG CM:o3)(H0 H:Hp)(o:Oc)(n0:Str)(S:Sy.Ss (SyP qs))(st:oj (Gc×Gs))(uk rk fk:oj (Key×V)):Prop where
 kp:Kp (LO o) H0 H
 nx:∃j,S=Sy.nx (Sy.S0 (SyP qs) n0) j
 ls:H o.ls=some (.lst (st.reverse.map λq=>V.ref q.1.x))
 du:H o.du=some (.dK uk)
 uo:UkOk S uk
 ul:uk.length+Sy.mu S<=20001
 dr:H o.dr=some (.dK rk)
 rks:rk.map (·.1)=S.don.map λp=>Sum.inr p.1
 rv:L2.IsL H (S.don.map λp=>xR p.2) (rk.map (·.2))
 rl:S.don.length+Sy.mu S<=20001
 df:H o.df=some (.dK fk)
 fd:FdOk H S fk
 fl:fk.length+Sy.mu S<=20001
 stk:xI CG CM H o.x st S.stk
 new:∀b∈plcs st,H0 b=none
 sep:Sep st
 gi:SGI S
 fin:∀q∈S.don,(Gp.en q.2).isSome=true
 nd:(S.stk.map (·.1)++S.don.map (·.1)).Nodup
theorem S0_nd (n:Str)(j:Nat):((Sy.nx (Sy.S0 (SyP qs) n) j).stk.map (·.1)++(Sy.nx (Sy.S0 (SyP qs) n) j).don.map (·.1)).Nodup:=by
 cases O:(SyP qs).g0 n with
 |some g=>exact(Sy.nx_ok (ya qs) (Sy.S0_ok O) j).nd
 |none=>
  have e:Sy.nx (Sy.S0 (SyP qs) n) j=⟨[],[]⟩:=by
   have U:Sy.S0 (SyP qs) n=⟨[],[]⟩:=by unfold Sy.S0;rw [O]
   rw [U]
   induction j with
   |zero=>rfl
   |succ j Z=>show Sy.nxt _=_;rw [Z];rfl
  rw [e];exact vR
inductive sp_thru (CO CP:Addr) (vs:List V) (H:Hp) (Q:VK) (E_:XK):Prop
 |mk (o:Oc) (qs:List (Str×D)) (n:Str) (_:vs= [.ref o.x,.str n]) (_:Bs CO CP H o qs) (_:H o.ls=some (.lst [])) (_:H o.du=some (.dK [])) (_:H o.dr=some (.dK [])) (_:H o.df=some (.dK [])) (_:∀(H':Hp) (rk uk fk:List (Key×V)) (don:List (Str×Gp)) (j:Nat),H' o.du=some (.dK uk)->UkOk #[Y,[],don] uk->H' o.df=some (.dK fk)->FdOk H' #[Y,[],don] fk->fk.length<=20001->SGI #[Y,[],don]->Kp (LO o) H H'->Sy.nx (Sy.S0 (SyP qs) n) j=⟨[],don⟩->H' o.dr=some (.dK rk)->(rk.map (·.1)=don.map λp=>Sum.inr p.1)->L2.IsL H' (don.map λp=>xR p.2) (rk.map (·.2))->(∀p∈don,GI p.2/\p.2.en.isSome=true)->don.length<=20001->Q .non H')
theorem ji {α:Type}{xs:oj α}{x:α}:atI (xs++ [x]) (-1)=some x:=by
 unfold atI ixN;have O:(xs++ [x]).length=xs.length+1:=by simp
 rw [A2 (),A3 ()]
 show(xs++ [x])[(-1+((xs++ [x]).length:Int)).toNat]? =some x;rw [show(-1+((xs++ [x]).length:Int)).toNat=xs.length by omega]
 simp
theorem nx_add {Y:Sy}(S:Sy.Ss Y)(i:Nat):∀j,Sy.nx S (i+j)=Sy.nx (Sy.nx S i) j
 |0=>rfl
 |j+1=>by show Sy.nxt (Sy.nx S (i+j))=Sy.nxt (Sy.nx (Sy.nx S i) j);rw [nx_add S i j]
theorem nx_le {qs:oj (Str×D)}(S:Sy.Ss (SyP qs)):∀j,Sy.mu (Sy.nx S j)<=Sy.mu S
 |0=>ui _
 |j+1=>by
  have h:=nx_le S j;show Sy.mu (Sy.nxt (Sy.nx S j))<=_;by_cases c:(Sy.nx S j).stk= []
  ·have e:Sy.nxt (Sy.nx S j)=Sy.nx S j:=by unfold Sy.nxt;rw [c]
   rwa [e]
  ·have:=Sy.nxt_mu (ya qs) c;omega
theorem ok_thru (T:Tx K mg a)(C:Fx K w mg g a):#[K,13,a.yA,a.yC,["self","name"],(sp_thru a.qm a.qD)]:=by
 have qZ:=#[ok_yet,T];have YQ:=#[ok_enter,T,C];have Xj:=#[ok_gon,T,C];have xH:=#[ok_settle,T];exists 9,T.g_PlainOrder_go_through,QJ
 obtain⟨o,qs,n,rfl,hB,bD,bg,bE,bF,k⟩:=h;have hs:=uE;have hO:=hB.oa;exists _,%[#[qI,#[qr,yX,#[Qm,pv 0,T.qx,T.g_PlainOrder_answer_yet,qZ,#v[pv 1]],qU,qy _],%[|#[qY,#[Qm,pv 0,T.qx,T.g_PlainOrder_enter,YQ,#v[pv 1]]]],qw]|#[JE,#[pt_truth,3,#[qL,5,pv 0,rfl],(λ_=>rfl)],%[#[qC,(2),QJ.nd,#[qN,Q4,#[qL,5,pv 0,rfl],#[pe_un,6,zO,qi]]],#[qC,(3),QJ.nd,#[Qm,pv 0,T.qx,T.g_PlainOrder_go_on,Xj,#v[pv 2]]]|#[qI,#[qr,yX,pv 3,qU,qy _],%[#[qY,#[pe_bm0,9,uV,PySem.F.slot_list_pop,PySem.F.type_list_pop,mt_pop,#[qL,5,pv 0,rfl],_,_]],#[qY,#[pe_dpop1,7,#[qL,5,pv 0,rfl],#[qL,5,pv 2,rfl],⟨1,1,1,1⟩]]|#[qY,#[Qm,pv 0,T.qx,T.g_PlainOrder_settle,xH,#v[pv 2]]]],%[|#[qY,#[Qm,pv 0,T.qx,T.g_PlainOrder_enter,YQ,#v[pv 3]]]]]]]]
 exists 7
 have bG:=mu_S0 hB.q n;exists 8,N,hN;have bH:∀(H1:Hp) (S:Sy.Ss (SyP qs)) (st:oj (Gc×Gs)) (uk rk fk:oj (Key×V)),OI a.qJ a.qo H H1 o n S st uk rk fk->N [some (.ref o.x),some (.str n),none,none] H1:=by
  intro H1 S st uk rk fk h1;refine hN _ _ ?_
  let J_:Nat->L2.St->Hp->Prop:=λmm σ H2=>∃(S:Sy.Ss (SyP qs)) (st:oj (Gc×Gs)) (uk rk fk:oj (Key×V)) (u3 u4:om V),σ= [some (.ref o.x),some (.str n),u3,u4]/\mm=Sy.mu S/\OI a.qJ a.qo H H2 o n S st uk rk fk
  exists J_,⟨_,S,st,uk,rk,fk,none,none,1,1,h1⟩;clear h1 bg bE bF bD;rintro mm σ H2 ⟨S,st,uk,rk,fk,u3,u4,rfl,rfl,Z⟩;have bh:=hB.at Z.kp;exists 0,o.x,_,o.dx,_,0,bh.e,T.qx,T.Qz,of_st o,_,.inl ⟨_,SqL.of Z.ls,1⟩;obtain⟨(stk:oj (Str×Gp)),(don:oj (Str×Gp))⟩:=S;have ax:xI a.qJ a.qo H2 o.x st stk:=Z.stk;cases st with
  |nil=>
   cases stk with
   |cons p l=>exact ax.elim
   |nil=>
    refine iteN rfl ?_;obtain⟨j,hj⟩:=Z.nx;exact k H2 rk uk fk don j Z.du Z.uo Z.df Z.fd (by have:=Z.fl;omega) Z.gi Z.kp hj.symm Z.dr Z.rks Z.rv (λp hp=>⟨(Z.gi p (.inr hp)).1,Z.fin p hp⟩) (by have:=Z.rl;have e:(#[Y,[],don].don).length=don.length:=rfl;omega)
  |cons q t=>
   obtain⟨gc,gs⟩:=q;cases stk with
   |nil=>exact ax.elim
   |cons p l=>
    obtain⟨O,p⟩:=p;obtain⟨hG,bo,bI,hT⟩:=ax;have hG:GoAt a.qJ a.qo H2 gc gs:=hG;have bo:GRel gc gs p:=bo;have am:H2 o.ls=some (.lst ((t.reverse.map λq=>V.ref q.1.x)++ [V.ref gc.x])):=by
     have:=Z.ls;rwa [UQ,uw] at this
    refine iteB (by rw [UQ,uw];show(!((List.map _ t.reverse)++ [V.ref gc.x]).isEmpty)=true;simp) ?_
    exists λσ' H'=>∃m',m'<Sy.mu #[Y,(O,p)::l,don]/\J_ m' σ' H',λ_ _ h=>h;exists 8,B1,b1;refine⟨0,o.x,_,o.dx,_,0,bh.e,T.qx,T.Qz,of_st o,0,o.ls,_,_,0,1,SqL.of am,ji,b1 _ _ ?_⟩;exists 8,B2,b2;have ao:∀b∈plc gc gs,H b=none:=λb U=>Z.new b (vE _ U);have ac:∀b∈plcs t,H b=none:=λb U=>Z.new b (uK _ U);have bJ:∃j,#[Y,(O,p)::l,don]=Sy.nx #[Y,(O,p)::l,don] j:=⟨(0),1⟩;refine⟨0,o.x,o.dx,0,bh.e,Zz o _ (),0,H,o,qs,gc,gs,O,p,l,don,uk,fk,(20001),1,hB,Z.kp,Z.du,Z.uo,Z.fin,(),bI,ao,⟨bJ,Z.fl,λ_ _ h _=>h,Tk.refl _,Z.df,Z.fd,hG,bo,λb U=> .inl U,Z.gi⟩,λv H3 ak p3 ad hR hv=> ?_⟩
    have aW:Sy.mu #[Y,(O,p3)::l,don]<=Sy.mu #[Y,(O,p)::l,don]:=by
     obtain⟨j,hj⟩:=hR.st;have hj:#[Y,(O,p3)::l,don]=Sy.nx #[Y,(O,p)::l,don] j:=hj;rw [hj];exact nx_le _ _
    have bK:∃j,#[Y,(O,p3)::l,don]=Sy.nx (Sy.S0 (SyP qs) n) j:=by
     obtain⟨j,hj⟩:=hR.st;obtain⟨i,hi⟩:=Z.nx;have hj:#[Y,(O,p3)::l,don]=Sy.nx #[Y,(O,p)::l,don] j:=hj;exact⟨i+j,by rwa [nx_add,<-hi]⟩
    have ap:Kp (LO o) H H3:=kp_more hB Z.kp hR.kp hR.tk ao;have ay:=hB.at ap;have aq:∀b∈plc gc ak,H b=none:=λb U=>(hR.pl b U).elim (ao b) (·.2);have out:∀b,b∈LO o->b≠o.df->b∉o.df::plc gc gs:=λb U hn z=>by
     rcases A5.mp z with z|z
     ·exact hn z
     ·exact hB.nlo (ao b z) U
    have bZ:o.ls≠o.du/\o.ls≠o.dr/\o.ls≠o.df/\o.du≠o.dr/\o.du≠o.df/\o.dr≠o.df:=by
     have h:=hB.nd;simp only [LO,U4,uC,uD,uM,UW,vR,and_true,UP] at h;exact⟨h.1.1,h.1.2.1,h.1.2.2,h.2.1.1,h.2.1.2,h.2.2⟩
    obtain⟨d1,d2,d3,d4,d5,d6⟩:=bZ;have af:=hR.kp _ _ am (out _ (by simp [LO]) d3)
    have aA:=hR.kp _ _ Z.du (out _ (by simp [LO]) d5)
    have aB:=hR.kp _ _ Z.dr (out _ (by simp [LO]) d6)
    have bp:xI a.qJ a.qo H3 o.x t l:=hT.frame (λb U ob h=>hR.kp b ob h (λz=>by
     rcases A5.mp z with z|z
     ·exact(hB.new (ac b U)).2.2.2.2 z
     ·exact Z.sep.1 b z U)) hR.tk
    have bq:∀b∈plc gc ak,b∉plcs t:=λb U z=>by
     rcases hR.pl b U with U|⟨U,_⟩
     ·exact Z.sep.1 b U z
     ·obtain⟨ob,e⟩:=hT.there b z;rw [e] at U;cases U
    have b3:GI p3:=(hR.gi (O,p3) (.inl uf)).1;have aX:p3.n=O:=(hR.gi (O,p3) (.inl uf)).2;have bL:=Z.ul;have bM:=hR.len;have b4:=Z.rl;have cm:don.length+Sy.mu #[Y,(O,p)::l,don]<=20001:=b4;have b5:ad.length+Sy.mu #[Y,(O,p3)::l,don]<=20001:=bM;have aC:=Sy.nxt_mu (ya qs) (S:=#[Y,(O,p3)::l,don]) (by intro z;cases z)
    have cn:rk.length=don.length:=by
     have:=congrArg List.length Z.rks;rwa [ua,ua] at this
    have aD:H3 o.df=some (.dK ad):=hR.df;have aO:GoAt a.qJ a.qo H3 gc ak:=hR.go;have ag:GRel gc ak p3:=hR.rel;have aY:FdOk H3 #[Y,(O,p3)::l,don] ad:=hR.fd;have aZ:SGI #[Y,(O,p3)::l,don]:=hR.gi;obtain⟨i3,aP⟩:=bK;refine b2 _ _ ?_;exists 0,1,0;rcases hv with⟨rfl,au⟩|⟨m,rfl,au,hw,hy⟩
    ·
     refine iteB (ue rfl) ?_;exists 8,C1,c1;obtain⟨d,hd⟩:∃d,p3.en=some d:=by
      cases h:p3.en with
      |none=>rw [h] at au;cases au
      |some d=>exact⟨d,1⟩
     have ae:=nxt_pop (qs:=qs) (n:=O) (r:=l) (don:=don) hd;exists 0,o.x,_,o.dx,_,0,ay.e,T.qx,T.Qz,of_st o,.inl ⟨1,_,SqL.of af⟩;exists o.ls,_,V.ref gc.x,1,1,af,by simp
     rw [List.dropLast_concat];have aa:Kp [o.ls,o.du] H3 (upd H3 o.ls (.lst (t.reverse.map λq=>V.ref q.1.x))):=⟨λb ob h n=>by rw [qh (λz=>n (by rw [z];exact uf))];exact h,Kept.tk (p:=o.ls) (λb ob h n=>by rwa [qh n]) af qg⟩
     obtain⟨H4,aE⟩:∃H4,H4=upd H3 o.ls (.lst (t.reverse.map λq=>V.ref q.1.x)):=⟨0⟩;rw [<-aE] at aa⊢;refine c1 _ _ ?_;exists 8,C2,c2;have e4:H4 o.x=some (.ins a.qm o.dx (ofs o)):=by rw [aE,qh (λz=>by have:=ay.e;rw [z,af] at this;cases this)];exact ay.e
     have aF:H4 o.ls=some (.lst (t.reverse.map λq=>V.ref q.1.x)):=by rw [aE];exact qg
     have al:H4 o.du=some (.dK uk):=by rwa [aE,qh d1.symm]
     have bN:∀b,H b=none->b≠o.ls:=λb U=>(hB.new U).2.1;have b6:GoAt a.qJ a.qo H4 gc ak:=aO.frame (λb U ob h=>by rwa [aE,qh (bN b (aq b U))]) aa.tk
     obtain⟨b7,b8,cp,cq,cr,cu,b9,f4,_⟩:=id b6;have aG:(valV uk (Sum.inr gc.n)).isSome=true:=by
      rw [ag.n,aX];exact(Z.uo O).trans (ue uf)
     obtain⟨uv,ca⟩:∃uv,valV uk (Sum.inr gc.n)=some uv:=by
      cases h:valV uk (Sum.inr gc.n) with
      |none=>rw [h] at aG;cases aG
      |some uv=>exact⟨uv,1⟩
     exists 0,o.x,_,o.dx,_,0,e4,T.qx,T.Qv,of_uw o,o.du,1,.inl ⟨_,.inl al⟩,0,gc.x,_,b7,b8,0,b9,T.qO,T.yY,f4.zH,uk,Sum.inr gc.n,uv,al,1,ca;have ah:Kp [o.ls,o.du] H3 (upd H4 o.du (.dK (Y5 uk (Sum.inr gc.n)))):=aa.trans (Kp.updD al (uc _ uf));obtain⟨H5,bt⟩:∃H5,H5=upd H4 o.du (.dK (Y5 uk (Sum.inr gc.n))):=⟨0⟩;rw [<-bt] at ah⊢;refine c2 _ _ ?_;have bO:H5 o.du=some (.dK (Y5 uk (Sum.inr gc.n))):=by rw [bt];exact qg
     have bP:H5 o.ls=some (.lst (t.reverse.map λq=>V.ref q.1.x)):=by rwa [bt,qh d1]
     have aH:∀b,H b=none->b∉ [o.ls,o.du]:=λb U z=>by
      simp only [uC,uD,uM] at z;rcases z with z|z
      ·exact(hB.new U).2.1 z
      ·exact(hB.new U).2.2.1 z
     have cb:GoAt a.qJ a.qo H5 gc ak:=aO.frame (λb U ob h=>ah.kept b ob h (aH b (aq b U))) ah.tk;have bQ:H5 o.dr=some (.dK rk):=ah.kept _ _ aB (by simp only [uC,uD,uM,UW];exact⟨d2.symm,d4.symm⟩)
     have bR:H5 o.df=some (.dK ad):=ah.kept _ _ aD (by simp only [uC,uD,uM,UW];exact⟨d3.symm,d5.symm⟩)
     have aQ:∀b,b∉LO o->b∉ [o.ls,o.du]:=λb U z=>U (by simp only [LO,uC,uD,uM] at z⊢;rcases z with z|z;exact .inl z;exact .inr (.inl z))
     have bu:Kp (LO o) H H5:=⟨λb ob h n=>ah.kept b ob (ap.kept b ob h n) (aQ b n),ap.tk.trans ah.tk⟩;have bS:=hB.at bu;refine⟨0,o.x,o.dx,0,bS.e,Zz o _ (),0,o,qs,gc,ak,p3,rk,ad,1,bS,cb,ag,b3,au,bQ,(),bR,(),d6,λz=>(hB.new (aq _ z)).2.2.2.1 rfl,λz=>(hB.new (aq _ z)).2.2.2.2 rfl,λv1 v2 H6 aw aI i6 ba j6=> ?_⟩
     have bT:∀b,b∉LO o->b∉ [o.dr,o.df]:=λb U z=>U (by simp only [LO,uC,uD,uM] at z⊢;rcases z with z|z;exact .inr (.inr (.inl z));exact .inr (.inr (.inr z)))
     have cc:∀b,H b=none->b∉ [o.dr,o.df]:=λb U=>bT b (hB.nlo U);have cd:Kp (LO o) H H6:=⟨λb ob h n=>aw.kept b ob (bu.kept b ob h n) (bT b n),bu.tk.trans aw.tk⟩;have aJ:Tk H3 H6:=ah.tk.trans aw.tk;have bv:gc.n=O:=ag.n.trans aX;have aR:(#[Y,(O,p3)::l,don].stk.map (·.1)++#[Y,(O,p3)::l,don].don.map (·.1)).Nodup:=by
      rw [aP];exact S0_nd n i3
     have bb:(O::(l.map (·.1)++don.map (·.1))).Nodup:=aR;have aK:O∉don.map (·.1):=λz=>(List.nodup_cons.mp bb).1 (uK _ z);have bw:O∉l.map (·.1):=λz=>(List.nodup_cons.mp bb).1 (vE _ z);have ce:valV rk (Sum.inr O)=none:=by
      cases h:valV rk (Sum.inr O) with
      |none=>rfl
      |some v=>
       have h1:=valV_in h;rw [Z.rks] at h1;obtain⟨q,hq,e⟩:=A8.mp h1;injection e with e
       exact absurd (A8.mpr ⟨q,hq,e⟩) aK
     rw [bv] at aI ba;rw [kg v1 ce] at aI;have bU:uk.length+Sy.mu #[Y,(O,p)::l,don]<=20001:=bL;have cv:=dropK_le uk (Sum.inr gc.n:Key);have cf:=yL ad (Sum.inr O:Key) v2;have a1:UkOk #[Y,l,don++ [(O,p3)]] (Y5 uk (Sum.inr gc.n)):=by
      intro m';rw [Z6];by_cases c:m'=O
      ·rw [A3 (by rw [c,bv]),c]
       exact(ug bw).symm
      ·rw [A2 (by rw [bv];exact λz=>c (Ui z))]
       refine(Z.uo m').trans ?_;rw [uX];exact⟨λz=>by rcases A5.mp z with z|z;exact absurd z c;exact z,λz=>uc _ z⟩
     have a2:(rk++ [((Sum.inr O:Key),v1)]).map (·.1)=(don++ [(O,p3)]).map λq:Str×Gp=>(Sum.inr q.1:Key):=by
      rw [uw,uw];have:=Z.rks;rw [this]
      rfl
     have a3:L2.IsL H6 ((don++ [(O,p3)]).map λq:Str×Gp=>xR q.2) ((rk++ [((Sum.inr O:Key),v1)]).map (·.2)):=by
      rw [uw,uw];exact((Z.rv.mono (hR.tk.trans aJ))).append (L2.IsL.one i6)
     have a4:(don++ [(O,p3)]).length=don.length+1:=by rw [uA];rfl
     have a5:∀(m':Str) (g':Gp),g0D m' (qE qs m')=some g'->(∀g2:Gp,Sy.YH (Y:=SyP qs) (don++ [(O,p3)]) m'=some g2->∃v,valV (putK ad (Sum.inr O) v2) (Sum.inr m')=some v/\Is H6 (xL (g2.en.getD .non)) v)/\(Sy.YH (Y:=SyP qs) (don++ [(O,p3)]) m'=none->valV (putK ad (Sum.inr O) v2) (Sum.inr m')=none):=by
      intro m' g' cg;rw [XE];by_cases c:m'=O
      ·have aL:Sy.YH (Y:=SyP qs) (don++ [(O,p3)]) m'=(some p3:om Gp):=by
        have e1:(don.find? λq=>decide (q.1=m'))=none:=List.find?_eq_none.mpr λq hq e=>aK (by rw [<-c,<-uq e];exact List.mem_map_of_mem hq)
        have e2:((don++ [(O,p3)]).find? λq:Str×Gp=>decide (q.1=m'))=some (O,p3):=by rw [List.find?_append,e1,c];simp
        show((don++ [(O,p3)]).find? λq:Str×Gp=>decide (q.1=m')).map (·.2)=some p3;rw [e2]
        rfl
       refine⟨λg2 e2=> ?_,λz=> ?_⟩
       ·have e3:=aL.symm.trans e2;cases e3;rw [A3 (by rw [c])]
        exact⟨v2,1,j6⟩
       ·have e3:=aL.symm.trans z;cases e3
      ·have aL:Sy.YH (Y:=SyP qs) (don++ [(O,p3)]) m'=Sy.YH (Y:=SyP qs) don m':=by
        have e2:((don++ [(O,p3)]).find? λq:Str×Gp=>decide (q.1=m'))=don.find? λq:Str×Gp=>decide (q.1=m'):=by
         rw [List.find?_append];have:([(O,p3)].find? λq:Str×Gp=>decide (q.1=m'))=none:=by simp;exact λz=>c z.symm
         rw [this,Option.or_none]
        show((don++ [(O,p3)]).find? λq:Str×Gp=>decide (q.1=m')).map (·.2)=(don.find? λq:Str×Gp=>decide (q.1=m')).map (·.2);rw [e2]
       rw [A2 (λz=>c (Ui z))];have aM:(∀g2:Gp,Sy.YH (Y:=SyP qs) don m'=some g2->∃v,valV ad (Sum.inr m')=some v/\Is H6 (xL (g2.en.getD .non)) v)/\(Sy.YH (Y:=SyP qs) don m'=none->valV ad (Sum.inr m')=none):=(aY.mono aJ) m' g' cg;exact⟨λg2 e2=>aM.1 g2 (aL.symm.trans e2),λz=>aM.2 (aL.symm.trans z)⟩
     have a6:xI a.qJ a.qo H6 o.x t l:=bp.frame (λb U ob h=>aw.kept b ob (ah.kept b ob h (aH b (ac b U))) (cc b (ac b U))) aJ;have a7:∀q∈don++ [(O,p3)],q.2.en.isSome=true:=by
      intro q hq;rcases A7.mp hq with hq|hq
      ·exact Z.fin q hq
      ·cases A6.mp hq;exact au
     have eN:Sy.nx (Sy.S0 (SyP qs) n) (i3+1)=Sy.nxt #[Y,(O,p3)::l,don]:=by show Sy.nxt (Sy.nx _ i3)=_;rw [<-aP]
     have a8:=S0_nd (qs:=qs) n (i3+1);rw [eN] at a8;have a9:=nxt_gi hB.q aZ;have bx:OI a.qJ a.qo H H6 o n (Sy.nxt #[Y,(O,p3)::l,don]) t (Y5 uk (Sum.inr gc.n)) (rk++ [(Sum.inr O,v1)]) (putK ad (Sum.inr O) v2):=by
      refine⟨cd,⟨i3+1,eN.symm⟩,aw.kept _ _ bP (by simp only [uC,uD,uM,UW];exact⟨d2,d3⟩),aw.kept _ _ bO (by simp only [uC,uD,uM,UW];exact⟨d4,d5⟩),?_,(),aI,?_,?_,?_,ba,?_,(),?_,ac,Z.sep.2,a9,?_,a8⟩
      ·rwa [ae]
      ·rwa [ae]
      ·rwa [ae]
      ·have e:(Sy.nxt #[Y,(O,p3)::l,don]).don.length=don.length+1:=by rwa [ae]
       omega
      ·rwa [ae]
      ·rwa [ae]
      ·rwa [ae]
     exact⟨_,Nat.lt_of_lt_of_le aC aW,_,t,_,_,_,_,0,1,bx⟩
    ·
     refine iteN (ug (λz=>by cases z)) ?_
     obtain⟨p',ch,ae⟩:=nxt_push (qs:=qs) au hw hy;rw [ae] at aC;obtain⟨y1,_,y3⟩:=Sy.JG hy;have bV:=lfts_len (Y:=SyP qs) ((O,p3)::l);have aS:((O,p3)::l).length<=Sy.mu #[Y,(O,p3)::l,don]:=uL bV (UU _ _);have cw:t.length=l.length:=hT.len;have bU:uk.length+Sy.mu #[Y,(O,p)::l,don]<=20001:=bL;refine⟨0,o.x,o.dx,0,ay.e,Zz o _ (),0,o,m,qs,_,uk,p',1,ay,hB.q,af,?_,aA,(),ch,λgn sn H4 aa aF al bA bB bC aT=> ?_⟩
     ·rw [uA,ua,List.length_reverse,vL];rw [um] at aS;omega
     have aQ:∀b,b∉LO o->b∉ [o.ls,o.du]:=λb U z=>U (by simp only [LO,uC,uD,uM] at z⊢;rcases z with z|z;exact .inl z;exact .inr (.inl z))
     have ci:Kp (LO o) H H4:=⟨λb ob h n=>aa.kept b ob (ap.kept b ob h n) (aQ b n),ap.tk.trans aa.tk⟩;have aH:∀b,H b=none->b∉ [o.ls,o.du]:=λb U=>aQ b (hB.nlo U);have aN:∀b∈plc gn sn,H b=none:=λb U=>by
      have h3:=aT b U;cases h:H b with
      |none=>rfl
      |some ob=>
       by_cases c:b∈LO o
       ·simp only [LO,uC,uD,uM] at c;rcases c with rfl|rfl|rfl|rfl
        ·rw [af] at h3;cases h3
        ·rw [aA] at h3;cases h3
        ·rw [aB] at h3;cases h3
        ·rw [aD] at h3;cases h3
       ·rw [ap.kept b ob h c] at h3;cases h3
     exists _,Nat.lt_of_lt_of_le aC aW,⟨(m,p')::(O,p3)::l,don⟩,(gn,sn)::(gc,ak)::t,putK uk (Sum.inr m) (.bl true),rk,ad,_,0,1;have cf:=yL uk (Sum.inr m:Key) (.bl true);refine⟨ci,⟨i3+1,by show _=Sy.nxt (Sy.nx _ i3);rw [<-aP,ae]⟩,?_,al,?_,(),aa.kept _ _ aB (by simp only [uC,uD,uM,UW];exact⟨d2.symm,d4.symm⟩),Z.rks,Z.rv.mono (hR.tk.trans aa.tk),?_,aa.kept _ _ aD (by simp only [uC,uD,uM,UW];exact⟨d3.symm,d5.symm⟩),?_,(),?_,?_,?_,?_,Z.fin,?_⟩
     ·rw [aF,UQ,UQ,uw,uw]
      rfl
     ·intro m';rw [XE];by_cases c:m'=m
      ·rw [A3 (by rw [c])]
       exact(ue (by rw [c];exact uf)).symm
      ·rw [A2 (λz=>c (Ui z))];refine(Z.uo m').trans ?_;rw [uX];exact⟨λz=>uc _ z,λz=>by rcases A5.mp z with z|z;exact absurd z c;exact z⟩
     ·show don.length+_<=_;omega
     ·exact aY.mono aa.tk
     ·exact⟨bA,bB,bC,aO.frame (λb U ob h=>aa.kept b ob h (aH b (aq b U))) aa.tk,ag,bI,bp.frame (λb U ob h=>aa.kept b ob h (aH b (ac b U))) aa.tk⟩
     ·intro b U;rcases A7.mp U with U|U
      ·exact aN b U
      ·rcases A7.mp U with U|U
       ·exact aq b U
       ·exact ac b U
     ·refine⟨λb U z=> ?_,bq,Z.sep.2⟩;have h3:=aT b U;rcases A7.mp z with z|z
      ·obtain⟨ob,e⟩:=aO.there b z;rw [e] at h3;cases h3
      ·obtain⟨ob,e⟩:=bp.there b z;rw [e] at h3;cases h3
     ·have:=nxt_gi hB.q aZ;rwa [ae] at this
     ·have:=S0_nd (qs:=qs) n (i3+1);have e:Sy.nx (Sy.S0 (SyP qs) n) (i3+1)=⟨(m,p')::(O,p3)::l,don⟩:=by show Sy.nxt (Sy.nx _ i3)=_;rw [<-aP,ae]
      rwa [e] at this
 have u0:UkOk #[Y,[],[]] []:=λm=>by rw [Kb];rfl
 have f0:FdOk H #[Y,[],[]] []:=λm g hg=>⟨(λg' e=>by cases e),λ_=>Kb⟩
 have g0:SGI #[Y,[],[]]:=λp hp=>by rcases hp with hp|hp<;>cases hp
 refine⟨0,o.x,o.dx,0,hO.e,Zz o _ (),0,o,n,qs,#[Y,[],[]],[],[],1,hO,hB.q,g0,bg,u0,bF,f0,(),(λ_ z=>by cases z),λv H1 fk1 k1 f1 d1 l1 bW y1=> ?_⟩
 have aR:=hB.nd;simp only [LO,U4,uC,uD,uM,UW,vR,and_true,UP] at aR;obtain⟨⟨n1,n2,n3⟩,⟨n4,n5⟩,n6⟩:=aR;have aU:∀b,b≠o.df->b∉ [o.df]:=λb U z=>U (A6.mp z);have aV:Kp (LO o) H H1:=⟨λb ob h z=>k1.kept b ob h (λy=>z (by rw [A6.mp y];simp [LO])),k1.tk⟩
 have bX:=hB.at aV;have bc:=k1.kept _ _ bD (aU _ n3);have bd:=k1.kept _ _ bg (aU _ n5);have be:=k1.kept _ _ bE (aU _ n6);exists 1,0;unfold YetIs at y1;cases hg:(SyP qs).g0 n with
 |none=>
  have ey:Sy.yet #[Y,[],[]] n=some (some ((SyP qs).once n)):=by
   unfold Sy.yet;rw [A2 (by intro z;cases z),hg]
  rw [ey] at y1;obtain⟨d,i1,i2⟩:=y1;have cj:d≠ .non:=by
   cases h:(SyP qs).once n with
   |none=>rw [h] at i2;intro z;rw [z] at i2;cases i2
   |some x=>rw [h] at i2;intro z;rw [z] at i2;cases i2
  refine iteN (ug (XQ i1 cj)) ?_;have e0:Sy.S0 (SyP qs) n=⟨[],[]⟩:=by unfold Sy.S0;rw [hg]
  rw [e0] at bG;have l1:fk1.length<=0+1:=l1;exact bH H1 ⟨[],[]⟩ [] [] [] fk1 ⟨aV,⟨(0),e0.symm⟩,bc,bd,u0,(by show 0+_<=_;omega),be,1,1,(by show 0+_<=_;omega),f1,d1,(),trivial,(λb U=>by cases U),trivial,g0,(λq hq=>by cases hq),vR⟩
 |some p=>
  have ey:Sy.yet #[Y,[],[]] n=none:=by
   unfold Sy.yet;rw [A2 (by intro z;cases z),hg]
   rfl
  rw [ey] at y1;cases(show v= .non from y1)
  refine iteB (ue rfl) ?_;have e0:Sy.S0 (SyP qs) n=⟨[(n,p)],[]⟩:=by unfold Sy.S0;rw [hg]
  rw [e0] at bG;have bW:fk1.length=0:=bW ey;refine⟨0,o.x,o.dx,0,bX.e,Zz o _ (),0,o,n,qs,[],[],p,1,bX,hB.q,bc,(),bd,(),hg,λgn sn H2 k2 am bY bA bB bC aT=> ?_⟩
  have ck:Kp (LO o) H H2:=⟨λb ob h z=>k2.kept b ob (aV.kept b ob h z) (λy=>z (by simp only [LO,uC,uD,uM] at y⊢;rcases y with y|y;exact .inl y;exact .inr (.inl y))),aV.tk.trans k2.tk⟩
  have aN:∀b∈plc gn sn,H b=none:=λb U=>by
   have h3:=aT b U;cases h:H b with
   |none=>rfl
   |some ob=>
    by_cases c:b=o.df
    ·rw [c,f1] at h3;cases h3
    ·rw [k1.kept b ob h (aU b c)] at h3;cases h3
  have bf:∀b,b≠o.ls->b≠o.du->b∉ [o.ls,o.du]:=λb h1 h2 z=>by
   simp only [uC,uD,uM] at z;rcases z with z|z
   ·exact h1 z
   ·exact h2 z
  refine bH H2 ⟨[(n,p)],[]⟩ [(gn,sn)] (putK [] (Sum.inr n) (.bl true)) [] fk1 ⟨ck,⟨(0),e0.symm⟩,am,bY,?_,?_,k2.kept _ _ be (bf _ (Uu n2) (Uu n4)),1,1,(by show 0+_<=_;omega),k2.kept _ _ f1 (bf _ (Uu n3) (Uu n5)),d1.mono k2.tk,(),⟨bA,bB,bC,trivial⟩,?_,⟨λb U z=>(by cases z),trivial⟩,?_,(λq hq=>by cases hq),?_⟩
  ·intro m';rw [XE];by_cases c:m'=n
   ·rw [A3 (by rw [c])]
    exact(ue (by rw [c];exact uf)).symm
   ·rw [A2 (λz=>c (Ui z)),Kb];exact(ug (λz=>c (A6.mp z))).symm
  ·have:=yL [] (Sum.inr n:Key) (.bl true);rw [List.length_nil] at this;omega
  ·intro b U;rcases A7.mp U with U|U
   ·exact aN b U
   ·cases U
  ·intro q hq;rcases hq with hq|hq
   ·cases A6.mp hq;exact gi_g0 hB.q hg
   ·cases hq
  ·exact List.nodup_cons.mpr ⟨(λz=>by cases z),vR⟩
end
namespace Sy
variable {Y:Sy}
variable {n0:Str}
theorem yet_F (h:Y.Ok){n:Str}{g:Y.G}{r don:oj (Str×Y.G)}(hs:SOk n0 (⟨(n,g)::r,don⟩:Ss Y))(hf:Y.fin g=false)(hw:Y.want g=some m){o:om (om D)}(O:yet (⟨(n,g)::r,don⟩:Ss Y) m=some o):F Y m=o:=by
 obtain⟨⟨⟨s,k,U,hk⟩,c2,c3⟩,nd,Z,bot⟩:=hs;unfold yet at O;by_cases c:m∈((n,g)::r).map (·.1)
 ·rw [A3 c] at O;cases O;have w:Wt Y n m:=⟨s,k,U,by rwa [<-hk],by rwa [<-hk]⟩
  rcases A5.mp c with rfl|hm
  ·exact Xw h (.one w)
  ·exact Xw h (.more (chn_wts (g:=g) ⟨⟨s,k,U,hk⟩,c2,c3⟩ hm) w)
 ·rw [A2 c] at O;cases hg:Y.g0 m with
  |none=>
   rw [hg] at O;cases O;exact F_once h hg
  |some gm=>
   rw [hg] at O;simp only at O;cases hd:YH don m with
   |none=>rw [hd] at O;cases O
   |some gd=>
    rw [hd] at O;cases O;obtain⟨s',e1,e2⟩:=Z _ (WS hd);rw [hg] at e1;cases e1;have e3:gd=it Y (F Y) Y.M gm:=e2;rw [F_run h hg,e3]
noncomputable def Hist (Y:Sy)(ns:oj Str)(n:Str)(g:Y.G):Prop:=∃s k,Y.g0 n=some s/\g=it Y (F Y) k s/\∀i,i<k->Y.fin (it Y (F Y) i s)=false->∀m,Y.want (it Y (F Y) i s)=some m->Y.g0 m=none∨m∈ns
theorem Hist.more {ns O:oj Str}{n:Str}{g:Y.G}(h:Hist Y ns n g)(hn:∀m∈ns,m∈O):Hist Y O n g:=by
 obtain⟨s,k,h1,h2,h3⟩:=h;exact⟨s,k,h1,h2,λi hi U m Z=>(h3 i hi U m Z).imp id (hn m)⟩
noncomputable def Zl (S:Ss Y):oj Str:=S.stk.map (·.1)++S.don.map (·.1)
noncomputable def Clo (S:Ss Y):Prop:=∀p,p∈S.stk∨p∈S.don->Hist Y (Zl S) p.1 p.2
variable {S:Ss Y}
theorem nxt_clo (h:Y.Ok)(hs:SOk n0 S)(c:Clo S):Clo (nxt S):=by
 obtain⟨stk,don⟩:=S;cases stk with
 |nil=>exact c
 |cons p r=>
  obtain⟨n,g⟩:=p;have c0:=c (n,g) (.inl uf);have on:∀g',Y.fin g=false->step Y (F Y) g=g'->(∀m,Y.want g=some m->Y.g0 m=none∨m∈Zl (⟨(n,g)::r,don⟩:Ss Y))->Clo (⟨(n,g')::r,don⟩:Ss Y):=by
   intro g' hf e hm p O;have U:∀m∈Zl (⟨(n,g)::r,don⟩:Ss Y),m∈Zl (⟨(n,g')::r,don⟩:Ss Y):=λm hm=>hm;have top:Hist Y (Zl (⟨(n,g')::r,don⟩:Ss Y)) n g':=by
    obtain⟨s,k,h1,h2,h3⟩:=c0;have h2:g=it Y (F Y) k s:=h2;refine⟨s,k+1,h1,by rw [it_snoc,<-h2,e],λi hi aa m hw=> ?_⟩
    by_cases ci:i<k
    ·exact(h3 i ci aa m hw).imp id (U m)
    ·have:i=k:=by omega
     subst this;rw [<-h2] at hw;exact(hm m hw).imp id (U m)
   rcases O with O|O
   ·rcases A5.mp O with rfl|O
    ·exact top
    ·exact(c p (.inl (uc _ O))).more U
   ·exact(c p (.inr O)).more U
  unfold nxt;simp only;cases hf:Y.fin g with
  |true=>
   rw [A3 rfl];have U:∀m∈Zl (⟨(n,g)::r,don⟩:Ss Y),m∈Zl (⟨r,don++ [(n,g)]⟩:Ss Y):=by
    intro m hm;unfold Zl at hm⊢;simp only [uh,uw,U5,U8,uC,List.mem_append,uD,uM] at hm⊢;rcases hm with hm|hm|hm
    ·exact .inr (.inr hm)
    ·exact .inl hm
    ·exact .inr (.inl hm)
   intro p O;rcases O with O|O
   ·exact(c p (.inl (uc _ O))).more U
   ·rcases A7.mp O with O|O
    ·exact(c p (.inr O)).more U
    ·cases A6.mp O;exact c0.more U
  |false=>
   rw [A2 ub];have Z:step Y (F Y) g=match Y.want g with
     |none=>Y.own g
     |some m=>match F Y m with
      |some a=>Y.tk g a
      |none=>Y.stuck g m:=by
    unfold step;rw [hf,A2 ub]
    all_goals rfl
   cases hw:Y.want g with
   |none=>exact on _ hf (by rw [Z,hw]) λm z=>by rw [hw] at z;cases z
   |some m=>
    rw [hw] at Z;simp only at Z⊢;cases hy:yet (⟨(n,g)::r,don⟩:Ss Y) m with
    |some o=>
     have hF:=yet_F h hs hf hw hy;have hm:∀m',Y.want g=some m'->Y.g0 m'=none∨m'∈Zl (⟨(n,g)::r,don⟩:Ss Y):=by
      intro m' z;rw [hw] at z;cases z;unfold yet at hy;by_cases cm:m∈((n,g)::r).map (·.1)
      ·exact .inr (vE _ cm)
      ·rw [A2 cm] at hy;cases hg:Y.g0 m with
       |none=>exact .inl rfl
       |some gm=>
        rw [hg] at hy;simp only at hy;cases hd:YH don m with
        |none=>rw [hd] at hy;cases hy
        |some gd=>exact .inr (uK _ (A8.mpr ⟨_,WS hd,1⟩))
     cases o with
     |some a=>exact on _ hf (by rw [Z,hF]) hm
     |none=>exact on _ hf (by rw [Z,hF]) hm
    |none=>
     simp only;obtain⟨h1,⟨g',hg⟩,h2⟩:=JG hy;rw [hg];have U:∀m'∈Zl (⟨(n,g)::r,don⟩:Ss Y),m'∈Zl (⟨(m,g')::(n,g)::r,don⟩:Ss Y):=λm' hm=>uc _ hm;intro p O;rcases O with O|O
     ·rcases A5.mp O with rfl|O
      ·exact⟨g',(0),hg,1,λi hi=>absurd hi (Nat.not_lt_zero i)⟩
      ·exact(c p (.inl O)).more U
     ·exact(c p (.inr O)).more U
theorem nx_clo (h:Y.Ok){n0:Str}{S:Ss Y}(O:SOk n0 S)(c:Clo S):∀k,Clo (nx S k)
 |0=>c
 |k+1=>nxt_clo h (nx_ok h O k) (nx_clo h O c k)
theorem S0_clo {n:Str}{g:Y.G}(U:Y.g0 n=some g):Clo (S0 Y n):=by
 unfold S0;rw [U];intro p O;rcases O with O|O
 ·cases A6.mp O;exact⟨g,(0),U,1,λi hi=>absurd hi (Nat.not_lt_zero i)⟩
 ·cases O
theorem end_clo (h:Y.Ok){g0:Y.G}(U:Y.g0 n0=some g0){k:Nat}{don:oj (Str×Y.G)}(hk:nx (S0 Y n0) k=⟨[],don⟩){p:Str×Y.G}(hp:p∈don){s:Y.G}(Z:Y.g0 p.1=some s){i:Nat}(hf:Y.fin (it Y (F Y) i s)=false)(hw:Y.want (it Y (F Y) i s)=some m):Y.g0 m=none∨m∈don.map (·.1):=by
 have c:=nx_clo h (S0_ok U) (S0_clo U) k;have ok:=nx_ok h (S0_ok U) k;rw [hk] at c ok;obtain⟨s',k',h1,h2,h3⟩:=c p (.inr hp);rw [Z] at h1;cases h1;obtain⟨s2,e1,e2⟩:=ok.don p hp;rw [Z] at e1;cases e1;have O:Y.fin (it Y (F Y) k' s)=true:=by
  rw [<-h2,e2];exact it_end h _ _ (h.l0 _ _ Z)
 have aa:i<k':=by
  rcases US i k' with z|z
  ·exact z
  ·obtain⟨d,rfl⟩:=UO z;rw [XF,x8 O,O] at hf;cases hf
 rcases h3 i aa hf m hw with z|z
 ·exact .inl z
 ·exact .inr (by simpa [Zl] using z)
end Sy
section
variable {qs qs':oj (Str×D)}
noncomputable abbrev FP (qs:oj (Str×D)):Sy.Orc:=Sy.F (SyP qs)
noncomputable abbrev itP (qs:oj (Str×D)) (k:Nat) (g:Gp):Gp:=Sy.it (SyP qs) (FP qs) k g
theorem XV (g:Gp):Sy.step (SyP qs) (FP qs) g=if g.en.isSome=true then g else match QY g with
  |none=>ownP qs g
  |some m=>match FP qs m with
   |some a=>Yq g (a.getD .non)
   |none=>stkP g m:=rfl
theorem parts_at:∀(n:Nat) (g:Gp),itP qs n g≠itP qs' n g->∃k c,k<n/\itP qs k g=c/\itP qs' k g=c/\c.en=none/\((QY c=none/\ownP qs c≠ownP qs' c)∨∃m,QY c=some m/\FP qs m≠FP qs' m)
 |0,g,h=>absurd rfl h
 |n+1,g,h=>by
  by_cases e:Sy.step (SyP qs) (FP qs) g=Sy.step (SyP qs') (FP qs') g
  ·have h2:itP qs n (Sy.step (SyP qs) (FP qs) g)≠itP qs' n (Sy.step (SyP qs) (FP qs) g):=λz=>h (by
    show itP qs n (Sy.step (SyP qs) (FP qs) g)=itP qs' n (Sy.step (SyP qs') (FP qs') g);rwa [<-e])
   obtain⟨k,c,hk,h3,h4,h5⟩:=parts_at n _ h2;refine⟨k+1,c,(),h3,?_,h5⟩
   show itP qs' k (Sy.step (SyP qs') (FP qs') g)=c;rwa [<-e]
  ·exists (0),g,(),1,1
   have O:g.en=none:=by
    cases Z:g.en with
    |none=>rfl
    |some d=>
     refine absurd ?_ e;rw [XV,XV,Z]
     rfl
   exists O;rw [XV,XV,O] at e;cases U:QY g with
   |none=>
    rw [U] at e;exact .inl ⟨1,λz=>e (by rw [z])⟩
   |some m=>
    rw [U] at e;refine .inr ⟨m,1,λz=>e ?_⟩;simp only;rw [z]
noncomputable def QS (p:Gp):oj D:=p.ra++runPG' p.run
where runPG':om (oj Rw×Rn)->oj D
 |none=> []
 |some (_,r)=>r.gs
noncomputable def GA (g:Gp):Prop:=g.run=none->g.en=none->g.ra= []
theorem runS_gs {rs:oj Rw}{own:Str}{gs:oj D}:∀(f:Nat) (B:Str->D) (p:Int) (n:Nat),(runS rs own gs f B p n).gs=gs
 |0,B,p,n=>rfl
 |f+1,B,p,n=>by
  unfold runS;by_cases c:p>rs.length
  ·rw [A3 c]
  ·rw [A2 c];cases U:rowO own (jR rs p) B p with
   |go O p'=>exact runS_gs f O p' (n+1)
   |stop e=>rfl
theorem ansS_gs {r:Rn}{a:D}:(ansS rs own r a).gs=r.gs++ [.tup [zf r.th,a]]:=by
 unfold ansS;split
 ·rfl
 ·exact runS_gs _ _ _ _
theorem asks_beg (h:g.run=none)(d:D):QS (begP g d)=g.ra/\GA (begP g d):=by
 unfold begP;split
 ·refine⟨?_,λ_ z=>by cases z⟩
  show g.ra++QS.runPG' g.run=g.ra;rw [h];exact vc _
 ·cases hd:yc d with
  |none=>
   refine⟨?_,λ_ z=>by cases z⟩
   show g.ra++QS.runPG' g.run=g.ra;rw [h];exact vc _
  |some rs=>
   refine⟨?_,λz=>by cases z⟩
   show g.ra++(R0 rs g.n).gs=g.ra;rw [show(R0 rs g.n).gs= [] from runS_gs _ _ _ _]
   exact vc _
theorem Y9 (ha:GA g)(he:g.en=none)(d:D):QS (Yq g d)=QS g++ [.tup [yZ g,d]]/\GA (Yq g d):=by
 unfold Yq;cases O:g.run with
 |none=>
  have U:=ha O he;obtain⟨h1,h2⟩:=asks_beg (g:=⟨g.n,g.mb,[.tup [.tup [.str "rule",g.mb],d]],none,g.en⟩) rfl d;refine⟨h1.trans ?_,h2⟩;have e1:QS g= []:=by unfold QS;rw [U,O];rfl
  have Z:yZ g= .tup [.str "rule",g.mb]:=by unfold yZ;rw [O]
  rw [e1,Z]
  rfl
 |some p=>
  obtain⟨rs,r⟩:=p;refine⟨?_,λz=>by cases z⟩
  show g.ra++(ansS rs g.n r d).gs=QS g++_;have Z:yZ g=zf r.th:=by unfold yZ;rw [O]
  have e3:QS g=g.ra++r.gs:=by unfold QS;rw [O];rfl
  rw [ansS_gs,Z,e3,vK]
theorem ga_g0 {d:D}(h:g0D m d=some g):GA g/\QS g= []:=by
 unfold g0D at h;split at h
 ·split at h
  ·cases h
  ·split at h
   ·cases h;exact⟨λ_ _=>rfl,1⟩
   ·cases h;obtain⟨h1,h2⟩:=asks_beg (g:=⟨m,.non,[],none,none⟩) rfl _;exact⟨h2,h1⟩
 ·cases h
theorem once_ok (U:Qw qs)(O:g0D m (qE qs m)=none):X8 ((onceD (qE qs m)).getD .non):=by
 by_cases hm:m∈qs.map (·.1)
 ·obtain⟨hn,k,e,hd,h1,h2⟩:=zq U hm;rw [hd] at O⊢;unfold g0D at O;simp only at O;by_cases c:k="leaf"
  ·exact .inr (h2 (by rw [c];decide+kernel)).2
  ·rw [A2 c] at O;split at O<;>cases O
 ·rw [Yj hm];exact .inl rfl
theorem W7 (Z:Qw qs){f:Sy.Orc}(hf:∀m a,f m=some a->X8 (a.getD .non))(h:GI g)(ha:GA g):GI (Sy.step (SyP qs) f g)/\GA (Sy.step (SyP qs) f g):=by
 have e:Sy.step (SyP qs) f g=if g.en.isSome=true then g else match QY g with
  |none=>ownP qs g
  |some m=>match f m with
   |some a=>Yq g (a.getD .non)
   |none=>stkP g m:=rfl
 rw [e];cases O:g.en with
 |some d=>exact⟨h,ha⟩
 |none=>
  simp only [UC,A2 ub];cases U:QY g with
  |none=>
   obtain⟨rs,r,k,z,_,_,hk,_,e⟩:=JD (qs:=qs) h O U;exists gi_own Z h O U;show GA (ownP qs g);rw [e];exact(Y9 ha O _).2
  |some m=>
   simp only;cases hm:f m with
   |some a=>exact⟨gi_take h O (hf m a hm),(Y9 ha O _).2⟩
   |none=>exact⟨gi_stk h m,λ_ z=>by cases z⟩
theorem it_gi (O:Qw qs){f:Sy.Orc}(U:∀m a,f m=some a->X8 (a.getD .non)):∀(k:Nat) {g:Gp},GI g->GA g->GI (Sy.it (SyP qs) f k g)/\GA (Sy.it (SyP qs) f k g)
 |0,g,h,ha=>⟨h,ha⟩
 |k+1,g,h,ha=>it_gi O U k (W7 O U h ha).1 (W7 O U h ha).2
theorem Fh_ok (U:Qw qs):∀(k:Nat) (m:Str) (a:om D),Sy.Fh (SyP qs) k m=some a->X8 (a.getD .non)
 |0,m,a,h=>by
  cases O:(SyP qs).g0 m with
  |none=>rw [Sy.XZ O] at h;cases h;exact once_ok U O
  |some g=>rw [Sy.wE O] at h;cases h
 |k+1,m,a,h=>by
  cases O:(SyP qs).g0 m with
  |none=>rw [Sy.XZ O] at h;cases h;exact once_ok U O
  |some g=>
   rw [Sy.WD O] at h;have Z:=it_gi U (Fh_ok U k) 302 (gi_g0 U O).1 (ga_g0 O).1;cases hs:(SyP qs).said (Sy.it (SyP qs) (Sy.Fh (SyP qs) k) (SyP qs).M g) with
   |none=>rw [hs] at h;cases h
   |some v=>
    rw [hs] at h;cases h;exact .inr (said_ok Z.1 hs)
theorem F_ok (O:Qw qs)(m:Str)(a:om D)(h:FP qs m=some a):X8 (a.getD .non):=by
 obtain⟨k,h⟩:=(Sy.F_iff (ya qs)).mp h;exact Fh_ok O k m a h
theorem itP_gi (O:Qw qs)(U:g0D m (qE qs m)=some g)(k:Nat):GI (itP qs k g)/\GA (itP qs k g):=it_gi O (F_ok O) k (gi_g0 O U).1 (ga_g0 U).1
theorem step_asks (ha:GA g):∃l,QS (Sy.step (SyP qs) (FP qs) g)=QS g++l:=by
 rw [XV];cases O:g.en with
 |some d=>exact⟨[],(vc _).symm⟩
 |none=>
  simp only [UC,A2 ub];cases U:QY g with
  |none=>
   show∃l,QS (ownP qs g)=_;unfold ownP;split
   ·exact⟨_,(Y9 ha O _).1⟩
   ·exact⟨[],(vc _).symm⟩
  |some m=>
   simp only;cases FP qs m with
   |some a=>exact⟨_,(Y9 ha O _).1⟩
   |none=>exact⟨[],(vc _).symm⟩
theorem it_asks (O:Qw qs):∀(k:Nat) {g:Gp},GI g->GA g->∃l,QS (itP qs k g)=QS g++l
 |0,g,h,ha=>⟨[],(vc _).symm⟩
 |k+1,g,h,ha=>by
  obtain⟨U,Z⟩:=step_asks (qs:=qs) ha;obtain⟨h1,h2⟩:=W7 O (F_ok O) h ha;obtain⟨l2,e2⟩:=it_asks O k h1 h2;exists U++l2;show QS (itP qs k (Sy.step (SyP qs) (FP qs) g))=_;rw [e2,Z,vK]
noncomputable def Bhd (qs:oj (Str×D))(c:Gp)(l:oj D):Prop:=
 (∀kd z,QY c=none->yZ c= .tup [.str kd,.str z]->∃r,l= .tup [yZ c,JO qs kd z]::r)/\
 ∀m,QY c=some m->(∀a,FP qs m=some a->∃r,l= .tup [yZ c,a.getD .non]::r)/\(FP qs m=none->l= [])
variable {c:Gp}
theorem behind (hq:Qw qs)(h:GI c)(ha:GA c)(he:c.en=none)(j:Nat):∃l,QS (itP qs (j+1) c)=QS c++l/\Bhd qs c l:=by
 obtain⟨h1,h2⟩:=W7 hq (F_ok hq) h ha;obtain⟨l2,e2⟩:=it_asks hq j h1 h2;have e0:QS (itP qs (j+1) c)=QS (Sy.step (SyP qs) (FP qs) c)++l2:=e2;have es:=XV (qs:=qs) c;rw [he] at es;simp only [UC,A2 ub] at es;cases O:QY c with
 |none=>
  rw [O] at es;obtain⟨rs,r,k,z,ac,ad,hk,_,e⟩:=JD (qs:=qs) h he O;have es:Sy.step (SyP qs) (FP qs) c=Yq c (JO qs k z):=es.trans e;rw [es,(Y9 ha he _).1,vK] at e0;refine⟨_,e0,λkd y _ U=> ?_,λm z=>by cases O.symm.trans z⟩
  have Z:kd=k/\y=z:=by
   have hp:yZ c= .tup [.str k,.str z]:=by
    unfold yZ;rw [ac];show zf r.th=_;rw [ad]
    rfl
   rw [hp] at U;cases U;exact⟨1,1⟩
  rw [Z.1,Z.2];exact⟨0⟩
 |some m=>
  rw [O] at es;simp only at es;cases hf:FP qs m with
  |some a=>
   rw [hf] at es;rw [es,(Y9 ha he _).1,vK] at e0;refine⟨_,e0,(λkd y z=>by cases O.symm.trans z),λm' z=> ?_⟩
   cases O.symm.trans z;exact⟨(λb hb=>by rw [hf] at hb;cases hb;exact⟨0⟩),λz=>by rw [hf] at z;cases z⟩
  |none=>
   rw [hf] at es;have aa:itP qs (j+1) c=stkP c m:=by
    show itP qs j (Sy.step (SyP qs) (FP qs) c)=_;rw [es];exact Sy.x8 (Y:=SyP qs) rfl j
   refine⟨[],?_,(λkd y z=>by cases O.symm.trans z),λm' z=> ?_⟩
   ·rw [aa,vc]
    rfl
   ·cases O.symm.trans z;exact⟨(λb hb=>by rw [hf] at hb;cases hb),λ_=>rfl⟩
theorem parting (hq:Qw qs)(Z:Qw qs'){n:Str}(hg:g0D n (qE qs n)=some g)(ac:g0D n (qE qs' n)=some g)(aa:itP qs 302 g≠itP qs' 302 g):
  ∃c ly O,GI c/\c.en=none/\QS (itP qs 302 g)=QS c++ly/\QS (itP qs' 302 g)=QS c++O/\Bhd qs c ly/\Bhd qs' c O/\(∃k,itP qs k g=c)/\(∃k,itP qs' k g=c)/\
   ((QY c=none/\ownP qs c≠ownP qs' c)∨∃m,QY c=some m/\FP qs m≠FP qs' m):=by
 obtain⟨k,c,hk,h1,h2,h3,h4⟩:=parts_at 302 g aa;obtain⟨j,hj⟩:=UO (show k+1<=302 by omega)
 have hj:302=k+(j+1):=by omega
 obtain⟨U,g2⟩:=itP_gi hq hg k;rw [h1] at U g2;obtain⟨ly,e1,b1⟩:=behind hq U g2 h3 j;obtain⟨O,e2,b2⟩:=behind Z U g2 h3 j;have i1:itP qs 302 g=itP qs (j+1) c:=by
  have:=Sy.XF (Y:=SyP qs) (f:=FP qs) k (j+1) g;rw [<-hj] at this;exact this.trans (by show itP qs (j+1) (itP qs k g)=_;rw [h1])
 have i2:itP qs' 302 g=itP qs' (j+1) c:=by
  have:=Sy.XF (Y:=SyP qs') (f:=FP qs') k (j+1) g;rw [<-hj] at this;exact this.trans (by show itP qs' (j+1) (itP qs' k g)=_;rw [h2])
 exact⟨c,ly,O,U,h3,by rwa [i1],by rwa [i2],b1,b2,⟨k,h1⟩,⟨k,h2⟩,h4⟩
theorem unlike_runs {n:Str}(hs:qE qs n=qE qs' n)(U:FP qs n≠FP qs' n):∃g,g0D n (qE qs n)=some g/\g0D n (qE qs' n)=some g/\itP qs 302 g≠itP qs' 302 g:=by
 cases Z:g0D n (qE qs n) with
 |none=>
  have O:g0D n (qE qs' n)=none:=by rw [<-hs];exact Z
  refine absurd ?_ U;show Sy.F (SyP qs) n=Sy.F (SyP qs') n;rw [Sy.F_once (ya qs) Z,Sy.F_once (ya qs') O];show some (onceD (qE qs n))=some (onceD (qE qs' n));rw [hs]
 |some g=>
  have O:g0D n (qE qs' n)=some g:=by rw [<-hs];exact Z
  refine⟨g,1,O,λz=>U ?_⟩;show Sy.F (SyP qs) n=Sy.F (SyP qs') n;rw [Sy.F_run (ya qs) Z,Sy.F_run (ya qs') O];show(Zk (itP qs 302 g)).map some=(Zk (itP qs' 302 g)).map some;rw [z]
theorem sooner {n:Str}(O:g0D n (qE qs n)=some g)(U:∃k,itP qs k g=c)(Z:c.en=none)(hw:QY c=some m){k:Nat}{a:om D}(h:Sy.Fh (SyP qs) k n=some a):∃j b,j<k/\Sy.Fh (SyP qs) j m=some b:=by
 obtain⟨i,hi⟩:=U;refine Sy.wt_less (ya qs) ⟨g,i,O,?_,?_⟩ h
 ·show(itP qs i g).en.isSome=false;rw [hi,Z]
  rfl
 ·show QY (itP qs i g)=some m;rw [hi];exact hw
end
noncomputable def Dn (qs:oj (Str×D))(n:Str)(don:oj (Str×Gp)):Prop:=∃j,Sy.nx (Sy.S0 (SyP qs) n) j=⟨[],don⟩
section
variable {qs:oj (Str×D)}{n:Str}{don don':oj (Str×Gp)}
theorem dn_one (h:Dn qs n don)(k:Dn qs n don'):don=don':=by
 obtain⟨i,hi⟩:=h;obtain⟨j,O⟩:=k;have e:=Sy.nx_one (S:=Sy.S0 (SyP qs) n) (k:=i) (j:=j) (by rw [hi]) (by rw [O])
 rw [hi,O] at e;exact congrArg Sy.Ss.don e
theorem dn_none (O:g0D n (qE qs n)=none)(h:Dn qs n don):don= []:=by
 have U:Sy.S0 (SyP qs) n=⟨[],[]⟩:=by unfold Sy.S0;rw [show(SyP qs).g0 n=none from O]
 exact dn_one h ⟨(0),U⟩
theorem dn_ok (O:g0D n (qE qs n)=some g)(h:Dn qs n don):Sy.SOk (Y:=SyP qs) n ⟨[],don⟩:=by
 obtain⟨j,U⟩:=h;rw [<-U];exact Sy.nx_ok (ya qs) (Sy.S0_ok O) j
theorem dn_last (O:g0D n (qE qs n)=some g)(h:Dn qs n don):(don.map (·.1)).getLast? =some n:=by
 rcases(dn_ok O h).bot with b|⟨_,b⟩
 ·cases b
 ·exact b
theorem dn_mem (h:Dn qs n don){p:Str×Gp}(O:p∈don):∃s,g0D p.1 (qE qs p.1)=some s/\p.2=Sy.it (SyP qs) (Sy.F (SyP qs)) 302 s:=by
 cases U:g0D n (qE qs n) with
 |none=>rw [dn_none U h] at O;cases O
 |some g=>exact(dn_ok U h).don p O
theorem dn_nd (h:Dn qs n don):(don.map (·.1)).Nodup:=by
 cases O:g0D n (qE qs n) with
 |none=>rw [dn_none O h];exact vR
 |some g=>exact(dn_ok O h).nd
end
noncomputable def asksP (p:Gp):D:= .tup (p.ra++runPG p.run)
noncomputable def endP (p:Gp):D:=p.en.getD .non
theorem fullP_eq (p:Gp):xR p= .tup [asksP p,endP p]:=rfl
theorem rk_vs:∀{rk:oj (Key×V)}{don:oj (Str×Gp)},(rk.map (·.1)=don.map λp=>Sum.inr p.1)->∃vs:oj (Str×V),rk=inrK vs/\vs.map (·.1)=don.map (·.1)/\vs.map (·.2)=rk.map (·.2)
 | [],[],_=>⟨[],1,1,1⟩
 | [],_::_,h=>by cases h
 |_::_,[],h=>by cases h
 |(k,v)::r,p::l,h=>by
  injection h with h1 h2
  obtain⟨vs,O,U,Z⟩:=rk_vs h2;refine⟨(p.1,v)::vs,?_,?_,?_⟩
  ·rw [XB,<-O];have h1:k=Sum.inr p.1:=h1;rw [h1]
  ·rw [uh,uh,U]
  ·rw [uh,uh,Z]
theorem gi_nd {p:Gp}(h:GI p)(O:p.en.isSome=true):nD (asksP p)=true/\dp (asksP p)<=31/\nD (endP p)=true/\dp (endP p)<=20:=by
 have h1:nL (p.ra++runPG p.run)=true/\dpL (p.ra++runPG p.run)<=30:=by
  cases hr:p.run with
  |none=>exact⟨nL_app h.ra.1 rfl,dpL_app 30 h.ra.2.1 (by simp [dpL,runPG])⟩
  |some q=>
   obtain⟨rs,r⟩:=q;have h2:=(h.run rs r hr).2.1.gs;exact⟨nL_app h.ra.1 h2.1,dpL_app 30 h.ra.2.1 h2.2.1⟩
 refine⟨h1.1,by show 1+_<=31;omega,?_⟩
 unfold endP;cases U:p.en with
 |none=>rw [U] at O;cases O
 |some d=>
  show nD d=true/\dp d<=20;rcases h.en d U with⟨z,rfl⟩|⟨x,rfl,Z⟩|⟨z,rfl⟩
  ·exact⟨1,by show dp (.tup [.str "fault",.str z])<=20;simp [dp,dpL]⟩
  ·have:=JX Z;refine⟨?_,?_⟩
   ·simp only [nD,nL,WK (yB Z),vQ]
   ·simp only [dp,dpL];omega
  ·exact⟨1,by simp [dp,dpL]⟩
variable {don:oj (Str×Gp)}
theorem dn_yet {n:Str}(h:Dn qs n don)(hm:g0D m (qE qs m)=none∨m∈don.map (·.1)):Sy.yet #[Y,[],don] m=some (FP qs m):=by
 cases U:(SyP qs).g0 m with
 |none=>
  unfold Sy.yet;rw [A2 (by intro z;cases z),U]
  show some (some ((SyP qs).once m))=some (FP qs m);rw [show FP qs m=_ from Sy.F_once (ya qs) U]
 |some g=>
  rcases hm with hm|hm
  ·rw [show(SyP qs).g0 m=none from hm] at U;cases U
  ·obtain⟨⟨O,p⟩,hp,rfl⟩:=A8.mp hm;have hd:Sy.YH (Y:=SyP qs) don O=some p:=by
    have Z:=dn_nd h;unfold Sy.YH;have:(don.find? λq=>decide (q.1=O))=some (O,p):=by
     clear h hm
     induction don with
     |nil=>cases hp
     |cons q r ih=>
      rw [uh,U4] at Z;rcases A5.mp hp with rfl|hp
      ·rw [uY,ue rfl]
      ·have aa:q.1≠O:=λz=>Z.1 (by rw [z];exact A8.mpr ⟨_,hp,1⟩)
       rw [uY,ug aa];exact ih hp Z.2
    have e2:(List.find? (λq:Str×Gp=>decide (q.1=O)) don).map (·.2)=some p:=by rw [this];rfl
    exact e2
   obtain⟨s,e2,e3⟩:=dn_mem h hp;have e2:(SyP qs).g0 O=some s:=e2;rw [U] at e2;cases e2;unfold Sy.yet;rw [A2 (by intro z;cases z),U]
   show(Sy.YH (Y:=SyP qs) don O).map (λg=>((SyP qs).said g).map some)=some (FP qs O);rw [hd];show some (((SyP qs).said p).map some)=some (FP qs O);rw [show FP qs O=_ from Sy.F_run (ya qs) U]
   have e3:p=Sy.it (SyP qs) (Sy.F (SyP qs)) 302 g:=e3;rw [e3]
   rfl
noncomputable def stdD (o:om (om D)):D:=match o with
 |some (some v)=> .tup [.str "value",v]
 |some none=> .tup [.str "lack"]
 |none=> .tup [.str "none"]
end K68
namespace K68
open PySem L2 PyProof.Rows
structure OrdF (CO CP:o3)(H0 H:Hp)(qs:oj (Str×D))(n:Str)(o:Oc)(rk uk fk:oj (Key×V))(don:oj (Str×Gp)):Prop where
 sm:Same H0 H
 oa:OAt CO CP H o qs
 dr:H o.dr=some (.dK rk)
 ks:rk.map (·.1)=don.map λp=>Sum.inr p.1
 vs:L2.IsL H (don.map λp=>xR p.2) (rk.map (·.2))
 du:H o.du=some (.dK uk)
 uo:UkOk #[Y,[],don] uk
 df:H o.df=some (.dK fk)
 fd:FdOk H #[Y,[],don] fk
 fl:fk.length<=20101
 dn:Dn qs n don
 sg:SGI #[Y,[],don]
 gi:∀p∈don,GI p.2/\p.2.en.isSome=true
 len:don.length<=20001
 new:H0 o.x=none/\H0 o.dr=none/\H0 o.du=none/\H0 o.df=none
 ne:o.dr≠o.df/\o.du≠o.df
variable {CO CP:o3}{H0 H H':Hp}{qs:oj (Str×D)}{rk uk fk:oj (Key×V)}{don:oj (Str×Gp)}
theorem OrdF.same {n:Str}{o:Oc}(h:OrdF CO CP H0 H qs n o rk uk fk don)(s:Same H H'):OrdF CO CP H0 H' qs n o rk uk fk don:=
 ⟨h.sm.trans s,⟨s _ _ h.oa.e,h.oa.p.same s⟩,s _ _ h.dr,h.ks,h.vs.mono s.tk,s _ _ h.du,h.uo,s _ _ h.df,h.fd.mono s.tk,h.fl,h.dn,h.sg,h.gi,h.len,h.new,h.ne⟩
variable {b:o3}
theorem OrdF.away {n:Str}{o:Oc}{xs:oj (Key×V)}(h:OrdF CO CP H0 H qs n o rk uk fk don)(k:Kp [b] H H')(U:H b=some (.dK xs))(nb:b≠o.dr/\b≠o.du/\b≠o.df)(Z:Same H0 H'):OrdF CO CP H0 H' qs n o rk uk fk don:=by
 have O:∀c,c≠b->c∉ [b]:=λc hc z=>hc (A6.mp z);exact⟨Z,h.oa.kp k (by intro p hp;cases A6.mp hp;exact .inr (.inl ⟨_,U⟩)),k.kept _ _ h.dr (O _ nb.1.symm),h.ks,h.vs.mono k.tk,k.kept _ _ h.du (O _ nb.2.1.symm),h.uo,k.kept _ _ h.df (O _ nb.2.2.symm),h.fd.mono k.tk,h.fl,h.dn,h.sg,h.gi,h.len,h.new,h.ne⟩
inductive sp_chk (vs:List V) (H:Hp) (Q:VK) (E_:XK):Prop
 |mk (z:_) (_:vs= [.str z]) (_:nm z=true) (_:∀H',Same H H'->Q .non H')
inductive sp_chks (vs:List V) (H:Hp) (Q:VK) (E_:XK):Prop
 |mk (t:_) (z:_) (_:vs= [.ref t]) (_:H t=some (.tup [.str z])) (_:nm z=true) (_:∀H',Same H H'->Q .non H')
inductive sp_over (CO CP:Addr) (vs:List V) (H:Hp) (Q:VK) (E_:XK):Prop
 |mk (px t:Addr) (n:Str) (qs:List (Str×D)) (_:vs= [.ref px,.ref t]) (_:H t=some (.tup [.str n])) (_:nm n=true) (_:QX CP H px qs) (_:Qw qs) (_:∀H' o rk uk fk don,o.px=px->OrdF CO CP H H' qs n o rk uk fk don->fk.length<=20001->Q (.ref o.x) H')
inductive sp_from (CO CP:Addr) (vs:List V) (H:Hp) (Q:VK) (E_:XK):Prop
 |mk (px:Addr) (n:Str) (qs:List (Str×D)) (_:vs= [.ref px,.str n]) (_:nm n=true) (_:QX CP H px qs) (_:Qw qs) (_:∀H' o rk uk fk don,o.px=px->OrdF CO CP H H' qs n o rk uk fk don->fk.length<=20001->Q (.ref o.x) H')
inductive ZN (CO CP:Addr) (vs:List V) (H:Hp) (Q:VK) (E_:XK):Prop
 |mk (H0:Hp) (o:Oc) (qs:List (Str×D)) (n m:Str) (rk uk fk:List (Key×V)) (don:List (Str×Gp)) (_:vs= [.ref o.x,.str m]) (_:Qw qs) (_:OrdF CO CP H0 H qs n o rk uk fk don) (_:fk.length<=20100) (_:(g0D m (qE qs m)=none∨m∈don.map (·.1))) (_:∀v H' fk',Kp [o.df] H H'->OrdF CO CP H0 H' qs n o rk uk fk' don->fk'.length<=fk.length+1->Is H' (stdD (FP qs m)) v->Q v H')
inductive sp_stands (CP:Addr) (vs:List V) (H:Hp) (Q:VK) (E_:XK):Prop
 |mk (px:Addr) (n:Str) (qs:List (Str×D)) (_:vs= [.ref px,.str n]) (_:nm n=true) (_:QX CP H px qs) (_:Qw qs) (_:∀v H',Same H H'->Is H' (stdD (FP qs n)) v->Q v H')
theorem ZW {n:Str}(h:Dn qs n don):g0D n (qE qs n)=none∨n∈don.map (·.1):=by
 cases O:g0D n (qE qs n) with
 |none=>exact .inl rfl
 |some g=>exact .inr (List.mem_of_getLast? (dn_last O h))
section
variable {P:o9}{w:og}{K:o0}{mg:Str->om o6}{base:o8}{a:Ad}{g:Ga}
theorem ok_chk (T:Tx K mg a):#[K,2,a.zV,a.zT,["name"],sp_chk]:=by
 have U:=#[XM,T];exists 9,T.g_check_name,kT,Z
 obtain⟨z,rfl,O,k⟩:=h;have hl:=wS O;exists _,%[|#[qI,#[Qx,#[Qj,#[qt,U,Z.mono (),T.g_is_name,#v[pv 0]]]],%[|jw],qw]]
 exists 7
 refine⟨0,.str z,.str z,1,YG (),λH1 s1=>⟨0,?_⟩⟩
 have e:isNm (.str z)=true:=O;rw [e];exact iteF (k H1 s1)
theorem ok_chks (T:Tx K mg a):#[K,3,a.Xd,a.Xf,["names"],sp_chks]:=by
 have O:=#[ok_chk,T];exists 9,T.g_check_names,J9
 obtain⟨t,z,rfl,Z,hz,k⟩:=h;exists _,%[|#[jL,#[pi_tup,4,pv 0],#[qX,(1),J9.nd],%[|#[qY,#[qt,O,hr.mono (),T.g_check_name,#v[pv 1]]]]]]
 exists 7
 exists 0,t,1,⟨_,SqT.of Z⟩;refine kP (xs:= [.str z]) (λi σ H'=>(∃u,σ= [some (.ref t),u])/\Same H H') ⟨⟨0⟩,Same.refl _⟩ (λi σ H' _ h=>SqT.of (h.2 _ _ Z)) ?_ ?_
 ·rintro i x σ H' hx ⟨⟨u,rfl⟩,s1⟩;have U:x= .str z:=by
   cases i with
   |zero=>exact(uI hx).symm
   |succ i=>cases hx
  subst U;exact⟨0,z,1,hz,λH2 s2=>⟨⟨0⟩,s1.trans s2⟩⟩
 ·rintro σ H' ⟨_,s1⟩;exact k H' s1
theorem ok_over (T:Tx K mg a)(C:Fx K w mg g a):#[K,14,a.zy,a.zt,["project","names"],(sp_over a.qm a.qD)]:=by
 have Kc:=#[ok_chks,T];have X6:=#[ok_oinit,T];have jk:=#[ok_thru,T,C];exists 9,T.g_order_over,jA
 obtain⟨px,t,n,qs,rfl,ht,hn,hP,hq,k1⟩:=h;exists _,%[#[qY,#[qt,Kc,hr.mono (),T.g_check_names,#v[pv 1]]],#[qC,(2),jA.nd,#[Z9,T.M_PlainOrder,X6,hr.mono (),T.m_PlainOrder,T.g_PlainOrder_init,qA,#v[pv 0]]],#[jL,#[pi_tup,4,pv 1],#[qX,(3),jA.nd],%[|#[qY,#[Qm,pv 2,T.qx,T.g_PlainOrder_go_through,jk,#v[pv 3]]]]]|#[qp,pv 2]]
 exists 7
 exists 8,N1,q1;refine⟨0,t,n,1,ht,hn,λH1 s1=>q1 _ _ ?_⟩;exists 8,N2,q2;refine⟨0,λx dx hx aq nx=> ?_⟩;have s0:Same H1 (upd (upd H1 dx (.own x)) x (.ins a.qm dx [])):=λb o h=>by rwa [qh (qk h hx),qh (qk h aq)]
 refine⟨x,dx,px,1,qg,λo H2 eo au aw kp tk f1 f2 f3 f4 nd ac ad ae af ag=>⟨1,q2 _ _ ?_⟩⟩;exists 8,N3,q3;have ax:Same H1 H2:=λb ob h=>kp b ob (s0 b ob h) (qk h hx);have O:=s1.trans ax;have ah:=O _ _ ht;subst eo au aw;have hB:Bs a.qm a.qD H2 o qs:=⟨⟨ac,hP.same O⟩,⟨_,ad⟩,⟨_,ae⟩,⟨_,af⟩,⟨_,ag⟩,nd,hq⟩;exists 0,t,1,⟨_,SqT.of ah⟩;have fr:∀b,upd (upd H1 o.dx (.own o.x)) o.x (.ins a.qm o.dx []) b=none->H b=none:=λb U=>by
  cases e:H b with
  |none=>rfl
  |some ob=>rw [s0 b ob (s1 b ob e)] at U;cases U
 let J_:Nat->L2.St->Hp->Prop:=λi σ H'=>(∃u,σ= [some (.ref o.px),some (.ref t),some (.ref o.x),u])/\((i=0/\H'=H2)∨(i=1/\∃rk uk fk don,OrdF a.qm a.qD H H' qs n o rk uk fk don/\fk.length<=20001))
 refine kP (xs:= [.str n]) J_ ⟨⟨0⟩,.inl ⟨1,1⟩⟩ (λi σ H' _ h=> ?_) ?_ ?_
 ·rcases h.2 with⟨_,rfl⟩|⟨_,rk,uk,fk,don,h,_⟩
  ·exact SqT.of ah
  ·exact SqT.of (h.sm _ _ ht)
 ·rintro i x' σ H' ak ⟨⟨u,rfl⟩,h⟩;have Z:x'= .str n/\i=0:=by
   cases i with
   |zero=>exact⟨(uI ak).symm,1⟩
   |succ i=>cases ak
  obtain⟨rfl,rfl⟩:=Z;rcases h with⟨_,rfl⟩|⟨z,_⟩
  ·refine⟨0,o.x,o.dx,0,ac,Zz o _ (),0,o,qs,n,1,hB,ad,ae,af,ag,λH3 rk uk fk don j al ay am aA aB aC k3 aD ao aE aF aG ap=> ?_⟩
   have out:∀b,H b≠none->b∉LO o:=λb U z=>by
    simp only [LO,uC,uD,uM] at z;rcases z with rfl|rfl|rfl|rfl
    ·exact U (fr _ f1)
    ·exact U (fr _ f2)
    ·exact U (fr _ f3)
    ·exact U (fr _ f4)
   have aa:=nd;simp only [U4,uC,uD,uM,UW,vR,and_true,UP] at aa;have Z:H o.x=none:=by
    cases e:H o.x with
    |none=>rfl
    |some ob=>rw [s1 _ _ e] at hx;cases hx
   exact⟨⟨0⟩,.inr ⟨1,rk,uk,fk,don,⟨λb ob e=>k3.kept b ob (O b ob e) (out b (by rw [e];intro z;cases z)),hB.at k3,ao,aE,aF,al,ay,am,aA,(),⟨j,aD⟩,aC,aG,ap,⟨Z,fr _ f3,fr _ f2,fr _ f4⟩,⟨aa.2.2,aa.2.1.2⟩⟩,aB⟩⟩
  ·cases z
 ·rintro σ H' ⟨⟨u,rfl⟩,h⟩;rcases h with⟨z,_⟩|⟨_,rk,uk,fk,don,h,hl⟩
  ·cases z
  ·exact q3 _ _ ⟨0,k1 H' o rk uk fk don rfl h hl⟩
theorem ok_from (T:Tx K mg a)(C:Fx K w mg g a):#[K,15,a.zY,a.zQ,["project","name"],(sp_from a.qm a.qD)]:=by
 have O:=#[ok_over,T,C];exists 9,T.g_order_from,kK,U
 obtain⟨px,n,qs,rfl,hn,Z,hq,k1⟩:=h;have hs:=uE;exists _,%[|#[qp,#[qt,O,U.mono (),T.g_order_over,#v[pv 0,#[qB,#v[pv 1]]]]]]
 exists 7
 refine⟨0,0,(sml rfl),λt ht=> ?_⟩;have s1:=qf ht (.tup [V.str n]);exact⟨px,t,n,qs,1,qg,hn,Z.same s1,hq,λH' o rk uk fk don e h hl=>k1 H' o rk uk fk don e ⟨s1.trans h.sm,h.oa,h.dr,h.ks,h.vs,h.du,h.uo,h.df,h.fd,h.fl,h.dn,h.sg,h.gi,h.len,⟨s1.free h.new.1,s1.free h.new.2.1,s1.free h.new.2.2.1,s1.free h.new.2.2.2⟩,h.ne⟩ hl⟩
theorem ZS (T:Tx K mg a):#[K,3,a.Wl,a.WM,["order","name"],(ZN a.qm a.qD)]:=by
 have qZ:=#[ok_yet,T];exists 9,T.g_standing,ww
 obtain⟨H0,o,qs,n,m,rk,uk,fk,don,rfl,hq,O,ah,hm,k⟩:=h;have hs:=uE;exists _,%[#[qC,(2),ww.nd,#[Qm,pv 0,T.qx,T.g_PlainOrder_answer_yet,qZ,#v[pv 1]]]|#[qp,#[Q6,#[qr,QI,#[qN,qM,pv 2,qi],#[qB,#v[ql,ql]],#[w]],pv 2,#[qB,#v[ql]]]]]
 exists 7
 exists 8,N1,q1;refine⟨0,o.x,o.dx,0,O.oa.e,Zz o _ (),0,o,m,qs,#[Y,[],don],uk,fk,1,O.oa,hq,O.sg,O.du,O.uo,O.df,O.fd,(),(λp hp=>(O.gi p hp).2),λv H1 fk1 k1 f1 d1 l1 _ y1=>q1 _ _ ?_⟩
 unfold YetIs at y1;rw [dn_yet O.dn hm] at y1;obtain⟨d,hd,ha⟩:=y1;have U:∀c,c≠o.df->c∉ [o.df]:=λc hc z=>hc (A6.mp z);have ac:∀c,H0 c≠none->c∉ [o.df]:=λc hc=>U c (λz=>hc (by rw [z];exact O.new.2.2.2))
 have ad:OrdF a.qm a.qD H0 H1 qs n o rk uk fk1 don:=⟨λb ob e=>k1.kept b ob (O.sm b ob e) (ac b (by rw [e];intro z;cases z)),O.oa.kp k1 (by intro p hp;cases A6.mp hp;exact .inr (.inl ⟨_,O.df⟩)),k1.kept _ _ O.dr (U _ O.ne.1),O.ks,O.vs.mono k1.tk,k1.kept _ _ O.du (U _ O.ne.2),O.uo,f1,d1,(),O.dn,O.sg,O.gi,O.len,O.new,O.ne⟩
 have sh:∃kk Z,d= .tup (.str kk::Z):=by
  generalize FP qs m=oa at ha;cases oa with
  |none=>obtain⟨kk,Z,h,_⟩:=ha;exact⟨kk,Z,h⟩
  |some x=>cases x with
   |none=>exact⟨_,_,ha⟩
   |some y=>exact⟨_,_,ha⟩
 obtain⟨kk,Z,rfl⟩:=sh;obtain⟨qa,wa,rfl,af,w1,r1,rfl,⟨rfl,ag⟩,h3⟩:=id hd;refine⟨0,qa,_,_,0,1,SqT.of af,QF (j:=0) rfl,(sml rfl),λt ht=> ?_⟩;have s2:=qf ht (.tup [V.str "value",V.str "lack"]);exists t,0,.inr (SqT.of qg),1,1,0;have ae:inV (V.str kk) [V.str "value",V.str "lack"]=decide (kk∈(["value","lack"]:oj Str)):=zh kk ["value","lack"];have aa:Kp [o.df] H (upd H1 t (.tup [V.str "value",V.str "lack"])):=k1.trans (Kp.of s2);generalize ak:upd H1 t (.tup [V.str "value",V.str "lack"])=H2 at s2 aa⊢;cases hF:FP qs m with
 |some x=>
  rw [hF] at ha;have hk:kk∈(["value","lack"]:oj Str)/\D.tup (.str kk::Z)=stdD (some x):=by
   cases x with
   |none=>cases(show D.tup (.str kk::Z)= .tup [.str "lack"] from ha);exact⟨(),1⟩
   |some y=>cases(show D.tup (.str kk::Z)= .tup [.str "value",y] from ha);exact⟨(),1⟩
  refine iteB (ae.trans (ue hk.1)) ⟨0,k _ H2 fk1 aa (ad.same s2) () ?_⟩
  rw [hF,<-hk.2];exact hd.mono s2.tk
 |none=>
  rw [hF] at ha;obtain⟨k2,r2,e5,c1,c2⟩:=ha;cases e5;refine iteN (ae.trans (ug (by simp only [uC,uD,uM,UW];exact⟨c1,c2⟩))) ⟨(sml rfl),λt3 h3=> ?_⟩
  have s3:=qf h3 (.tup [V.str "none"]);refine k _ _ fk1 (aa.trans (Kp.of s3)) ((ad.same s2).same s3) () ?_
  rw [hF];exact Is.new (ds:= [.str "none"]) ⟨_,0,YG (),1⟩ h3
theorem ok_stands (T:Tx K mg a)(C:Fx K w mg g a):#[K,16,a.f_stands,a.d_stands,["project","name"],(sp_stands a.qD)]:=by
 have YJ:=#[ok_from,T,C];have Jz:=#[ZS,T];exists 9,T.g_stands,sc_stands,U
 obtain⟨px,n,qs,rfl,hn,hP,Z,k⟩:=h;exists _,%[|#[qp,#[qt,Jz,U.mono (),T.g_standing,#v[#[qt,YJ,U.mono (),T.g_order_from,#v[pv 0,pv 1]],pv 1]]]]
 exists 7
 refine⟨0,0,px,n,qs,1,hn,hP,Z,λH1 o rk uk fk don _ hO hl=> ?_⟩;exact⟨0,H,o,qs,n,n,rk,uk,fk,don,1,Z,hO,(),ZW hO.dn,λv H2 aa k2 O _ hv=>k v H2 O.sm hv⟩
variable {v:V}{ds:oj D}{n:Nat}{Q:VK}
theorem sl_mid {K:o0}{k:Nat}(Z:Is H (.tup ds) v)(q:∀u H',Same H H'->Is H' (.tup ((ds.drop n).take k)) u->Q u H'):rSlG K v (some (n:Int)) (some ((n+k:Nat):Int)) H Q:=by
 obtain⟨p,vs,rfl,ep,U⟩:=Z;have hl:vs.length=ds.length:=U.length;refine⟨p,vs,1,SqT.of ep,λh=> ?_,λh l O=> ?_⟩
 ·rw [HT.sIx_nat,HT.sIx_nat] at h;have h1:n=0∨ds.length=0:=by omega
  have h2:ds.length<=n+k:=by omega
  refine q _ _ (Same.refl _) ⟨p,vs,1,ep,?_⟩;rcases h1 with rfl|h1
  ·rw [UR,uR ()]
   exact U
  ·have:ds= []:=vt h1;subst this;simp only [List.drop_nil,List.take_nil];exact U
 ·have e:cutV vs (some (n:Int)) (some ((n+k:Nat):Int))=(vs.drop n).take k:=by
   unfold cutV;rw [HT.sIx_nat,HT.sIx_nat];by_cases hn:n<=vs.length
   ·rw [Nat.min_eq_left hn];by_cases hk:n+k<=vs.length
    ·rw [Nat.min_eq_left hk,Nat.add_sub_cancel_left]
    ·rw [Nat.min_eq_right (),uR (i:=vs.length-n) (by rw [vn];omega),uR (by rw [vn];omega)]
   ·have m1:min n vs.length=vs.length:=by omega
    have m2:min (n+k) vs.length=vs.length:=by omega
    rw [m1,m2,List.drop_length,List.take_nil,vH (),List.take_nil]
  rw [e];exact q _ _ (qf O _) (Is.new ((U.drop n).take k) O)
theorem sl_fr {K:o0}(Z:Is H (.tup ds) v)(q:∀u H',Same H H'->Is H' (.tup (ds.drop n)) u->Q u H'):rSlG K v (some (n:Int)) none H Q:=by
 obtain⟨p,vs,rfl,ep,U⟩:=Z;have hl:vs.length=ds.length:=U.length;refine⟨p,vs,1,SqT.of ep,λh=> ?_,λh l O=> ?_⟩
 ·have h:=h.1;rw [HT.sIx_nat] at h;have h1:n=0∨ds.length=0:=by omega
  refine q _ _ (Same.refl _) ⟨p,vs,1,ep,?_⟩;rcases h1 with rfl|h1
  ·rwa [UR]
  ·have:ds= []:=vt h1;subst this;rwa [List.drop_nil]
 ·have e:cutV vs (some (n:Int)) none=vs.drop n:=by
   by_cases hn:n<=vs.length
   ·exact ZY hn
   ·unfold cutV;rw [HT.sIx_none,HT.sIx_nat,Nat.min_eq_right (),Nat.sub_self,List.take_zero,vH ()]
  rw [e];exact q _ _ (qf O _) (Is.new (U.drop n) O)
inductive sp_unlike (vs:List V) (H:Hp) (Q:VK) (E_:XK):Prop
 |mk (v1 v2:V) (cs lx ly:List D) (_:vs= [v1,v2]) (_:Is H (.tup (cs++lx)) v1) (_:Is H (.tup (cs++ly)) v2) (_:nL (cs++lx)=true) (_:nL (cs++ly)=true) (_:dpL (cs++lx)<=50) (_:lx.take 1≠ly.take 1) (_:∀H',Same H H'->Q (.int (cs.length:Int)) H')
theorem Zw:∀{xs:oj D} (n:Nat),nL xs=true->nL (xs.drop n)=true
 |xs,0,h=>h
 | [],n+1,h=>rfl
 |x::r,n+1,h=>by
  simp only [nL,uz] at h;exact Zw n h.2
theorem wm:∀{xs:oj D} (n:Nat),nL xs=true->nL (xs.take n)=true
 |xs,0,h=>rfl
 | [],n+1,h=>rfl
 |x::r,n+1,h=>by
  simp only [nL,uz] at h;simp only [Uw,nL,h.1,wm n h.2,Us]
theorem dpL_sub {xs ys:oj D}(h:dpL xs<=n)(O:∀x∈ys,x∈xs):dpL ys<=n:=by
 rw [zX] at h⊢;exact λx U=>h x (O x U)
theorem ok_unlike (T:Tx K mg a):#[K,1,a.JU,a.J3,["asks","others"],sp_unlike]:=by
 exists 9,T.g_first_unlike,YD
 obtain⟨v1,v2,cs,lx,ly,rfl,h1,h2,n1,n2,hd,Z,k⟩:=h;exists _,%[#[qC,(2),YD.nd,qi],#[JE,#[qr,#[op_eqN,1,hr.units],#[Qk,Q3,pv 0,#[Qo,pv 2],#[Qo,#[qS,QL,pv 2,qi]]],#[Qk,Q3,pv 1,#[Qo,pv 2],#[Qo,#[qS,QL,pv 2,qi]]],qy _],%[|#[ps_aug,2,(2),6,YD.nd,rfl,Or.inl rfl,qi,ip_add,_]]]|#[qp,pv 2]]
 exists 7
 let J_:Nat->L2.St->Hp->Prop:=λmm σ H'=>∃i:Nat,i<=cs.length/\mm=cs.length-i/\σ= [some v1,some v2,some (.int (i:Int))]/\Same H H'
 exists J_,⟨_,(0),v7 _,1,1,Same.refl _⟩;rintro mm σ H1 ⟨i,hi,rfl,rfl,s1⟩;exists 0,0,0,0,(i:Int),(1),1,1,0;refine sl_mid (n:=i) (k:=1) (h1.mono s1.tk) λu1 H2 s2 i2=> ?_;exists 0,0,0,0,(i:Int),(1),1,1,0;refine sl_mid (n:=i) (k:=1) (h2.mono (s1.trans s2).tk) λu2 H3 s3 i3=> ?_;have O:=(s1.trans s2).trans s3;exists _,_,i2.mono s3.tk,i3,wm 1 (Zw i n1),wm 1 (Zw i n2),uL (dpL_sub hd λx hx=>List.mem_of_mem_drop (List.mem_of_mem_take hx)) (),0
 by_cases c:i<cs.length
 ·have U:((cs++lx).drop i).take 1= [cs[i]]:=by
   rw [List.drop_append_of_le_length hi,uW c]
   rfl
  have e2:((cs++ly).drop i).take 1= [cs[i]]:=by
   rw [List.drop_append_of_le_length hi,uW c]
   rfl
  have hn:nL [cs[i]]=true:=by rw [<-U];exact wm 1 (Zw i n1)
  refine iteB (by rw [U,e2];exact(eqNL_iff hn).mpr rfl) ?_
  exists λσ' H'=>∃m',m'<cs.length-i/\J_ m' σ' H',λ_ _ h=>h;exact⟨0,(i:Int),(1),1,1,cs.length-(i+1),(),i+1,c,1,1,O⟩
 ·have ei:i=cs.length:=by omega
  have U:((cs++lx).drop i).take 1=lx.take 1:=by rw [ei,List.drop_left]
  have e2:((cs++ly).drop i).take 1=ly.take 1:=by rw [ei,List.drop_left]
  have hn:nL (lx.take 1)=true:=by rw [<-U];exact wm 1 (Zw i n1)
  refine iteN (by
   rw [U,e2];show eqNL (lx.take 1) (ly.take 1)=false;cases e:eqNL (lx.take 1) (ly.take 1) with
   |false=>rfl
   |true=>exact absurd ((eqNL_iff hn).mp e) Z) ?_
  rw [ei];exact⟨0,k H3 O⟩
theorem asksP_eq (p:Gp):asksP p= .tup (QS p):=by
 unfold asksP QS;cases p.run with
 |none=>rfl
 |some q=>rfl
noncomputable def Pa (qs qs':oj (Str×D))(n:Str)(cs lx ly:oj D):Prop:=∃g,g0D n (qE qs n)=some g/\g0D n (qE qs' n)=some g/\QS (itP qs 302 g)=cs++lx/\QS (itP qs' 302 g)=cs++ly/\lx.take 1≠ly.take 1
theorem pre_one {α:Type}:∀{cs ds lx ly O U:oj α},cs++lx=ds++O->cs++ly=ds++U->lx.take 1≠ly.take 1->O.take 1≠U.take 1->cs=ds/\lx=O/\ly=U
 | [],[],_,_,_,_,h1,h2,_,_=>⟨1,h1,h2⟩
 | [],d::ds,lx,ly,O,U,h1,h2,n1,_=>by
  have h1:lx=d::(ds++O):=h1;have h2:ly=d::(ds++U):=h2;rw [h1,h2] at n1;exact absurd rfl n1
 |c::cs,[],lx,ly,O,U,h1,h2,_,n2=>by
  have h1:c::(cs++lx)=O:=h1;have h2:c::(cs++ly)=U:=h2;rw [<-h1,<-h2] at n2;exact absurd rfl n2
 |c::cs,d::ds,_,_,_,_,h1,h2,n1,n2=>by
  injection h1 with h3 h4
  injection h2 with h5 h6
  obtain⟨Z,e2,e3⟩:=pre_one h4 h6 n1 n2;exact⟨by rw [h3,Z],e2,e3⟩
variable {qs':oj (Str×D)}
theorem Pa.one {n:Str}{cs lx ly O U:oj D}(h:Pa qs qs' n cs lx ly)(k:Pa qs qs' n ds O U):cs=ds/\lx=O/\ly=U:=by
 obtain⟨g,h1,h2,h3,h4,h5⟩:=h;obtain⟨g',k1,k2,k3,Z,k5⟩:=k;rw [h1] at k1;cases k1;rw [h3] at k3;rw [h4] at Z;exact pre_one k3 Z h5 k5
inductive Rsn (qs qs':List (Str×D)):Str->List Str->List Nat->D->Prop
 |src {n:Str}:qE qs n≠qE qs' n->Rsn qs qs' n [] [] (.tup [.str "source"])
 |ask {n kd z:Str}{cs lx ly r:List D}{a:D}:qE qs n=qE qs' n->Pa qs qs' n cs lx ly->lx++ly= .tup [.tup [.str kd,.str z],a]::r->isHN kd=true->Rsn qs qs' n [] [] (.tup [.str "ask",.tup [.str kd,.str z]])
 |more {n kd m:Str}{cs lx ly r:List D}{a e:D}{ws:List Str}{ps:List Nat}:qE qs n=qE qs' n->Pa qs qs' n cs lx ly->lx++ly= .tup [.tup [.str kd,.str m],a]::r->isHN kd=false->Rsn qs qs' m ws ps e->Rsn qs qs' n (m::ws) (cs.length::ps) e
variable {ws:oj Str}{e:D}
theorem Rsn.one {n:Str}{ps:oj Nat}(h:Rsn qs qs' n ws ps e):∀{O:oj Str}{U:oj Nat}{e':D},Rsn qs qs' n O U e'->ws=O/\ps=U/\e=e':=by
 induction h with
 |src h1=>
  intro O U e' k;cases k with
  |src _=>exact⟨1,1,1⟩
  |ask k1 _ _ _=>exact absurd k1 h1
  |more k1 _ _ _ _=>exact absurd k1 h1
 |ask h1 h2 h3 h4=>
  intro O U e' k;cases k with
  |src k1=>exact absurd h1 k1
  |ask k1 k2 k3 Z=>
   obtain⟨_,e1,e2⟩:=h2.one k2;rw [e1,e2,k3] at h3;cases h3;exact⟨1,1,1⟩
  |more k1 k2 k3 Z _=>
   obtain⟨_,e1,e2⟩:=h2.one k2;rw [e1,e2,k3] at h3;cases h3;rw [h4] at Z;cases Z
 |more h1 h2 h3 h4 _ ih=>
  intro O U e' k;cases k with
  |src k1=>exact absurd h1 k1
  |ask k1 k2 k3 Z=>
   obtain⟨_,e1,e2⟩:=h2.one k2;rw [e1,e2,k3] at h3;cases h3;rw [h4] at Z;cases Z
  |more k1 k2 k3 Z k5=>
   obtain⟨e0,e1,e2⟩:=h2.one k2;rw [e1,e2,k3] at h3;cases h3;obtain⟨f1,f2,f3⟩:=ih k5;exact⟨by rw [f1],by rw [e0,f2],f3⟩
variable {m:Str}
theorem F_val (U:Qw qs){v:D}(h:FP qs m=some (some v)):isT v=true:=by
 obtain⟨k,h⟩:=(Sy.F_iff (ya qs)).mp h;cases O:(SyP qs).g0 m with
 |none=>
  rw [Sy.XZ O] at h;have h:onceD (qE qs m)=some v:=uI h;by_cases hm:m∈qs.map (·.1)
  ·obtain⟨hn,kk,e,hd,h1,h2⟩:=zq U hm;have O:g0D m (qE qs m)=none:=O;rw [hd] at O h;unfold g0D at O;simp only at O;cases(show some e=some v from h)
   by_cases c:kk="leaf"
   ·exact(h2 (by rw [c];decide+kernel)).2
   ·rw [A2 c] at O;split at O<;>cases O
  ·rw [Yj hm] at h;cases h
 |some g=>
  cases k with
  |zero=>rw [Sy.wE O] at h;cases h
  |succ k=>
   rw [Sy.WD O] at h;have Z:=it_gi U (Fh_ok U k) 302 (gi_g0 U O).1 (ga_g0 O).1;cases hs:(SyP qs).said (Sy.it (SyP qs) (Sy.Fh (SyP qs) k) (SyP qs).M g) with
   |none=>rw [hs] at h;cases h
   |some u=>
    rw [hs] at h;cases h;exact said_ok Z.1 hs
theorem getD_ne (Z:Qw qs)(U:Qw qs'){a b:om D}(ha:FP qs m=some a)(hb:FP qs' m=some b)(O:a≠b):a.getD .non≠b.getD .non:=by
 have nt:isT .non=true->False:=λh=>absurd h ()
 cases a with
 |none=>
  cases b with
  |none=>exact absurd rfl O
  |some v=>exact λz=>nt (by rw [show D.non=v from z];exact F_val U hb)
 |some v=>
  cases b with
  |none=>exact λz=>nt (by rw [<-show v=D.non from z];exact F_val Z ha)
  |some u=>exact λz=>O (by rw [show v=u from z])
variable {c:Gp}
theorem bh_ne (hq:Qw qs)(ae:Qw qs'){ly lz:oj D}(hg:GI c)(he:c.en=none)(b1:Bhd qs c ly)(b2:Bhd qs' c lz)(h:(QY c=none/\ownP qs c≠ownP qs' c)∨∃m,QY c=some m/\FP qs m≠FP qs' m):
  ∃kd z a r,yZ c= .tup [.str kd,.str z]/\ly++lz= .tup [.tup [.str kd,.str z],a]::r/\ly.take 1≠lz.take 1/\(isHN kd=true∨isHN kd=false/\QY c=some z/\FP qs z≠FP qs' z):=by
 rcases h with⟨Z,U⟩|⟨m,Z,U⟩
 ·obtain⟨rs,r,kd,z,hr,aa,hk,_,e1⟩:=JD (qs:=qs) hg he Z;obtain⟨af,r',ag,z',ad,ac,_,_,e2⟩:=JD (qs:=qs') hg he Z;have hp:yZ c= .tup [.str kd,.str z]:=by
   unfold yZ;rw [hr];show zf r.th=_;rw [aa]
   rfl
  rw [hr] at ad;cases ad;rw [aa] at ac;cases ac;obtain⟨r1,q1⟩:=b1.1 kd z Z hp;obtain⟨r2,q2⟩:=b2.1 kd z Z hp;rw [hp] at q1 q2;refine⟨kd,z,JO qs kd z,r1++lz,hp,by rw [q1];rfl,λO=> ?_,.inl hk⟩
  rw [q1,q2] at O;have:JO qs kd z=JO qs' kd z:=by
   have O: [D.tup [.tup [.str kd,.str z],JO qs kd z]]= [D.tup [.tup [.str kd,.str z],JO qs' kd z]]:=O;injection O with O _
   injection O with O
   injection O with _ O
   injection O with O _
  exact U (by rw [e1,e2,this])
 ·obtain⟨ah,aa⟩:=JL hg he Z;have hp:∃kd,yZ c= .tup [.str kd,.str m]/\isHN kd=false:=by
   rcases aa with⟨h1,h2⟩|⟨rs,r,h1,h2⟩
   ·exact⟨"rule",by unfold yZ;rw [h1,h2],()⟩
   ·refine⟨"thing",?_,()⟩
    unfold yZ;rw [h1];show zf r.th=_;rw [h2]
    rfl
  obtain⟨kd,hp,hk⟩:=hp;have w1:=b1.2 m Z;have w2:=b2.2 m Z;rw [hp] at w1 w2;cases ha:FP qs m with
  |some a=>
   obtain⟨r1,q1⟩:=w1.1 a ha;refine⟨kd,m,a.getD .non,r1++lz,hp,by rw [q1];rfl,λO=> ?_,.inr ⟨hk,Z,U⟩⟩
   cases hb:FP qs' m with
   |some b=>
    obtain⟨r2,q2⟩:=w2.1 b hb;rw [q1,q2] at O;have O: [D.tup [.tup [.str kd,.str m],a.getD .non]]= [D.tup [.tup [.str kd,.str m],b.getD .non]]:=O;injection O with O _
    injection O with O
    injection O with _ O
    injection O with O _
    exact getD_ne hq ae ha hb (λz=>U (by rw [ha,hb,z])) O
   |none=>
    rw [q1,w2.2 hb] at O;cases O
  |none=>
   cases hb:FP qs' m with
   |none=>exact absurd (ha.trans hb.symm) U
   |some b=>
    obtain⟨r2,q2⟩:=w2.1 b hb;refine⟨kd,m,b.getD .non,r2,hp,by rw [w1.2 ha,q2];rfl,λO=> ?_,.inr ⟨hk,Z,U⟩⟩
    rw [q2,w1.2 ha] at O;cases O
theorem turn (hq:Qw qs)(Z:Qw qs'){n:Str}(hs:qE qs n=qE qs' n)(aa:FP qs n≠FP qs' n):
  ∃g cs lx ly kd z a r,g0D n (qE qs n)=some g/\g0D n (qE qs' n)=some g/\Pa qs qs' n cs lx ly/\QS (itP qs 302 g)=cs++lx/\QS (itP qs' 302 g)=cs++ly/\lx.take 1≠ly.take 1/\lx++ly= .tup [.tup [.str kd,.str z],a]::r/\
   (isHN kd=true∨isHN kd=false/\FP qs z≠FP qs' z/\(∀k b,Sy.Fh (SyP qs) k n=some b->∃j d,j<k/\Sy.Fh (SyP qs) j z=some d)/\(∀k b,Sy.Fh (SyP qs') k n=some b->∃j d,j<k/\Sy.Fh (SyP qs') j z=some d)/\
    (∃k,(itP qs k g).en=none/\QY (itP qs k g)=some z)/\∃k,(itP qs' k g).en=none/\QY (itP qs' k g)=some z):=by
 obtain⟨g,h1,h2,h3⟩:=unlike_runs hs aa;obtain⟨c,ly,lz,g1,he,e1,e2,b1,b2,⟨k1,O⟩,⟨k2,U⟩,h4⟩:=parting hq Z h1 h2 h3;obtain⟨kd,z,a,r,hp,hl,ht,hz⟩:=bh_ne hq Z g1 he b1 b2 h4;exists g,QS c,ly,lz,kd,z,a,r,h1,h2,⟨g,h1,h2,e1,e2,ht⟩,e1,e2,ht,hl;rcases hz with hz|⟨hz,hw,hn⟩
 ·exact .inl hz
 ·exact .inr ⟨hz,hn,λk b hb=>sooner h1 ⟨k1,O⟩ he hw hb,λk b hb=>sooner h2 ⟨k2,U⟩ he hw hb,⟨k1,by rwa [O],by rwa [O]⟩,⟨k2,by rwa [U],by rwa [U]⟩⟩
theorem len_sub:∀{l m:oj Str},l.Nodup->(∀x∈l,x∈m)->l.length<=m.length
 | [],m,_,_=>v7 _
 |x::r,m,hn,hs=>by
  rw [U4] at hn;have O:=hs x uf;have h:=len_sub (l:=r) (m:=m.erase x) hn.2 (λy U=>(List.mem_erase_of_ne (λz=>hn.1 (by rwa [<-z]))).mpr (hs y (uc _ U)))
  rw [List.length_erase_of_mem O] at h;have:0<m.length:=List.length_pos_of_mem O;rw [um];omega
noncomputable def Sd (Y:Sy)(pre:oj Str)(cur:Str):Prop:=(∃k a,Sy.Fh Y k cur=some a)/\∀x∈pre,∀k a,Sy.Fh Y k x=some a->∃j b,j<k/\Sy.Fh Y j cur=some b
variable {pre:oj Str}{cur:Str}
theorem Sd.new {Y:Sy}(h:Sd Y pre cur):cur∉pre:=λhm=>by
 have O:∀k a,Sy.Fh Y k cur≠some a:=by
  intro k
  induction k using Nat.strongRecOn with
  |_ k U=>
   intro a e;obtain⟨j,b,Z,e1⟩:=h.2 cur hm k a e;exact U j Z b e1
 obtain⟨k,a,e⟩:=h.1;exact O k a e
variable {z:Str}
theorem Sd.more {Y:Sy}(h:Sd Y pre cur)(U:∀k b,Sy.Fh Y k cur=some b->∃j d,j<k/\Sy.Fh Y j z=some d):Sd Y (pre++ [cur]) z:=by
 refine⟨?_,λx O k a e=> ?_⟩
 ·obtain⟨k,a,e⟩:=h.1;obtain⟨j,d,_,Z⟩:=U k a e;exact⟨j,d,Z⟩
 ·rcases A7.mp O with O|O
  ·obtain⟨j,b,hj,Z⟩:=h.2 x O k a e;obtain⟨i,d,hi,e2⟩:=U j b Z;exact⟨i,d,(),e2⟩
  ·cases A6.mp O;exact U k a e
theorem sd_begin {n:Str}(h:FP qs n≠FP qs' n):Sd (SyP qs) [] n∨Sd (SyP qs') [] n:=by
 cases h1:FP qs n with
 |some a=>
  obtain⟨k,e⟩:=(Sy.F_iff (ya qs)).mp h1;exact .inl ⟨⟨k,a,e⟩,λx O=>by cases O⟩
 |none=>
  cases h2:FP qs' n with
  |some a=>
   obtain⟨k,e⟩:=(Sy.F_iff (ya qs')).mp h2;exact .inr ⟨⟨k,a,e⟩,λx O=>by cases O⟩
  |none=>exact absurd (h1.trans h2.symm) h
structure Wy (qs qs':oj (Str×D))(n:Str)(don don':oj (Str×Gp))(pre:oj Str)(cur:Str)(pp:oj Nat):Prop where
 ne:FP qs cur≠FP qs' cur
 sd:Sd (SyP qs) pre cur∨Sd (SyP qs') pre cur
 nd:pre.Nodup
 sub:∀x∈pre,x∈qs.map (·.1)
 at1:g0D cur (qE qs cur)=none∨cur∈don.map (·.1)
 at2:g0D cur (qE qs' cur)=none∨cur∈don'.map (·.1)
 hd:(pre++ [cur]).head? =some n
 rs:∀ws ps e,Rsn qs qs' cur ws ps e->Rsn qs qs' n ((pre++ [cur]).tail++ws) (pp++ps) e
variable {don':oj (Str×Gp)}
theorem Wy.begin {n:Str}(h:FP qs n≠FP qs' n)(h1:g0D n (qE qs n)=none∨n∈don.map (·.1))(h2:g0D n (qE qs' n)=none∨n∈don'.map (·.1)):Wy qs qs' n don don' [] n []:=
 ⟨h,sd_begin h,vR,(λx O=>by cases O),h1,h2,1,λws ps e r=>r⟩
theorem Wy.new {n:Str}{pp:oj Nat}(h:Wy qs qs' n don don' pre cur pp):cur∉pre:=h.sd.elim Sd.new Sd.new
theorem Wy.few (O:Qw qs){n:Str}{pp:oj Nat}(h:Wy qs qs' n don don' pre cur pp):pre.length<=60:=by
 have:=len_sub h.nd h.sub;rw [ua] at this;exact uL this O.2.2
theorem Wy.more {qs qs':oj (Str×D)}(hq:Qw qs){n n1 n2:Str}{don don':oj (Str×Gp)}{pre:oj Str}{cur kd z:Str}{pp:oj Nat}{cs lx ly r:oj D}{a:D}{g:Gp}(h:Wy qs qs' n don don' pre cur pp)(d1:Dn qs n1 don)(d2:Dn qs' n2 don')(hs:qE qs cur=qE qs' cur)(hg:g0D cur (qE qs cur)=some g)(af:g0D cur (qE qs' cur)=some g)(hP:Pa qs qs' cur cs lx ly)(hl:lx++ly= .tup [.tup [.str kd,.str z],a]::r)(hk:isHN kd=false)(ag:FP qs z≠FP qs' z)
  (s1:∀k b,Sy.Fh (SyP qs) k cur=some b->∃j d,j<k/\Sy.Fh (SyP qs) j z=some d) (s2:∀k b,Sy.Fh (SyP qs') k cur=some b->∃j d,j<k/\Sy.Fh (SyP qs') j z=some d) (w1:∃k,(itP qs k g).en=none/\QY (itP qs k g)=some z) (w2:∃k,(itP qs' k g).en=none/\QY (itP qs' k g)=some z):
  Wy qs qs' n don don' (pre++ [cur]) z (pp++ [cs.length])/\pre.length+1<=60:=by
 have hc:cur∈qs.map (·.1):=(ya qs).gn cur g hg;have aa:(pre++ [cur]).Nodup:=(List.perm_append_comm (l₁:= [cur]) (l₂:=pre)).nodup_iff.mp (List.nodup_cons.mpr ⟨h.new,h.nd⟩);have Z:∀x∈pre++ [cur],x∈qs.map (·.1):=λx hx=>by
  rcases A7.mp hx with hx|hx
  ·exact h.sub x hx
  ·cases A6.mp hx;exact hc
 have ac:∀{U:oj (Str×D)}{m:Str}{dd:oj (Str×Gp)},Dn U m dd->(g0D cur (qE U cur)=none∨cur∈dd.map (·.1))->g0D cur (qE U cur)=some g->(∃k,(itP U k g).en=none/\QY (itP U k g)=some z)->g0D z (qE U z)=none∨z∈dd.map (·.1):=by
  intro U m dd hd O ad hw;obtain⟨k,e1,e2⟩:=hw;rcases O with O|O
  ·rw [ad] at O;cases O
  ·obtain⟨p,hp,ep⟩:=A8.mp O;obtain⟨j,hj⟩:=id hd;cases ae:g0D m (qE U m) with
   |none=>rw [dn_none ae hd] at hp;cases hp
   |some ah=>exact Sy.end_clo (Y:=SyP U) (ya U) ae hj hp (s:=g) (by rwa [ep]) (i:=k) (by show(itP U k g).en.isSome=false;rw [e1];rfl) e2
 refine⟨⟨ag,?_,aa,Z,ac d1 h.at1 hg w1,ac d2 h.at2 af w2,?_,λws ps e hr=> ?_⟩,?_⟩
 ·rcases h.sd with s|s
  ·exact .inl (s.more s1)
  ·exact .inr (s.more s2)
 ·have:=h.hd;cases hp:pre with
  |nil=>rwa [hp] at this
  |cons x l=>rwa [hp] at this
 ·have:=h.rs (z::ws) (cs.length::ps) e (.more hs hP hl hk hr);have e1:(pre++ [cur]++ [z]).tail++ws=(pre++ [cur]).tail++(z::ws):=by
   cases hp:pre with
   |nil=>rfl
   |cons x l=>simp
  rw [e1,vK];exact this
 ·have:=len_sub aa Z;rw [ua,uA] at this;exact uL this hq.2.2
mutual
theorem lw_k:∀{d:D},lw d=true->kD d=true
 | .str z,_=>by simp [kD]
 | .tup xs,h=>by
  have:=lwL_k (xs:=xs) (by simpa [lw] using h)
  simpa [kD] using this
 | .non,h=>by simp [lw] at h
 | .int _,h=>by simp [lw] at h
 | .bl _,h=>by simp [lw] at h
 | .lst,h=>by simp [lw] at h
 | .dct,h=>by simp [lw] at h
theorem lwL_k:∀{xs:oj D},lwL xs=true->kL xs=true
 | [],_=>by simp [kL]
 |x::r,h=>by
  have h':lw x=true/\lwL r=true:=by simpa [lwL] using h
  simp [kL,lw_k h'.1,lwL_k h'.2]
end
theorem dat_non:∀{qs:oj (Str×D)}{z:Str},z∉qs.map (·.1)->qE qs z= .non
 | [],z,_=>rfl
 |p::r,z,h=>by
  have h1:¬p.1=z:=λe=>h (by rw [<-e];exact uf ..)
  have h2:=dat_non (qs:=r) (z:=z) λhm=>h (uc _ hm);unfold qE at h2⊢;rw [uY,ug h1];exact h2
theorem dat_k (h:PrOk qs)(z:Str):kD (qE qs z)=true/\dp (qE qs z)<=13:=by
 by_cases c:z∈qs.map (·.1)
 ·have O:=h.2 _ (dat_mem h.1.2 c);exact⟨lw_k O.2.2.1,src_dp O⟩
 ·rw [dat_non c];exact⟨1,by simp [dp]⟩
theorem OrdF.get {n:Str}{o:Oc}{g:Gp}(h:OrdF CO CP H0 H qs n o rk uk fk don)(hg:g0D m (qE qs m)=some g)(hm:g0D m (qE qs m)=none∨m∈don.map (·.1)):∃v,valV rk (Sum.inr m)=some v/\Is H (.tup [.tup (QS (itP qs 302 g)),endP (itP qs 302 g)]) v/\GI (itP qs 302 g)/\(itP qs 302 g).en.isSome=true:=by
 rcases hm with hm|hm
 ·rw [hg] at hm;cases hm
 obtain⟨⟨U,p⟩,O,rfl⟩:=A8.mp hm;obtain⟨s,e1,e2⟩:=dn_mem h.dn O;have e1:g0D U (qE qs U)=some s:=e1;rw [hg] at e1;cases e1;have e2:p=itP qs 302 g:=e2;obtain⟨vs,f1,f2,f3⟩:=rk_vs h.ks;have hk:vs.map (·.1)=(don.map λq=>(q.1,xR q.2)).map (·.1):=by rw [f2,uN];rfl
 have hi:L2.IsL H ((don.map λq=>(q.1,xR q.2)).map (·.2)) (vs.map (·.2)):=by rw [f3,uN];exact h.vs
 have aa:U∈(don.map λq=>(q.1,xR q.2)).map (·.1):=by rwa [uN]
 obtain⟨l1,l2⟩:=look2 hk hi aa;have hd:qE (don.map λq=>(q.1,xR q.2)) U=xR p:=dat_of (by rw [uN];exact dn_nd h.dn) (A8.mpr ⟨(U,p),O,1⟩)
 rw [hd,fullP_eq,asksP_eq,e2] at l2;have Z:=h.gi _ O;rw [show((U,p):Str×Gp).2=itP qs 302 g from e2] at Z
 exact⟨_,by rwa [f1],l2,Z⟩
theorem asks_len {p:Gp}(h:GI p):(QS p).length<=400:=by
 have h1:=h.ra.2.2;unfold QS;rw [uA];cases O:p.run with
 |none=>show _+0<=400;omega
 |some q=>
  obtain⟨rs,r⟩:=q;have h2:=(h.run rs r O).2.1;have h3:=h2.gs.2.2;have h4:=h2.n;show _+r.gs.length<=400;omega
theorem asks_nd {p:Gp}(h:GI p)(Z:p.en.isSome=true):nL (QS p)=true/\dpL (QS p)<=30:=by
 obtain⟨U,O,_⟩:=gi_nd h Z;rw [asksP_eq] at U O;exists U;have O:1+dpL (QS p)<=31:=O;omega
variable {l:oj Str}
theorem hd_tl {n:Str}(h:l.head? =some n):n::l.tail=l:=by
 cases l with
 |nil=>cases h
 |cons x r=>cases h;rfl
theorem ints_is {H:Hp}:∀ps:oj Nat,L2.IsL H (ps.map λp:Nat=>D.int (p:Int)) (ps.map λp:Nat=>V.int (p:Int))
 | []=>rfl
 |p::r=>⟨_,0,1,ints_is r⟩
theorem strs_isL {H:Hp}:∀{zs:oj Str},(∀z∈zs,z.length<=100)->L2.IsL H (zs.map D.str) (zs.map V.str)
 | [],_=>rfl
 |z::r,h=>⟨_,0,YG (by have:=h z uf;omega),strs_isL λy O=>h y (uc _ O)⟩
noncomputable def rsnD (n:Str)(ws:oj Str)(ps:oj Nat)(e:D):D:= .tup [.tup ((n::ws).map D.str),.tup (ps.map λp:Nat=>D.int (p:Int)),e]
inductive sp_reason (CP:Addr) (vs:List V) (H:Hp) (Q:VK) (E_:XK):Prop
 |mk (px px':Addr) (n:Str) (qs qs':List (Str×D)) (_:vs= [.ref px,.ref px',.str n]) (_:nm n=true) (_:QX CP H px qs) (_:Qw qs) (_:QX CP H px' qs') (_:Qw qs') (_:(FP qs n=FP qs' n->∀H',Same H H'->Q .non H')) (_:(FP qs n≠FP qs' n->∀v H' ws ps e,Same H H'->Rsn qs qs' n ws ps e->ws.length<=60->ps.length<=60->Is H' (rsnD n ws ps e) v->Q v H'))
theorem std_one {a b:om (om D)}(h:stdD a=stdD b):a=b:=by
 cases a with
 |none=>
  cases b with
  |none=>rfl
  |some b=>cases b with
   |none=>exact absurd h (by unfold stdD;intro z;injection z with z;injection z with z _;injection z with z;revert z;decide+kernel)
   |some v=>exact absurd h (by unfold stdD;intro z;injection z with z;injection z with z _;injection z with z;revert z;decide+kernel)
 |some a=>
  cases a with
  |none=>
   cases b with
   |none=>exact absurd h (by unfold stdD;intro z;injection z with z;injection z with z _;injection z with z;revert z;decide+kernel)
   |some b=>cases b with
    |none=>rfl
    |some v=>exact absurd h (by unfold stdD;intro z;injection z with z;injection z with z _;injection z with z;revert z;decide+kernel)
  |some u=>
   cases b with
   |none=>exact absurd h (by unfold stdD;intro z;injection z with z;injection z with z _;injection z with z;revert z;decide+kernel)
   |some b=>cases b with
    |none=>exact absurd h (by unfold stdD;intro z;injection z with z;injection z with z _;injection z with z;revert z;decide+kernel)
    |some v=>
     unfold stdD at h;injection h with h
     injection h with _ h
     injection h with h _
     rw [h]
noncomputable def stdL (o:om (om D)):oj D:=match stdD o with
 | .tup l=>l
 |_=> []
theorem zl (o:om (om D)):stdD o= .tup (stdL o):=by
 cases o with
 |none=>rfl
 |some x=>cases x with
  |none=>rfl
  |some v=>rfl
theorem std_nd (U:Qw qs)(n:Str):nL (stdL (FP qs n))=true/\dpL (stdL (FP qs n))<=20:=by
 cases h:FP qs n with
 |none=>exact⟨1,by show dpL [.str "none"]<=20;simp [dpL,dp]⟩
 |some x=>cases x with
  |none=>exact⟨1,by show dpL [.str "lack"]<=20;simp [dpL,dp]⟩
  |some v=>
   have O:=F_val U h;have h2:=JX O;refine⟨?_,?_⟩
   ·show nL [.str "value",v]=true;simp only [nL,nD,WK (yB O),vQ]
   ·show dpL [.str "value",v]<=20;simp only [dpL,dp];omega
theorem ok_reason (T:Tx K mg a)(C:Fx K w mg g a):#[K,16,a.f_reason,a.d_reason,["project","other","name"],(sp_reason a.qD)]:=by
 have YJ:=#[ok_from,T,C];have Jz:=#[ZS,T];have Qe:=#[xn,T];have wP:=#[ok_unlike,T];exists 9,T.g_reason,yw
 obtain⟨px,px',n,qs,qs',rfl,hn,hP,hq,aO,al,kE,kN⟩:=h;have hs:=uE;exists _,%[#[qC,(3),yw.nd,#[qt,YJ,hr.mono (),T.g_order_from,#v[pv 0,pv 2]]],#[qC,(4),yw.nd,#[qt,YJ,hr.mono (),T.g_order_from,#v[pv 1,pv 2]]],#[qI,#[qr,#[op_eqN,1,hr.units],#[qt,Jz,hr.mono (),T.g_standing,#v[pv 3,pv 2]],#[qt,Jz,hr.mono (),T.g_standing,#v[pv 4,pv 2]],qy _],%[|#[qp,qU]],qw],#[qC,(5),yw.nd,#[QW,#v[pv 2]]],#[qC,(6),yw.nd,#[QW,qd]],#[JE,#[qr,#[op_eqA,1,hr.units],#[Qm,pv 0,T.yH,T.g_Project_source_of,Qe,#v[#[qN,Q4,pv 5,#[pe_un,6,zO,qi]]]],#[Qm,pv 1,T.yH,T.g_Project_source_of,Qe,#v[#[qN,Q4,pv 5,#[pe_un,6,zO,qi]]]],qy _],%[#[qC,(7),yw.nd,#[qN,qM,#[QE,#[qL,5,pv 3,rfl],#[qN,Q4,pv 5,#[pe_un,6,zO,qi]]],qi]],#[qC,(8),yw.nd,#[qN,qM,#[QE,#[qL,5,pv 4,rfl],#[qN,Q4,pv 5,#[pe_un,6,zO,qi]]],qi]],#[qC,(9),yw.nd,#[qt,wP,hr.mono (),T.g_first_unlike,#v[pv 7,pv 8]]],#[qC,(10),yw.nd,#[qN,JV,#[qN,qM,#[qS,yi,#[Qk,Q3,pv 7,#[Qo,pv 9],QV],#[Qk,Q3,pv 8,#[Qo,pv 9],QV]],qi],qi]],#[qI,#[qr,QI,#[qN,qM,pv 10,qi],#[qB,#v[ql,ql]],#[w]],%[|#[qp,#[qB,#v[#[qW,qR,T.QD,vg,#v[pv 5]],#[qW,qR,T.QD,vg,#v[pv 6]],#[qB,#v[ql,pv 10]]]]]],qw],#[qY,#[jx,uV,vy,vz,Yv,pv 6,#v[pv 9]]]|#[qY,#[jx,uV,vy,vz,Yv,pv 5,#v[#[qN,qM,pv 10,qi]]]]]]|#[qp,#[qB,#v[#[qW,qR,T.QD,vg,#v[pv 5]],#[qW,qR,T.QD,vg,#v[pv 6]],#[qB,#v[ql]]]]]]
 exists 7
 exists 8,N1,q1;refine⟨0,0,px,n,qs,1,hn,hP,hq,λH1 o1 aP aQ fk1 ae _ aa bY=>q1 _ _ ?_⟩;exists 8,N2,q2;refine⟨0,0,px',n,qs',1,hn,aO.same aa.sm,al,λH2 o2 aF aG aH ac _ O bZ=>q2 _ _ ?_⟩;exists 8,N3,q3;have ay:=aa.same O.sm;refine⟨0,0,H,o1,qs,n,n,aP,aQ,fk1,ae,1,hq,ay,(),ZW aa.dn,λv3 H3 bp k3 aR l3 i3=> ?_⟩
 have Z:=aa.df;have d1:o1.df≠o2.dr:=λz=>by rw [z,O.new.2.1] at Z;cases Z
 have d2:o1.df≠o2.du:=λz=>by rw [z,O.new.2.2.1] at Z;cases Z
 have d3:o1.df≠o2.df:=λz=>by rw [z,O.new.2.2.2] at Z;cases Z
 have hf:=aa.sm;have aS:OrdF a.qm a.qD H H2 qs' n o2 aF aG aH ac:=⟨hf.trans O.sm,O.oa,O.dr,O.ks,O.vs,O.du,O.uo,O.df,O.fd,O.fl,O.dn,O.sg,O.gi,O.len,⟨hf.free O.new.1,hf.free O.new.2.1,hf.free O.new.2.2.1,hf.free O.new.2.2.2⟩,O.ne⟩;have aA:OrdF a.qm a.qD H H3 qs' n o2 aF aG aH ac:=aS.away k3 ay.df ⟨d1,d2,d3⟩ aR.sm;refine⟨0,0,H,o2,qs',n,n,aF,aG,aH,ac,1,al,aA,(),ZW O.dn,λv4 H4 b9 k4 aI l4 i4=> ?_⟩
 have aB:=aa.dr;have aC:=aa.du;have aT:OrdF a.qm a.qD H H4 qs n o1 aP aQ bp ae:=aR.away k4 aA.df ⟨λz=>(by rw [<-z,O.new.2.2.2] at aB;cases aB),λz=>(by rw [<-z,O.new.2.2.2] at aC;cases aC),d3.symm⟩ aI.sm
 obtain⟨c1,c2⟩:=std_nd hq n;obtain⟨c3,c4⟩:=std_nd al n;rw [zl] at i3 i4;exists _,_,i3.mono k4.tk,i4,c1,c3,(),0
 have s4:Same H H4:=aI.sm;by_cases am:FP qs n=FP qs' n
 ·refine iteB (by rw [am];exact(eqNL_iff c3).mpr rfl) ?_
  exact kE am H4 s4
 have cne:eqNL (stdL (FP qs n)) (stdL (FP qs' n))=false:=by
  cases e:eqNL (stdL (FP qs n)) (stdL (FP qs' n)) with
  |false=>rfl
  |true=>exact absurd (std_one (by rw [zl,zl,(eqNL_iff c1).mp e])) am
 refine iteN cne (q3 _ _ ?_);exists 8,N4,q4;refine⟨0,(sml rfl),λl5 h5=>q4 _ _ ?_⟩;exists 8,N5,q5;have s5:=qf h5 (.lst [V.str n]);refine⟨(sml rfl),λl6 h6=>q5 _ _ ?_⟩;exists 8,N6,q6;have s6:=qf h6 (.lst ([]:oj V));have aw:l5≠l6:=qk qg h6;have aU:upd (upd H4 l5 (.lst [V.str n])) l6 (.lst []) l5=some (.lst (([]++ [n]:oj Str).map V.str)):=by rw [qh aw];exact qg
 have aV:upd (upd H4 l5 (.lst [V.str n])) l6 (.lst []) l6=some (.lst (([]:oj Nat).map λp:Nat=>V.int (p:Int))):=qg;have sB:=s5.trans s6;have bq:H4 l5=none:=h5;have bt:H4 l6=none:=by rwa [qh aw.symm] at h6
 generalize upd (upd H4 l5 (.lst [V.str n])) l6 (.lst [])=HB at sB aU aV⊢;have bu:Wy qs qs' n ae ac [] n []:=Wy.begin am (ZW aa.dn) (ZW O.dn)
 let J_:Nat->L2.St->Hp->Prop:=λmm σ H'=>∃(pre:oj Str) (cur:Str) (pp:oj Nat) (u7 u8 u9 aW:om V),mm=60-pre.length/\σ= [some (.ref px),some (.ref px'),some (.str n),some (.ref o1.x),some (.ref o2.x),some (.ref l5),some (.ref l6),u7,u8,u9,aW]/\Wy qs qs' n ae ac pre cur pp/\H' l5=some (.lst ((pre++ [cur]).map V.str))/\H' l6=some (.lst (pp.map λp:Nat=>V.int (p:Int)))/\pp.length=pre.length/\Kp [l5,l6] H4 H'/\(∀x∈pre++ [cur],x.length<=100)
 have ca:=wS hn;refine⟨J_,⟨_,[],n,[],none,none,none,none,1,1,bu,aU,aV,1,Kp.of sB,λx hx=>(by cases A6.mp hx;omega)⟩,?_⟩
 rintro mm σ H7 ⟨pre,cur,pp,u7,u8,u9,aW,rfl,rfl,hW,ax,aJ,aX,hK,aD⟩;have af:Same H4 H7:=λb ob e=>hK.kept b ob e (λz=>by
  simp only [uC,uD,uM] at z;rcases z with rfl|rfl
  ·rw [bq] at e;cases e
  ·rw [bt] at e;cases e)
 have s7:=s4.trans af;have aY:=hP.same s7;have aE:=aO.same s7;obtain⟨bv,cb,cc,cd,hx,_⟩:=id aY;obtain⟨aZ,bS,bT,bU,bw,_⟩:=id aE;have ag:H7 l5=some (.lst (pre.map V.str++ [V.str cur])):=by rw [ax,uw];rfl
 have ce:=hW.few hq;refine⟨0,px,bv,0,hx,YK,0,0,l5,_,_,0,1,SqL.of ag,ji,px,cur,qs,1,aY,λw1 g1 g2=> ?_⟩;have bx:Is H7 (qE qs cur) w1:=by
  by_cases c:cur∈qs.map (·.1)
  ·exact g1 c
  ·rw [g2 c,Yj c];exact rfl
 refine⟨0,px',aZ,0,bw,YK,0,0,l5,_,_,0,1,SqL.of ag,ji,px',cur,qs',1,aE,λw2 g3 g4=> ?_⟩;have bA:Is H7 (qE qs' cur) w2:=by
  by_cases c:cur∈qs'.map (·.1)
  ·exact g3 c
  ·rw [g4 c,Yj c];exact rfl
 obtain⟨a1,a2⟩:=dat_k hq.1 cur;obtain⟨a3,a4⟩:=dat_k al.1 cur;exists _,_,bx,bA,a1,a3,(),0
 have out:∀(e:D) (t1 t2:o3) (ev:V) (H':Hp),Same H7 H'->H' t1=some (.tup ((pre++ [cur]).map V.str))->H' t2=some (.tup (pp.map λp:Nat=>V.int (p:Int)))->Is H' e ev->Rsn qs qs' cur [] [] e->∀t4,H' t4=none->Q (.ref t4) (upd H' t4 (.tup [.ref t1,.ref t2,ev])):=by
  intro e t1 t2 ev H' s' h1 h2 h3 hR t4 h4;have st:=qf h4 (.tup [.ref t1,.ref t2,ev]);have hr:=hW.rs [] [] e hR;rw [vc,vc] at hr;refine kN am _ _ _ _ e ((s7.trans s').trans st) hr (by have:=hW.few hq;rw [List.length_tail,uA];show pre.length+1-1<=60;omega) (by have:=hW.few hq;omega) ?_
  unfold rsnD;rw [hd_tl hW.hd];exact Is.new ⟨_,0,⟨t1,0,h1,strs_isL aD⟩,_,0,⟨t2,0,h2,ints_is pp⟩,_,0,h3,1⟩ h4
 by_cases ak:qE qs cur=qE qs' cur;rotate_left
 ·have en:eqN (qE qs cur) (qE qs' cur)=false:=by
   cases e:eqN (qE qs cur) (qE qs' cur) with
   |false=>rfl
   |true=>exact absurd ((xO (kD_n a1)).mp e) ak
  refine iteN en (q6 _ _ ?_);refine⟨0,l5,0,.inl ⟨SqL.of ax,λt1 h1=> ?_⟩⟩;have m1:=qf h1 (.tup ((pre++ [cur]).map V.str));refine⟨0,l6,0,.inl ⟨SqL.of (m1 _ _ aJ),λt2 h2=> ?_⟩⟩;have m2:=qf h2 (.tup (pp.map λp:Nat=>V.int (p:Int)));refine⟨(sml rfl),λt3 h3=> ?_⟩;have m3:=qf h3 (.tup [V.str "source"]);refine⟨(sml rfl),λt4 h4=> ?_⟩;exact out _ t1 t2 (.ref t3) _ ((m1.trans m2).trans m3) (m3 _ _ (m2 _ _ qg)) (m3 _ _ qg) (Is.new (ds:= [.str "source"]) ⟨_,0,YG (),1⟩ h3) (.src ak) t4 h4
 refine iteB (by rw [ak];exact(xO (kD_n a3)).mpr rfl) ?_
 obtain⟨gg,cs,lx,ly,kd,z,an,rr,t1,t2,tP,t3,t4,t5,t6,t7⟩:=turn hq al ak hW.ne;exists λσ' H'=>∃m',m'<60-pre.length/\J_ m' σ' H',λ_ _ h=>h;have ao:=aT.same af;have ap:=aI.same af;obtain⟨v1,b1,b2,b3,b4⟩:=ao.get t1 hW.at1;obtain⟨v2,b5,b6,b7,b8⟩:=ap.get t2 hW.at2;exists 8,B1,p1;obtain⟨bB,cf,rfl,a5,x1,cg,rfl,aK,ch,bV,rfl,_,_⟩:=id b2;obtain⟨bC,ci,rfl,a6,x2,cj,rfl,aL,ck,bW,rfl,_,_⟩:=id b6;refine⟨0,o1.x,_,o1.dx,_,0,ao.oa.e,T.qx,T.Qu,of_fr o1,0,0,l5,_,_,0,1,SqL.of ag,ji,o1.dr,0,(by rw [<-b1];exact DGet.k (k:=Sum.inr cur) ao.dr),bB,_,_,0,1,SqT.of a5,QF (j:=0) rfl,p1 _ _ ?_⟩
 exists 8,B2,p2;refine⟨0,o2.x,_,o2.dx,_,0,ap.oa.e,T.qx,T.Qu,of_fr o2,0,0,l5,_,_,0,1,SqL.of ag,ji,o2.dr,0,(by rw [<-b5];exact DGet.k (k:=Sum.inr cur) ap.dr),bC,_,_,0,1,SqT.of a6,QF (j:=0) rfl,p2 _ _ ?_⟩
 exists 8,B3,p3;obtain⟨c5,c6⟩:=asks_nd b3 b4;obtain⟨c7,c8⟩:=asks_nd b7 b8;have a7:=asks_len b3;have a8:=asks_len b7;rw [t3] at aK c5 c6 a7;rw [t4] at aL c7 c8 a8;rw [uA] at a7 a8;refine⟨0,0,x1,x2,cs,lx,ly,1,aK,aL,c5,c7,(),t5,λH8 s8=>p3 _ _ ?_⟩
 exists 8,B4,p4;exists 0,0,0;unfold YW;refine sl_fr (n:=cs.length) (aK.mono s8.tk) λu1 H9 s9 i9=> ?_;rw [List.drop_left] at i9;exists 0,0,0
 try unfold YW
 refine sl_fr (n:=cs.length) (aL.mono (s8.trans s9).tk) λu2 cm a9 ba=> ?_;rw [List.drop_left] at ba;refine catG_is (i9.mono a9.tk) ba () λu3 bD bE bb=> ?_
 rw [t6] at bb;obtain⟨q3,cn,rfl,bF,x3,r3,rfl,bG,_⟩:=bb;obtain⟨q4,cp,rfl,bH,x4,r4,rfl,bI,_⟩:=bG;obtain⟨q5,cq,rfl,bc,x5,r5,rfl,⟨rfl,bJ⟩,x6,r6,rfl,⟨rfl,bK⟩,bL⟩:=bI;cases(show r6= [] from bL)
 refine⟨q3,_,_,0,1,SqT.of bF,QF (j:=0) rfl,.inr (.inl ⟨q4,_,_,0,1,SqT.of bH,QF (j:=0) rfl,p4 _ _ ?_⟩)⟩;exists 8,B5,p5;have bd:=((s8.trans s9).trans a9).trans bE;refine⟨0,q5,_,_,0,1,SqT.of bc,1,(sml rfl),λt8 h8=> ?_⟩;have aM:=qf h8 (.tup [V.str "has",V.str "names"]);exists t8,0,.inr (SqT.of qg),1,1,0;have ad:=aM _ _ bc;have U:=bd.trans aM;generalize upd bD t8 (.tup [V.str "has",V.str "names"])=aN at aM ad U⊢;rcases t7 with hk|⟨hk,bM,bN,bO,be,bP⟩
 ·refine iteB ((inHN kd).trans hk) ?_;have aq:=U _ _ ax;refine⟨0,l5,0,.inl ⟨SqL.of aq,λy1 e1=> ?_⟩⟩;have m1:=qf e1 (.tup ((pre++ [cur]).map V.str));refine⟨0,l6,0,.inl ⟨SqL.of (m1 _ _ (U _ _ aJ)),λy2 e2=> ?_⟩⟩;have m2:=qf e2 (.tup (pp.map λp:Nat=>V.int (p:Int)));refine⟨0,(sml rfl),λy3 e3=> ?_⟩;have m3:=qf e3 (.tup [V.str "ask",V.ref q5]);refine⟨(sml rfl),λy4 e4=> ?_⟩;have bf:=m1.trans m2;have bg:Is (upd (upd aN y1 (.tup ((pre++ [cur]).map V.str))) y2 (.tup (pp.map λp:Nat=>V.int (p:Int)))) (.tup [.str kd,.str z]) (.ref q5):=⟨q5,0,bf _ _ ad,_,0,⟨1,bJ⟩,_,0,⟨1,bK⟩,1⟩;exact out _ y1 y2 (.ref y3) _ ((U.trans bf).trans m3) (m3 _ _ (m2 _ _ qg)) (m3 _ _ qg) (Is.new (ds:= [.str "ask",.tup [.str kd,.str z]]) ⟨_,0,YG (),_,0,bg,1⟩ e3) (.ask ak tP t6 hk) y4 e4
 ·refine iteN ((inHN kd).trans hk) (p5 _ _ ?_);exists 8,B6,p6;obtain⟨bQ,bX⟩:=hW.more hq aa.dn O.dn ak t1 t2 tP t6 hk bM bN bO be bP;have ah:=U _ _ aJ;have aq:=U _ _ ax;refine⟨0,.inl ⟨1,_,SqL.of ah⟩,0,l6,_,0,1,ah,(by rw [ua,aX];omega),p6 _ _ ?_⟩
  have nz:l5≠l6:=aw;have bh:upd aN l6 (.lst ((pp.map λp:Nat=>V.int (p:Int))++ [V.int (cs.length:Int)])) q5=some (.tup [V.str kd,V.str z]):=by rw [qh (λzz=>by rw [zz,ah] at ad;cases ad)];exact ad
  have au:upd aN l6 (.lst ((pp.map λp:Nat=>V.int (p:Int))++ [V.int (cs.length:Int)])) l5=some (.lst ((pre++ [cur]).map V.str)):=by rwa [qh nz]
  refine⟨0,.inl ⟨1,_,SqL.of au⟩,0,q5,_,_,0,1,SqT.of bh,1,l5,_,0,1,au,(by rw [ua,uA,vL];omega),?_⟩
  have bR:z.length<=100:=by
   obtain⟨k,e1,e2⟩:=be;have:=wS (JL (itP_gi hq t1 k).1 e1 e2).1;omega
  have bo:(pre++ [cur]).length=pre.length+1:=by rw [uA];rfl
  refine⟨60-(pre++ [cur]).length,(),pre++ [cur],z,pp++ [cs.length],_,_,_,0,1,bQ,?_,?_,?_,?_,?_⟩
  ·rw [qg,uw (l₁:=pre++ [cur])]
   rfl
  ·rw [qh aw.symm,qg,uw]
   rfl
  ·rw [uA,bo,aX]
   rfl
  ·refine⟨λb ob e hb=> ?_,((hK.tk.trans U.tk).trans (Tk.updL ah)).trans (Tk.updL au)⟩;simp only [uC,uD,uM,UW] at hb;rw [qh hb.1,qh hb.2];exact U b ob (af b ob e)
  ·intro x hx;rcases A7.mp hx with hx|hx
   ·exact aD x hx
   ·cases A6.mp hx;exact bR
noncomputable def nuD (d:D):Prop:=d= .non∨∃xs,d= .tup xs/\nL xs=true
noncomputable def rEqB:R2:=λx y H Q=>∃d e:D,Is H d x/\Is H e y/\nuD d/\nuD e/\dp d<=60/\Q (.bl (eqN d e)) H
variable {X:Cx}
theorem op_eqB (hu:X.A.units+64<cLine):OpR X (compareOp .Eq) rEqB:=by
 intro oq s σ H x y v u Q I U Z h;obtain⟨d,e,h1,h2,k1,k2,hd,q⟩:=h;have O:X.A.units<cLine:=by omega
 rcases k1 with rfl|⟨xs,rfl,k1⟩
 ·cases(show x= .non from h1)
  rcases k2 with rfl|⟨ys,rfl,k2⟩
  ·cases(show y= .non from h2)
   exact Qn oq s σ H .non .non v u Q I U Z ⟨1,by simpa [eqN] using q⟩
  ·obtain⟨p,us,rfl,hp,hl⟩:=(show∃p us,y=V.ref p/\H p=some (.tup us)/\L2.IsL H ys us from h2)
   cases U;cases Z;obtain⟨its,_,tq,_⟩:=I.tuple (.inl (.of hp));exact SeqAt.RcAt.none_tuple tq O X.prog X.w X.xe _ ⟨.bl false,H,I,1,by simpa [eqN] using q⟩
 ·rcases k2 with rfl|⟨ys,rfl,k2⟩
  ·obtain⟨p,us,rfl,hp,hl⟩:=(show∃p us,x=V.ref p/\H p=some (.tup us)/\L2.IsL H xs us from h1)
   cases(show y= .non from h2)
   cases U;cases Z;obtain⟨its,_,tq,_⟩:=I.tuple (.inl (.of hp));exact SeqAt.RcAt.tuple_none tq O X.prog X.w X.xe _ ⟨.bl false,H,I,1,by simpa [eqN] using q⟩
  ·refine op_eqN hu oq s σ H x y v u Q I U Z ⟨xs,ys,h1,h2,k1,k2,?_,by simpa [eqN] using q⟩
   have:dp (.tup xs)=1+dpL xs:=by simp only [dp]
   omega
theorem rsn_nd {n:Str}{ps:oj Nat}(h:Rsn qs qs' n ws ps e):nD e=true/\dp e<=5:=by
 induction h with
 |src _=>exact⟨1,by simp [dp,dpL]⟩
 |ask _ _ _ _=>exact⟨1,by simp [dp,dpL]⟩
 |more _ _ _ _ _ O=>exact O
theorem nL_strs:∀zs:oj Str,nL (zs.map D.str)=true/\dpL (zs.map D.str)<=1
 | []=>⟨1,by simp [dpL]⟩
 |z::r=>by
  obtain⟨h1,h2⟩:=nL_strs r;exact⟨by simp only [uh,nL,nD,h1,Us],by simp only [uh,dpL,dp];omega⟩
theorem nL_ints:∀ps:oj Nat,nL (ps.map λp:Nat=>D.int (p:Int))=true/\dpL (ps.map λp:Nat=>D.int (p:Int))<=1
 | []=>⟨1,by simp [dpL]⟩
 |z::r=>by
  obtain⟨h1,h2⟩:=nL_ints r;exact⟨by simp only [uh,nL,nD,h1,Us],by simp only [uh,dpL,dp];omega⟩
theorem rsnD_nu {n:Str}{ps:oj Nat}(h:Rsn qs qs' n ws ps e):nuD (rsnD n ws ps e)/\dp (rsnD n ws ps e)<=60:=by
 obtain⟨h1,h2⟩:=rsn_nd h;obtain⟨h3,h4⟩:=nL_strs (n::ws);obtain⟨h5,h6⟩:=nL_ints ps;refine⟨.inr ⟨0,?_⟩,?_⟩
 ·simp only [nL,nD,h1,h3,h5,Us]
 ·unfold rsnD;simp only [dp,dpL];omega
inductive W9 (CP:Addr) (vs:List V) (H:Hp) (Q:VK) (E_:XK):Prop
 |mk (px px':Addr) (n:Str) (qs qs':List (Str×D)) (tv:V) (td:D) (_:vs= [.ref px,.ref px',.str n,tv]) (_:nm n=true) (_:QX CP H px qs) (_:Qw qs) (_:QX CP H px' qs') (_:Qw qs') (_:Is H td tv) (_:nuD td) (_:(FP qs n=FP qs' n->∀H',Same H H'->Q (.bl (eqN .non td)) H')) (_:(FP qs n≠FP qs' n->∀H' ws ps e,Same H H'->Rsn qs qs' n ws ps e->Q (.bl (eqN (rsnD n ws ps e) td)) H'))
theorem ok_holds (T:Tx K mg a)(C:Fx K w mg g a):#[K,17,a.J2,a.J6,["project","other","name","told"],(W9 a.qD)]:=by
 have WZ:=#[ok_reason,T,C];exists 9,T.g_reason_holds,wx
 obtain⟨px,px',n,qs,qs',tv,td,rfl,hn,hP,hq,U,Z,ht,O,kE,kN⟩:=h;exists _,%[|#[qp,#[QZ,op_eqB hr.units,#[qt,WZ,hr.mono (),T.g_reason,#v[pv 0,pv 1,pv 2]],pv 3,qy _]]]
 exists 7
 refine⟨0,0,0,px,px',n,qs,qs',1,hn,hP,hq,U,Z,λe H1 s1=> ?_,λe v H1 ws ps ee s1 hR _ _ hv=> ?_⟩
 ·exact⟨0,.non,td,1,ht.mono s1.tk,.inl rfl,O,by simp [dp],kE e H1 s1⟩
 ·obtain⟨h1,h2⟩:=rsnD_nu hR;exact⟨0,_,td,hv,ht.mono s1.tk,h1,O,h2,kN e H1 ws ps ee s1 hR⟩
noncomputable def TblAt (H:Hp)(d:o3)(ps:oj (Str×D)):Prop:=∃vs:oj (Str×V),H d=some (.dK (inrK vs))/\vs.map (·.1)=ps.map (·.1)/\L2.IsL H (ps.map (·.2)) (vs.map (·.2))
noncomputable def fltP (qs:oj (Str×D))(z:Str):oj (Str×D):=qs.filter λp=>decide (p.1≠z)
theorem fltP_ok (h:PrOk qs)(z:Str):PrOk (fltP qs z):=by
 refine⟨⟨λy U=> ?_,?_⟩,λp O=>h.2 p (A9.mp O).1⟩
 ·obtain⟨p,O,rfl⟩:=A8.mp U;exact h.1.1 _ (A8.mpr ⟨p,(A9.mp O).1,1⟩)
 ·exact h.1.2.sublist (List.filter_sublist.map _)
theorem fltP_len (qs:oj (Str×D))(z:Str):(fltP qs z).length<=qs.length:=Um ..
noncomputable def fltV (vs:oj (Str×V))(z:Str):oj (Str×V):=vs.filter λp=>decide (p.1≠z)
theorem drop_inr (vs:oj (Str×V))(z:Str):Y5 (inrK vs) (Sum.inr z)=inrK (fltV vs z):=by
 unfold Y5 inrK fltV;rw [List.filter_map];refine congrArg (List.map _) (List.filter_congr λp _=> ?_);simp
theorem fltP_tbl {H:Hp}{z:Str}:∀{ps:oj (Str×D)}{vs:oj (Str×V)},vs.map (·.1)=ps.map (·.1)->L2.IsL H (ps.map (·.2)) (vs.map (·.2))->(fltV vs z).map (·.1)=(fltP ps z).map (·.1)/\L2.IsL H ((fltP ps z).map (·.2)) ((fltV vs z).map (·.2))
 | [],[],_,_=>⟨1,1⟩
 | [],_::_,e,_=>by simp at e
 |_::_,[],e,_=>by simp at e
 |p::ps,v::vs,e,h=>by
  simp only [uh,vm] at e;obtain⟨u,r,O,h1,h2⟩:=h;simp only [uh,vm] at O;obtain⟨rfl,rfl⟩:=O;obtain⟨U,Z⟩:=fltP_tbl (z:=z) e.2 h2;unfold fltV fltP at*;rw [vq,vq];by_cases c:p.1=z
  ·rw [A2 (by rw [e.1];simpa using c),A2 (by simpa using c)]
   exact⟨U,Z⟩
  ·rw [A3 (by rw [e.1];simpa using c),A3 (by simpa using c)]
   exact⟨by rw [uh,uh,U,e.1],⟨_,0,h1,Z⟩⟩
noncomputable def setP {β:Type}(ps:oj (Str×β))(z:Str)(e:β):oj (Str×β):=ps.map λp=>if p.1=z then(p.1,e) else p
noncomputable def putP {β:Type}(ps:oj (Str×β))(z:Str)(e:β):oj (Str×β):=if z∈ps.map (·.1) then setP ps z e else ps++ [(z,e)]
theorem put_inr (vs:oj (Str×V))(z:Str)(v:V):putK (inrK vs) (Sum.inr z) v=inrK (putP vs z v):=by
 unfold putP;by_cases c:z∈vs.map (·.1)
 ·rw [A3 c];unfold putK;rw [A3]
  ·unfold inrK setP;rw [uN,uN];refine U7 λp _=> ?_;by_cases h:p.1=z
   ·simp [h]
   ·simp [h]
  ·unfold inrK;rw [List.any_map,List.any_eq_true];obtain⟨p,O,e⟩:=A8.mp c;exact⟨p,O,by simp [e]⟩
 ·rw [A2 c,kg _ (look0 c)];unfold inrK;rw [uw]
  rfl
theorem set_tbl {H:Hp}{z:Str}{O:D}{u:V}(U:Is H O u):∀{ps:oj (Str×D)}{vs:oj (Str×V)},vs.map (·.1)=ps.map (·.1)->L2.IsL H (ps.map (·.2)) (vs.map (·.2))->(setP vs z u).map (·.1)=(setP ps z O).map (·.1)/\L2.IsL H ((setP ps z O).map (·.2)) ((setP vs z u).map (·.2))
 | [],[],_,_=>⟨1,1⟩
 | [],_::_,e,_=>by simp at e
 |_::_,[],e,_=>by simp at e
 |p::ps,v::vs,e,h=>by
  simp only [uh,vm] at e;obtain⟨u',r,Z,h1,h2⟩:=h;simp only [uh,vm] at Z;obtain⟨rfl,rfl⟩:=Z;obtain⟨i1,i2⟩:=set_tbl (z:=z) U e.2 h2;rw [show setP (p::ps) z O=(if p.1=z then(p.1,O) else p)::setP ps z O from rfl,show setP (v::vs) z u=(if v.1=z then(v.1,u) else v)::setP vs z u from rfl]
  by_cases c:p.1=z
  ·rw [A3 c,A3 (e.1.trans c)];refine⟨?_,⟨_,0,U,i2⟩⟩;rw [uh,uh,i1];exact congrArg (·::_) e.1
  ·rw [A2 c,A2 (λq=>c (e.1.symm.trans q))];refine⟨?_,⟨_,0,h1,i2⟩⟩;rw [uh,uh,i1];exact congrArg (·::_) e.1
variable {u:V}
theorem put_tbl (U:Is H e u){ps:oj (Str×D)}{vs:oj (Str×V)}(O:vs.map (·.1)=ps.map (·.1))(Z:L2.IsL H (ps.map (·.2)) (vs.map (·.2))):(putP vs z u).map (·.1)=(putP ps z e).map (·.1)/\L2.IsL H ((putP ps z e).map (·.2)) ((putP vs z u).map (·.2)):=by
 unfold putP;by_cases c:z∈ps.map (·.1)
 ·rw [A3 c,A3 (by rw [O];exact c)]
  exact set_tbl U O Z
 ·rw [A2 c,A2 (by rw [O];exact c)]
  refine⟨by rw [uw,uw,O];rfl,?_⟩
  rw [uw,uw];exact Z.append (L2.IsL.one U)
theorem TblAt.up {d:o3}{ps:oj (Str×D)}{vs ws:oj (Str×V)}(hd:H d=some (.dK (inrK vs)))(h1:ws.map (·.1)=ps.map (·.1))(h2:L2.IsL H (ps.map (·.2)) (ws.map (·.2))):TblAt (upd H d (.dK (inrK ws))) d ps:=
 ⟨ws,qg,h1,h2.mono (Tk.updD hd)⟩
theorem set_keys {β:Type}(z:Str)(e:β):∀ps:oj (Str×β),(setP ps z e).map (·.1)=ps.map (·.1)
 | []=>rfl
 |p::r=>by
  rw [show setP (p::r) z e=(if p.1=z then(p.1,e) else p)::setP r z e from rfl,uh,uh,set_keys z e r]
  split<;>rfl
theorem put_ok {ps:oj (Str×D)}{d:D}(h:PrOk ps)(hn:nm z=true)(hd:wX d):PrOk (putP ps z d)/\(putP ps z d).length<=ps.length+1:=by
 unfold putP;by_cases c:z∈ps.map (·.1)
 ·rw [A3 c];refine⟨⟨by rw [set_keys];exact h.1,λp O=> ?_⟩,by unfold setP;rw [ua];omega⟩
  obtain⟨p0,Z,rfl⟩:=A8.mp O;split
  ·exact hd
  ·exact h.2 p0 Z
 ·rw [A2 c];refine⟨⟨⟨λy U=> ?_,?_⟩,λp O=> ?_⟩,by rw [uA];exact ui _⟩
  ·rw [uw] at U;rcases A7.mp U with U|U
   ·exact h.1.1 y U
   ·cases A6.mp U;exact hn
  ·rw [uw,List.nodup_append];refine⟨h.1.2,by simp,λa ha b hb e=> ?_⟩
   cases A6.mp hb;rw [e] at ha;exact c ha
  ·rcases A7.mp O with O|O
   ·exact h.2 p O
   ·cases A6.mp O;exact hd
theorem items_at {vs:oj (Str×V)}{ts:oj o3}(h:XU H (inrK vs) ts):ts.length=vs.length/\∀(j:Nat) (t:o3) (p:Str×V),ts[j]? =some t->vs[j]? =some p->H t=some (.tup [.str p.1,p.2]):=by
 refine⟨by have:=h.1;unfold inrK at this;rwa [ua] at this,λj t p h1 h2=> ?_⟩
 have:=h.2 j t (Sum.inr p.1,p.2) h1 (by unfold inrK;rw [uH,h2];rfl)
 exact this
theorem items_pr {ps:oj (Str×D)}{vs:oj (Str×V)}{ts:oj o3}(h:XU H (inrK vs) ts)(O:vs.map (·.1)=ps.map (·.1))(U:L2.IsL H (ps.map (·.2)) (vs.map (·.2)))(Z:PrOk ps):L2.IsL H (ps.map prD) (ts.map V.ref):=by
 obtain⟨h1,h2⟩:=items_at h;exact prs_is O U h1 (λp hp=>by have:=wS (Z.1.1 p.1 (A8.mpr ⟨p,hp,1⟩));omega) h2
inductive WU (vs:List V) (H:Hp) (Q:VK) (E_:XK):Prop
 |mk (L p nl:Addr) (ps:List (Str×D)) (us:List V) (zs:List Str) (_:vs= [.ref L,.ref p,.ref nl]) (_:H L=some (.lst us)) (_:L2.IsL H (ps.map prD) us) (_:PrOk ps) (_:ps.length<=8) (_:PotQ H p) (_:H nl=some (.lst (zs.map V.str))) (_:Nm4 zs) (_:∀(t:Addr) (rs:List (Str×D)) (ws:List V) (H':Hp),Kept p H H'->PotQ H' p->H' t=some (.lst ws)->L2.IsL H' (rs.map prD) ws->PrOk rs->rs.length<=60->Q (.ref t) H')
theorem ok_changed (T:Tx K mg a):#[K,7,a.Xz,a.Xk,["pairs","pot","names"],WU]:=by
 have qH:=#[j7,T];have jS:=#[ok_srcd,T];refine T.g_law_changed.F.ok yV () (λ_ _ _ _ H vs Q E hr h=> ?_)
 obtain⟨L,p,nl,ps,us,zs,rfl,hL,au,hok,h8,hp,ao,hN,k⟩:=h;have hs:=uE;obtain⟨ts,vs,rfl,e1,e2,e3,e4⟩:=pairs_at au;have aM:vs.length=ps.length:=by
  have:=congrArg List.length e3
  rwa [ua,ua] at this
 exists _,%[#[qC,(3),yV.nd,#[qW,#[WP,1,rfl],T.z_dict,boot_dict,#v[pv 0]]],#[jL,#[y7,#v[#[qS,QL,qi,#[qt,qH,hr.mono (),T.g_law_take,#v[pv 1,qi]]]]],#[qX,(4),yV.nd],%[#[qC,(5),yV.nd,#[qN,Q4,pv 2,#[qt,qH,hr.mono (),T.g_law_take,#v[pv 1,#[qz,qQ,T.Yd,uJ,#v[pv 2]]]]]]|#[qI,#[qr,Qn,#[qt,qH,hr.mono (),T.g_law_take,#v[pv 1,qi]],qi,qy _],%[|#[qY,#[pe_dpop2,9,pv 3,pv 5,qU,⟨1,1,1,1⟩]]],%[|#[Jb,pv 3,pv 5,#[qt,jS,hr.mono (),T.g_law_source,#v[pv 1,pv 2]]]]]]]|#[qp,#[pe_lstItems,8,rfl,_,T.z_list,boot_list,pv 3,_,_,_,_,_,_]]]
 exists 7
 exists 8,N1,q1;refine⟨0,L,vs,1,⟨ts,hL,e1,e2⟩,(by rw [e3];exact hok.1.2),(),λO ae=>q1 _ _ ?_⟩
 have s0:=qf ae (.dK (inrK vs));have t0:TblAt (upd H O (.dK (inrK vs))) O ps:=⟨vs,qg,e3,e4.mono s0.tk⟩;generalize upd H O (.dK (inrK vs))=H0 at s0 t0⊢;have af:O≠p:=λz=>by obtain⟨x,hx,_⟩:=hp;rw [z,hx] at ae;cases ae
 have am:=hp.ne_strs ao;exists 8,N2,q2;refine⟨0,p,(2),1,hp.same s0,(),(),λj0 H1 a0 b0 P1 K1=>⟨_,0,1,0,(),(),?_⟩⟩
 let J_:Nat->L2.St->Hp->Prop:=λi σ H'=>∃(rs:oj (Str×D)) (v4 v5:om V),σ= [some (.ref L),some (.ref p),some (.ref nl),some (.ref O),v4,v5]/\Kept p H H'/\PotQ H' p/\TblAt H' O rs/\PrOk rs/\rs.length<=8+i
 have aw:Kept p H H1:=(Kept.of s0).trans K1;obtain⟨ax,ay,aA,aB⟩:=t0;have aC:=(hp.same s0).tk P1 K1;refine jV (lo:=0) J_ ⟨ps,none,none,1,aw,P1,⟨ax,K1 _ _ ay af,aA,aB.mono aC⟩,hok,()⟩ ?_ ?_
 ·rintro i σ H2 hi ⟨rs,v4,v5,rfl,K2,P2,⟨ws,hD,U,ag⟩,Z,lr⟩;have aN:i<2:=by omega
  have ah:=K2 _ _ ao am;have aD:ws.length=rs.length:=by
   have:=congrArg List.length U
   rwa [ua,ua] at this
  have aO:(inrK ws).length=rs.length:=by unfold inrK;rwa [ua]
  show tSeq _ _ _ _ H2;exists 8,B1,b1;refine⟨0,0,0,nl,0,.inl (SqL.of ah),p,0,P2,(by rw [ua];have:=hN.1;omega),(by rw [ua];have:=hN.2.1;omega),λj1 H3 a1 aE P3 K3=> ?_⟩
  obtain⟨x1,ap⟩:=Yk (xs:=zs.map V.str) (i:=j1) a1 aE;obtain⟨z1,aF,rfl⟩:=A8.mp (jl ap);have ak:=K3 _ _ ah am;refine⟨nl,_,_,0,1,SqL.of ak,ap,b1 _ _ ?_⟩;have aG:=(hN.2.2 z1 aF).1;refine⟨0,p,(4),1,P3,(),(),λj2 H4 a2 b2 P4 K4=> ?_⟩
  have ac:=K3.trans K4;have ad:H4 O=some (.dK (inrK ws)):=ac _ _ hD af;have aq:Tk H2 H4:=P2.tk P4 ac;have al:=ag.mono aq;have fin:∀(xs:oj (Str×V)) (aa:oj (Str×D)) (H5:Hp),Kept p H2 H5->PotQ H5 p->H5 O=some (.dK (inrK ws))->xs.map (·.1)=aa.map (·.1)->L2.IsL H5 (aa.map (·.2)) (xs.map (·.2))->PrOk aa->aa.length<=8+(i+1)->
    J_ (i+1) [some (.ref L),some (.ref p),some (.ref nl),some (.ref O),some (V.int (0+(i:Int))),some (.str z1)] (upd H5 O (.dK (inrK xs))):=λxs aa H5 k5 p5 h5 f1 f2 f3 f4=>
   ⟨aa,_,0,λb o e hb=>(by rw [qh (qk e ae)];exact k5 _ _ (K2 _ _ e hb) hb),(by obtain⟨x,hx,aH⟩:=p5;exact⟨x,by rwa [qh af.symm],aH⟩),TblAt.up h5 f1 f2,f3,f4⟩
  exists 1,0;by_cases c0:j2=0
  ·refine iteB (ue (by rw [c0])) ?_
   refine⟨0,O,1,.inl ⟨_,.inl ad⟩,0,inrK ws,Sum.inr z1,ad,1,λv hv=> ?_,λhv=> ?_⟩
   ·rw [drop_inr];obtain⟨f1,f2⟩:=fltP_tbl (z:=z1) U al;have:=fltP_len rs z1;exact fin _ _ H4 ac P4 ad f1 f2 (fltP_ok Z z1) ()
   ·exact⟨rs,_,0,K2.trans ac,P4,⟨ws,ad,U,al⟩,Z,()⟩
  ·refine iteN (ug (λz=>c0 (V.int.inj z))) ?_;refine⟨0,0,p,nl,zs,1,P4,K4 _ _ ak am,hN,λv6 e6 H6 aI i6 P6 K6=> ?_⟩;have h5:H6 O=some (.dK (inrK ws)):=K6 _ _ ad af;have aJ:=aq.trans (P4.tk P6 K6);obtain⟨f1,f2⟩:=put_tbl (z:=z1) i6 U (ag.mono aJ);obtain⟨o1,o2⟩:=put_ok Z aG aI;exists 0,0,O,0,DPut.k (k:=Sum.inr z1) h5 ()
   rw [put_inr];exact fin _ _ H6 (ac.trans K6) P6 h5 f1 f2 o1 ()
 ·rintro σ H2 ⟨rs,v4,v5,rfl,K2,P2,⟨ws,hD,U,ag⟩,Z,lr⟩;refine q2 _ _ ?_;refine⟨0,O,inrK ws,1,.inl hD,λt ts H3 s3 _ aK aL=> ?_⟩;exact k t rs _ H3 (K2.trans (Kept.of s3)) (P2.same s3) aK (items_pr aL U (ag.mono s3.tk) Z) Z ()
theorem jF {α:Type}(f:α->D){K:o0}{zs:oj α}{lo hi:om Int}(Z:Is H (.tup (zs.map f)) v)(q:∀u H' (zs':oj α),Same H H'->zs'.length<=zs.length->Is H' (.tup (zs'.map f)) u->Q u H'):rSlG K v lo hi H Q:=by
 obtain⟨p,vs,rfl,ep,U⟩:=Z;refine⟨p,vs,1,SqT.of ep,λh=>q _ _ zs (Same.refl _) (ui _) ⟨p,vs,1,ep,U⟩,λh l O=> ?_⟩;unfold cutV;refine q _ _ ((zs.drop (HT.sIx vs.length 0 lo)).take (HT.sIx vs.length vs.length hi-HT.sIx vs.length 0 lo)) (qf O _) (by rw [vP,vn];omega) ?_
 rw [List.map_take,List.map_drop];exact Is.new ((U.drop _).take _) O
theorem Y1 {α:Type}(f:α->D){K:o0}{zs ys:oj α}(O:Is H (.tup (zs.map f)) v)(U:Is H (.tup (ys.map f)) u)(Z:zs.length+ys.length<=1000)(k:∀p H',Same H H'->Is H' (.tup ((zs++ys).map f)) p->Q p H'):rCatG K v u H Q:=
 catG_is O U (by rwa [ua,ua]) λp H' s i=>k p H' s (by rw [uw];exact i)
noncomputable def spD (zs:oj Str)(ms:oj Int)(e:D):D:= .tup [.tup (zs.map D.str),.tup (ms.map D.int),e]
noncomputable def EdOk (e:D):Prop:=nD e=true/\dp e<=5
inductive sp_spoilt (vs:List V) (H:Hp) (Q:VK) (E_:XK):Prop
 |mk (p nl:Addr) (tv:V) (zs:List Str) (ms:List Int) (e:D) (xs:List Str) (_:vs= [tv,.ref p,.ref nl]) (_:Is H (spD zs ms e) tv) (_:zs.length<=100) (_:ms.length<=100) (_:EdOk e) (_:PotQ H p) (_:H nl=some (.lst (xs.map V.str))) (_:Nm4 xs) (_:∀(u:V) (zs':List Str) (ms':List Int) (e':D) (H':Hp),Kept p H H'->PotQ H' p->Is H' (spD zs' ms' e') u->EdOk e'->Q u H')
noncomputable def ASK3:oj Str:= ["has","names","thing"]
theorem ask3_len:∀z∈ASK3,z.length<=100:=by decide+kernel
theorem ok_spoilt (T:Tx K mg a):#[K,2,a.zJ,a.zR,["told","pot","names"],sp_spoilt]:=by
 have qH:=#[j7,T];exists 9,T.g_law_spoilt,QA
 obtain⟨p,nl,tv,zs,ms,e,xs,rfl,ht,aA,aB,he,hp,af,hN,k⟩:=h;have hs:=uE;have ag:=hp.ne_strs af;have one:(1:Nat)<=sizeLine:=by omega
 have two:(2:Nat)<=sizeLine:=by omega
 have O:(3:Nat)<=sizeLine:=by omega
 exists _,%[#[ps_asg,6,pv 0,#[pg_tup,6,rfl,yU #[qX,(3),QA.nd] (yU #[qX,(4),QA.nd] (yU #[qX,(5),QA.nd] W8)),_,_],_,_,_],#[qC,(6),QA.nd,#[qt,qH,hr.mono (),T.g_law_take,#v[pv 1,#[qS,QL,#[qz,qQ,T.Yd,uJ,#v[pv 3]],qi]]]],#[qC,(7),QA.nd,#[qN,Q4,pv 2,#[qt,qH,hr.mono (),T.g_law_take,#v[pv 1,#[qz,qQ,T.Yd,uJ,#v[pv 2]]]]]],#[qC,(8),QA.nd,#[qt,qH,hr.mono (),T.g_law_take,#v[pv 1,qi]]],#[qI,#[qr,Qn,pv 8,qi,qy _],%[|#[qp,#[qB,#v[#[qS,yi,#[qS,yi,#[Qk,Q3,pv 3,QV,#[Qo,pv 6]],#[qB,#v[pv 7]]],#[Qk,Q3,pv 3,#[Qo,pv 6],QV]],pv 4,pv 5]]]],qw],#[qI,#[qr,Qn,pv 8,qi,qy _],%[|#[qp,#[qB,#v[#[qS,yi,#[Qk,Q3,pv 3,QV,#[Qo,pv 6]],#[Qk,Q3,pv 3,#[Qo,#[qS,QL,pv 6,qi]],QV]],#[qS,yi,#[Qk,Q3,pv 4,QV,#[Qo,pv 6]],#[Qk,Q3,pv 4,#[Qo,#[qS,QL,pv 6,qi]],QV]],pv 5]]]],qw],#[qI,#[qr,Qn,pv 8,qi,qy _],%[|#[qp,#[qB,#v[pv 3,#[qS,yi,#[qS,yi,#[Qk,Q3,pv 4,QV,#[Qo,pv 6]],#[qB,#v[#[qt,qH,hr.mono (),T.g_law_take,#v[pv 1,qi]]]]],#[Qk,Q3,pv 4,#[Qo,#[qS,QL,pv 6,qi]],QV]],pv 5]]]],qw],#[qI,#[qr,Qn,pv 8,qi,qy _],%[|#[qp,#[qB,#v[#[Qk,Q3,pv 3,QV,#[Qo,#[pe_un,6,zO,qi]]],#[Qk,Q3,pv 4,QV,#[Qo,#[pe_un,6,zO,qi]]],pv 5]]]],qw],#[qI,#[qr,Qn,pv 8,qi,qy _],%[#[qC,(9),QA.nd,#[qB,#v[#[qN,Q4,#[QW,#v[ql,ql,ql]],#[qt,qH,hr.mono (),T.g_law_take,#v[pv 1,qi]]],pv 7]]]|#[qp,#[qB,#v[pv 3,pv 4,#[qB,#v[ql,pv 9]]]]]],qw],#[qI,#[qr,Qn,pv 8,qi,qy _],%[|#[qp,#[qB,#v[pv 3,pv 4,#[qB,#v[ql]]]]]],qw],#[qI,#[qr,Qn,pv 8,qi,qy _],%[|#[qp,#[qB,#v[#[qS,yi,pv 3,#[qB,#v[pv 7]]],#[qS,yi,pv 4,#[qB,#v[#[qt,qH,hr.mono (),T.g_law_take,#v[pv 1,qi]]]]],pv 5]]]],qw]|#[qp,#[qB,#v[#[qS,yi,#[qS,yi,#[Qk,Q3,pv 3,QV,#[Qo,pv 6]],#[qB,#v[pv 7]]],#[Qk,Q3,pv 3,#[Qo,#[qS,QL,pv 6,qi]],QV]],pv 4,pv 5]]]]
 exists 7
 obtain⟨pr,ur,rfl,er,w1,r1,rfl,j1,w2,r2,rfl,j2,w3,r3,rfl,j3,j4⟩:=ht;cases(show r3= [] from j4)
 exists 8,N1,q1;refine⟨0,pr,0,SqT.of er,1,_,0,_,0,_,0,1,q1 _ _ ?_⟩;exists 8,N2,q2;have j1:Is H (.tup (zs.map D.str)) w1:=j1;have j2:Is H (.tup (ms.map D.int)) w2:=j2;obtain⟨pa,us,rfl,au,iu⟩:=id j1;have aC:us.length=zs.length:=by rw [iu.length,ua]
 refine⟨0,0,pa,us,1,.inr (SqT.of au),_,0,1,p,(us.length:Int)+1,1,hp,(),(),λd1 H1 a0 a1 P1 K1=>q2 _ _ ?_⟩
 exists 8,N3,q3;have ac:=K1 _ _ af ag;refine⟨0,0,0,nl,0,.inl (SqL.of ac),p,0,P1,(by rw [ua];have:=hN.1;omega),(by rw [ua];have:=hN.2.1;omega),λd2 H2 b0 b1 P2 K2=> ?_⟩
 obtain⟨x1,ah⟩:=Yk (xs:=xs.map V.str) (i:=d2) b0 b1;obtain⟨z,hz,rfl⟩:=A8.mp (jl ah);have aD:=hN.2.2 z hz;refine⟨nl,_,_,0,1,SqL.of (K2 _ _ ac ag),ah,q3 _ _ ?_⟩;exists 8,N4,q4;refine⟨0,p,(8),1,P2,(),(),λkd H3 c0 Z P3 K3=>q4 _ _ ?_⟩
 have ak:=(K1.trans K2).trans K3;have ae:=hp.tk P3 ak;have m1:=j1.mono ae;have m2:=j2.mono ae;have m3:=j3.mono ae;have iz:∀{H':Hp},Is H' (.str z) (.str z):=YG ()
 have done:∀(zs':oj Str) (ms':oj Int) (e':D) (u1 u2 u3:V) (H5:Hp),Kept p H3 H5->PotQ H5 p->Is H5 (.tup (zs'.map D.str)) u1->Is H5 (.tup (ms'.map D.int)) u2->Is H5 e' u3->EdOk e'->∀l,H5 l=none->Q (.ref l) (upd H5 l (.tup [u1,u2,u3])):=λzs' ms' e' u1 u2 u3 H5 K5 P5 i1 i2 i3 aw l hl=>
  k _ zs' ms' e' _ (ak.trans (K5.trans (Kept.of (qf hl _)))) (P5.same (qf hl _)) (Is.new (ds:= [.tup (zs'.map D.str),.tup (ms'.map D.int),e']) ⟨_,0,i1,_,0,i2,_,0,i3,1⟩ hl) aw
 have aa:∀{H5:Hp}{l:o3},H5 l=none->Is (upd H5 l (.tup [V.str z])) (.tup ([z].map D.str)) (.ref l):=λhl=>Is.new (ds:= [.str z]) ⟨_,0,iz,1⟩ hl;have ad:∀{H5:Hp}{l:o3}{j:Int},H5 l=none->Is (upd H5 l (.tup [V.int j])) (.tup ([j].map D.int)) (.ref l):=λhl=>Is.new (ds:= [.int _]) ⟨_,0,1,1⟩ hl;exists 8,N5,q5;refine⟨0,1,0,ite2 (λZ=> ?_) (λZ=>q5 _ _ ?_)⟩
 ·exists 0,0,0;refine jF D.str m1 λu1 G1 z1 s1 l1 i1=>⟨0,one,λt2 h2=> ?_⟩;have s2:=qf h2 (.tup [V.str z]);refine Y1 D.str (i1.mono s2.tk) (aa h2) (by show _+1<=1000;omega) λu3 G3 s3 i3=>⟨0,0,0,?_⟩
  have S3:=(s1.trans s2).trans s3;unfold YW;refine jF D.str (m1.mono S3.tk) λu4 G4 z4 U l4 i4=> ?_;refine Y1 D.str (i3.mono U.tk) i4 (by rw [uA];show _+1+_<=1000;omega) λu5 G5 s5 i5=> ?_
  have S5:=(S3.trans U).trans s5;exact⟨0,0,O,done _ ms e u5 _ _ G5 (Kept.of S5) (P3.same S5) i5 (m2.mono S5.tk) (m3.mono S5.tk) he⟩
 exists 8,N6,q6;refine⟨0,1,0,ite2 (λZ=> ?_) (λZ=>q6 _ _ ?_)⟩
 ·exists 0,0,0;refine jF D.str m1 λu1 G1 z1 s1 l1 i1=>⟨0,0,_,0,1,0,?_⟩
  try unfold YW
  refine jF D.str (m1.mono s1.tk) λu2 G2 z2 s2 l2 i2=> ?_;refine Y1 D.str (i1.mono s2.tk) i2 () λu3 G3 s3 i3=>⟨0,0,0,?_⟩
  have S3:=(s1.trans s2).trans s3;refine jF D.int (m2.mono S3.tk) λu4 G4 z4 U l4 i4=>⟨0,0,_,0,1,0,?_⟩
  try unfold YW
  refine jF D.int (m2.mono (S3.trans U).tk) λu5 G5 z5 s5 l5 i5=> ?_;refine Y1 D.int (i4.mono s5.tk) i5 () λu6 G6 s6 i6=> ?_
  have al:=(U.trans s5).trans s6;have S6:=S3.trans al;exact⟨0,O,done _ _ e u3 u6 _ G6 (Kept.of S6) (P3.same S6) (i3.mono al.tk) i6 (m3.mono S6.tk) he⟩
 exists 8,N7,q7;refine⟨0,1,0,ite2 (λZ=> ?_) (λZ=>q7 _ _ ?_)⟩
 ·exists 0,0,0,0;refine jF D.int m2 λu1 G1 z1 s1 l1 i1=>⟨0,p,(4),1,P3.same s1,(),(),λj G2 _ _ P4 K4=>⟨one,λt2 h2=> ?_⟩⟩
  have t4:=(P3.same s1).tk P4 K4;have s2:=qf h2 (.tup [V.int j]);refine Y1 D.int ((i1.mono t4).mono s2.tk) (ad h2) (by show _+1<=1000;omega) λu3 G3 s3 i3=>⟨0,0,_,0,1,0,?_⟩
  have am:=s2.trans s3;have t3:=(s1.tk.trans t4).trans am.tk
  try unfold YW
  refine jF D.int (m2.mono t3) λu4 G4 z4 U l4 i4=> ?_;refine Y1 D.int (i3.mono U.tk) i4 (by rw [uA];show _+1+_<=1000;omega) λu5 G5 s5 i5=> ?_
  have ao:=(am.trans U).trans s5;have t5:=(t3.trans U.tk).trans s5.tk;exact⟨0,O,done zs _ e _ u5 _ G5 ((Kept.of s1).trans (K4.trans (Kept.of ao))) (P4.same ao) (m1.mono t5) i5 (m3.mono t5) he⟩
 exists 8,N8,q8;refine⟨0,1,0,ite2 (λZ=> ?_) (λZ=>q8 _ _ ?_)⟩
 ·exists 0,0,0;refine jF D.str m1 λu1 G1 z1 s1 l1 i1=>⟨0,0,0,?_⟩;refine jF D.int (m2.mono s1.tk) λu2 G2 z2 s2 l2 i2=> ?_;have S2:=s1.trans s2;exact⟨0,O,done _ _ e u1 u2 _ G2 (Kept.of S2) (P3.same S2) (i1.mono s2.tk) i2 (m3.mono S2.tk) he⟩
 exists 8,N9,q9;refine⟨0,1,0,ite2 (λZ=> ?_) (λZ=>q9 _ _ ?_)⟩
 ·refine⟨O,λt1 h1=> ?_⟩;have s1:=qf h1 (.lst [V.str "has",V.str "names",V.str "thing"]);have e1:upd H3 t1 (.lst [V.str "has",V.str "names",V.str "thing"]) t1=some (.lst (ASK3.map V.str)):=qg;generalize upd H3 t1 (.lst [V.str "has",V.str "names",V.str "thing"])=G1 at s1 e1⊢;have P4:=P3.same s1;refine⟨0,p,(3),1,P4,(),(),λj G2 f0 f1 P5 K5=> ?_⟩
  have n1:=P4.ne_strs e1;obtain⟨x2,ap⟩:=Yk (xs:=ASK3.map V.str) (i:=j) f0 (by show j<3;exact f1)
  obtain⟨y,hy,rfl⟩:=A8.mp (jl ap);have aE:=ask3_len y hy;refine⟨t1,_,_,0,1,SqL.of (K5 _ _ e1 n1),ap,0,two,λt3 h3=> ?_⟩;have s3:=qf h3 (.tup [V.str y,V.str z]);have t5:=(s1.tk.trans (P4.tk P5 K5)).trans s3.tk;refine⟨0,0,0,two,λt4 h4=>⟨O,?_⟩⟩;have U:=qf h4 (.tup [V.str "ask",V.ref t3]);have t6:=t5.trans U.tk;refine done zs ms (.tup [.str "ask",.tup [.str y,.str z]]) _ _ _ _ ((Kept.of s1).trans (K5.trans (Kept.of (s3.trans U)))) (P5.same (s3.trans U)) (m1.mono t6) (m2.mono t6) (Is.new (ds:= [.str "ask",.tup [.str y,.str z]]) ⟨_,0,YG (),_,0,Is.new (ds:= [.str y,.str z]) ⟨_,0,YG (),_,0,iz,1⟩ h3,1⟩ h4) ⟨1,by simp [dp,dpL]⟩
 exists 8,aF,ax;refine⟨0,1,0,ite2 (λZ=> ?_) (λZ=>ax _ _ ?_)⟩
 ·refine⟨0,0,one,λt1 h1=>⟨O,?_⟩⟩;have s1:=qf h1 (.tup [V.str "source"]);exact done zs ms (.tup [.str "source"]) _ _ _ _ (Kept.of s1) (P3.same s1) (m1.mono s1.tk) (m2.mono s1.tk) (Is.new (ds:= [.str "source"]) ⟨_,0,YG (),1⟩ h1) ⟨1,by simp [dp,dpL]⟩
 exists 8,aG,ay;refine⟨0,1,0,ite2 (λZ=> ?_) (λZ=>ay _ _ ?_)⟩
 ·refine⟨0,0,one,λt1 h1=> ?_⟩;have s1:=qf h1 (.tup [V.str z]);refine Y1 D.str (m1.mono s1.tk) (aa h1) (by show _+1<=1000;omega) λu2 G2 s2 i2=> ?_
  have S2:=s1.trans s2;refine⟨0,0,p,(3),1,P3.same S2,(),(),λj G3 _ _ P4 K4=>⟨one,λt4 h4=> ?_⟩⟩
  have U:=qf h4 (.tup [V.int j]);have aq:=(P3.same S2).tk P4 K4;have t4:=(S2.tk.trans aq).trans U.tk;refine Y1 D.int (m2.mono t4) (ad h4) (by show _+1<=1000;omega) λu5 G5 s5 i5=> ?_
  have t5:=t4.trans s5.tk;exact⟨0,O,done _ _ e u2 u5 _ G5 ((Kept.of S2).trans (K4.trans (Kept.of (U.trans s5)))) (P4.same (U.trans s5)) (((i2.mono aq).mono U.tk).mono s5.tk) i5 (m3.mono t5) he⟩
 ·exists 0,0,0;refine jF D.str m1 λu1 G1 z1 s1 l1 i1=>⟨0,one,λt2 h2=> ?_⟩;have s2:=qf h2 (.tup [V.str z]);refine Y1 D.str (i1.mono s2.tk) (aa h2) (by show _+1<=1000;omega) λu3 G3 s3 i3=>⟨0,0,_,0,1,0,?_⟩
  have S3:=(s1.trans s2).trans s3
  try unfold YW
  refine jF D.str (m1.mono S3.tk) λu4 G4 z4 U l4 i4=> ?_;refine Y1 D.str (i3.mono U.tk) i4 (by rw [uA];show _+1+_<=1000;omega) λu5 G5 s5 i5=> ?_
  have S5:=(S3.trans U).trans s5;exact⟨0,0,O,done _ ms e u5 _ _ G5 (Kept.of S5) (P3.same S5) i5 (m2.mono S5.tk) (m3.mono S5.tk) he⟩
variable {x:Str}{st:Stmt}
theorem bo5 {q:Str}{a b c d e:Str}(h:∀(kV doc pm:o6) (an:om o3) (cdv ct u v w z y:o6),bindArgs (PySem.W.fnOf x q (Yb st) (yz st) (qj st) .none kV doc pm an cdv ct) ⟨[u,v,w,z,y],[]⟩=pure [(a,u),(b,v),(c,w),(d,z),(e,y)]):BOk x q st [a,b,c,d,e]:=by
 intro k1 k2 k3 U k5 Z us O;rcases us with _|⟨u,_|⟨v,_|⟨w,_|⟨z,_|⟨y,_|⟨_,_⟩⟩⟩⟩⟩⟩
 ·cases O
 ·cases O
 ·cases O
 ·cases O
 ·cases O
 ·exact h k1 k2 k3 U k5 Z u v w z y
 ·cases O
noncomputable def DueIs (qs qs':oj (Str×D))(n:Str)(dd:D):Prop:=(FP qs n=FP qs' n/\dd= .non)∨(FP qs n≠FP qs' n/\∃ws ps e,Rsn qs qs' n ws ps e/\ws.length<=60/\ps.length<=60/\dd=rsnD n ws ps e)
theorem DueIs.nu {n:Str}{dd:D}(h:DueIs qs qs' n dd):nuD dd/\dp dd<=60:=by
 rcases h with⟨_,rfl⟩|⟨_,ws,ps,e,O,_,_,rfl⟩
 ·exact⟨.inl rfl,by simp [dp]⟩
 ·exact rsnD_nu O
theorem rsn_sp (n:Str)(ws:oj Str)(ps:oj Nat)(e:D):rsnD n ws ps e=spD (n::ws) (ps.map λp:Nat=>(p:Int)) e:=by
 unfold rsnD spD;rw [uN]
 rfl
theorem nuD_n {d:D}(h:nuD d):nD d=true:=by
 rcases h with rfl|⟨xs,rfl,h⟩
 ·rfl
 ·exact h
theorem eqN_sy {d:D}(h1:nuD d)(h2:nuD e):eqN d e=eqN e d:=by
 rw [vj,xO (nuD_n h1),xO (nuD_n h2)];exact eq_comm
variable {zs:oj Str}
theorem spD_nu {ms:oj Int}(h:EdOk e):nuD (spD zs ms e)/\dp (spD zs ms e)<=60:=by
 obtain⟨h3,h4⟩:=nL_strs zs;have O:∀ps:oj Int,nL (ps.map D.int)=true/\dpL (ps.map D.int)<=1:=by
  intro ps
  induction ps with
  |nil=>exact⟨1,by simp [dpL]⟩
  |cons z r U=>exact⟨by simp only [uh,nL,nD,U.1,Us],by simp only [uh,dpL,dp];omega⟩
 obtain⟨h5,h6⟩:=O ms;have h1:=h.1;have h2:=h.2;refine⟨.inr ⟨0,?_⟩,?_⟩
 ·simp only [nL,nD,h1,h3,h5,Us]
 ·unfold spD;simp only [dp,dpL];omega
theorem due_holds {n:Str}{dd td:D}{px px':o3}{tv:V}{E:XK}(hd:DueIs qs qs' n dd)(hn:nm n=true)(hP:QX CP H px qs)(hq:Qw qs)(O:QX CP H px' qs')(U:Qw qs')(ht:Is H td tv)(Z:nuD td)(k:∀H',Same H H'->Q (.bl (eqN dd td)) H'):W9 CP [.ref px,.ref px',.str n,tv] H Q E:=by
 refine⟨px,px',n,qs,qs',tv,td,1,hn,hP,hq,O,U,ht,Z,λe H' s=> ?_,λe H' ws ps ee s hR=> ?_⟩
 ·rcases hd with⟨_,rfl⟩|⟨h,_⟩
  ·exact k H' s
  ·exact absurd e h
 ·rcases hd with⟨h,_⟩|⟨_,ac,ad,e',aa,_,_,rfl⟩
  ·exact absurd h e
  ·obtain⟨rfl,rfl,rfl⟩:=hR.one aa;exact k H' s
theorem kit_bb {K:o0}:PySem.W.kitOne K (.type "bool") (.type "bool")=some true:=kW ()
inductive sp_right (CP:Addr) (vs:List V) (H:Hp) (Q:VK) (E_:XK):Prop
 |mk (px px' p nl:Addr) (n:Str) (qs qs':List (Str×D)) (xs:List Str) (_:vs= [.ref px,.ref px',.str n,.ref p,.ref nl]) (_:nm n=true) (_:QX CP H px qs) (_:Qw qs) (_:QX CP H px' qs') (_:Qw qs') (_:PotQ H p) (_:H nl=some (.lst (xs.map V.str))) (_:Nm4 xs) (_:∀H',Kept p H H'->PotQ H' p->Q (.bl true) H')
inductive sp_law (K:PySem.W.Frag) (vs:List V) (H:Hp) (Q:VK) (E_:XK):Prop
 |mk (a:Addr) (ns:List Int) (_:vs= [.ref a]) (_:SqL K H a (ns.map V.int)) (_:ns.length<=63) (_:∀H',Q (.bl true) H')
variable {C p:o3}
theorem QX.pot {x:o3}(h:QX C H x qs)(U:PotQ H p)(O:PotQ H' p)(k:Kept p H H'):QX C H' x qs:=by
 have tk:=U.tk O k;obtain⟨y,Z,_⟩:=U;obtain⟨dx,d,o,vs,h1,h2,h3,h4⟩:=h;exact⟨dx,d,o,vs,k _ _ h1 (λz=>by rw [z,Z] at h1;cases h1),k _ _ h2 (λz=>by rw [z,Z] at h2;cases h2),h3,h4.mono tk⟩
theorem ok_right (T:Tx K mg a)(C:Fx K w mg g a):#[K,18,a.wM,a.wz,["project","other","name","pot","names"],(sp_right a.qD)]:=by
 have WZ:=#[ok_reason,T,C];have U:=#[ok_stands,T,C];have JY:=#[ok_holds,T,C];have O:=#[ok_spoilt,T];refine T.g_law_right.F.ok Q1 () (λ_ _ _ _ H vs Q E hr h=> ?_)
 obtain⟨px,px',p,nl,n,qs,qs',xs,rfl,hn,hP,hq,af,ac,hp,ak,hN,k⟩:=h;have hs:=uE;have au:=hp.ne_strs ak;have aw:=wS hn;exists _,%[#[qC,(5),Q1.nd,#[qt,WZ,hr.mono (),T.g_reason,#v[pv 0,pv 1,pv 2]]],#[qI,#[qr,op_ne,#[QZ,yX,pv 5,qU,qy _],#[QZ,#[op_eqN,1,hr.units],#[qt,U,hr.mono (),T.g_stands,#v[pv 0,pv 2]],#[qt,U,hr.mono (),T.g_stands,#v[pv 1,pv 2]],qy _],qy _],%[|#[qp,jN]],qw],#[qC,(6),Q1.nd,pv 5],#[qI,#[qr,yX,pv 5,qU,qy _],%[|#[qC,(6),Q1.nd,#[qB,#v[#[qB,#v[pv 2]],#[qB,qd],#[qB,#v[ql]]]]]],qw],#[qI,#[qr,op_ne,#[qt,JY,hr.mono (),T.g_reason_holds,#v[pv 0,pv 1,pv 2,pv 6]],#[QZ,ZP,pv 5,qU,qy _],qy _],%[|#[qp,jN]],qw],#[jL,#[y7,#v[qi]],#[qX,(7),Q1.nd],%[#[qC,(8),Q1.nd,#[qt,O,hr.mono (),T.g_law_spoilt,#v[pv 6,pv 3,pv 4]]],#[qC,(9),Q1.nd,#[qt,JY,hr.mono (),T.g_reason_holds,#v[pv 0,pv 1,pv 2,pv 8]]]|@qI _ _ _ _ _ _ _ _ #[ZK,#[Qx,#[Qj,#[qz,#[qT,2,rfl],T.qP,uU,#v[pv 9,#[Q0,.ty "bool",T.z_bool,boot_bool]]]]],#[xY,#[qr,op_ne,pv 9,#[pe_and,#[QZ,ZP,pv 5,qU,qy _],#[Wr,#[QZ,op_eqB hr.units,pv 8,pv 5,qy _]]],qy _]]].pt %[|#[qp,jN]] qw]]|#[qp,jN]]
 exists 7
 classical
 exists 8,N1,q1;have al:∀(Z:V) (dd:D) (H1:Hp),Same H H1->DueIs qs qs' n dd->Is H1 dd Z->N1 [some (.ref px),some (.ref px'),some (.str n),some (.ref p),some (.ref nl),some Z,none,none,none,none] H1:=by
  intro Z dd H1 s1 hD iD;refine q1 _ _ ?_;obtain⟨nu,aL⟩:=hD.nu;have aa:decide (Z=V.non)=decide (FP qs n=FP qs' n):=by
   rcases hD with⟨h,rfl⟩|⟨h,ws,ps,e,_,_,_,rfl⟩
   ·cases(show Z= .non from iD)
    rw [ue rfl,ue h]
   ·obtain⟨t,vs,rfl,_⟩:=iD;rw [ug (λz=>by cases z),ug h]
  exists 8,N2,q2;refine⟨0,1,0,0,px,n,qs,1,hn,hP.same s1,hq,λv2 H2 s2 i2=> ?_⟩;refine⟨0,0,px',n,qs',1,hn,af.same (s1.trans s2),ac,λv3 H3 s3 i3=> ?_⟩;obtain⟨c1,c2⟩:=std_nd hq n;obtain⟨c3,c4⟩:=std_nd ac n;rw [zl] at i2 i3;exists _,_,i2.mono s3.tk,i3,c1,c3,(),1,0
  have am:eqNL (stdL (FP qs n)) (stdL (FP qs' n))=decide (FP qs n=FP qs' n):=by
   rw [vj,eqNL_iff c1,v9];constructor
   ·intro h;exact std_one (by rw [zl,zl,h])
   ·intro h;rw [h]
  refine iteN (by rw [aa,am];simp) (q2 _ _ ?_)
  have ao:=s2.trans s3;have ag:=iD.mono ao.tk;exists 8,N3,q3;refine⟨0,q3 _ _ ?_⟩;exists 8,N4,q4;have ad:∀(mv:V) (zs:oj Str) (ms:oj Int) (e:D) (H4:Hp),Same H3 H4->Is H4 (spD zs ms e) mv->EdOk e->zs.length<=100->ms.length<=100->(eqN dd (spD zs ms e)=decide (FP qs n≠FP qs' n))->N4 [some (.ref px),some (.ref px'),some (.str n),some (.ref p),some (.ref nl),some Z,some mv,none,none,none] H4:=by
   intro mv zs ms e H4 s4 iM he ax ay aA;refine q4 _ _ ?_;have S4:=(s1.trans ao).trans s4;have ap:=hP.same S4;have ae:=af.same S4;have P4:=hp.same S4;have aB:=ag.mono s4.tk;obtain⟨aC,aM⟩:=spD_nu (zs:=zs) (ms:=ms) he;exists 8,N5,q5;exists 0,0,0,0;unfold tNil;refine due_holds hD hn ap hq ae ac iM aC λH5 s5=> ?_;have aD:(!decide (Z=V.non))=decide (FP qs n≠FP qs' n):=by rw [aa];simp
   exists 0,1,1,0;refine iteN (by rw [aA];show(!decide (V.bl _=V.bl (!decide (Z=V.non))))=false;rw [aD];simp) (q5 _ _ ?_)
   exists 8,N6,q6;have aE:=s5 _ _ (S4 _ _ ak);have P5:=P4.same s5;exists 0,(),()
   let J_:Nat->L2.St->Hp->Prop:=λi σ H'=>(∃u7 u8 u9,σ= [some (.ref px),some (.ref px'),some (.str n),some (.ref p),some (.ref nl),some Z,some mv,u7,u8,u9])/\Kept p H5 H'/\PotQ H' p
   refine jV (lo:=0) J_ ⟨⟨_,_,0⟩,Kept.refl _ _,P5⟩ ?_ ?_
   ·rintro i σ H6 hi ⟨⟨u7,u8,u9,rfl⟩,K6,P6⟩;have t6:=P5.tk P6 K6;show tSeq _ _ _ _ H6;exists 8,B1,b1;refine⟨0,0,0,p,nl,mv,zs,ms,e,xs,1,(iM.mono s5.tk).mono t6,ax,ay,he,P6,K6 _ _ aE au,hN,λtv zs' ms' e' H7 K7 P7 iT aF=>b1 _ _ ?_⟩;exists 8,B2,b2;obtain⟨ah,aG⟩:=spD_nu (zs:=zs') (ms:=ms') aF;have kA:=K6.trans K7;have aH:=(ap.same s5).pot P5 P7 kA;have aq:=(ae.same s5).pot P5 P7 kA;exists 0,0,0,0;unfold tNil;refine due_holds hD hn aH hq aq ac iT ah λH8 s8=>b2 _ _ ?_;have aI:=((s5.tk.trans t6).trans (P6.tk P7 K7)).trans s8.tk;have aJ:=aB.mono aI;have fin:J_ (i+1) [some (.ref px),some (.ref px'),some (.str n),some (.ref p),some (.ref nl),some Z,some mv,some (.int (0+(i:Int))),some tv,some (.bl (eqN dd (spD zs' ms' e')))] H8:=⟨⟨_,_,0⟩,kA.trans (Kept.of s8),P7.same s8⟩;refine⟨0,_,"bool",_,true,1,.bl _,kit_bb,0,iteF ?_⟩;exists 0,0,1,0;by_cases hF:FP qs n=FP qs' n
    ·refine iteN (by rw [aa,ue hF];rfl) ?_
     refine⟨1,0,iteN ?_ fin⟩;have e0:eqN dd (spD zs' ms' e')=false:=by
      rcases hD with⟨_,rfl⟩|⟨h,_⟩
      ·rfl
      ·exact absurd hF h
     rw [e0]
     rfl
    ·refine iteB (by rw [aa,ug hF];rfl) ?_
     refine⟨0,0,_,_,iT.mono s8.tk,aJ,ah,nu,aG,1,0,iteN ?_ fin⟩;rw [eqN_sy ah nu];simp
   ·rintro σ H6 ⟨⟨u7,u8,u9,rfl⟩,K6,P6⟩;refine q6 _ _ ?_;exact k H6 ((Kept.of (S4.trans s5)).trans K6) P6
  exists 0,1,0;rcases hD with⟨hF,rfl⟩|⟨hF,ws,ps,e,hR,l1,l2,rfl⟩
  ·cases(show Z= .non from iD)
   refine iteB (ue rfl) ?_;refine⟨0,(sml rfl),λt1 h1=>⟨v7 _,λt2 h2=>⟨(sml rfl),λt3 h3=>⟨(sml rfl),λt4 h4=> ?_⟩⟩⟩⟩;have m1:=qf h1 (.tup [V.str n]);have m2:=qf h2 (.tup ([]:oj V));have m3:=qf h3 (.tup [V.str "source"]);have m4:=qf h4 (.tup [V.ref t1,V.ref t2,V.ref t3]);refine ad _ [n] [] (.tup [.str "source"]) _ (((m1.trans m2).trans m3).trans m4) ?_ ⟨1,by simp [dp,dpL]⟩ (by show 1<=100;omega) (v7 _) (by rw [ug (λz=>z hF)];rfl)
   exact Is.new (ds:= [.tup [.str n],.tup [],.tup [.str "source"]]) ⟨_,0,(Is.new (ds:= [.str n]) ⟨_,0,YG (),1⟩ h1).mono (m2.trans m3).tk,_,0,(Is.new (ds:= []) rfl h2).mono m3.tk,_,0,Is.new (ds:= [.str "source"]) ⟨_,0,YG (),1⟩ h3,1⟩ h4
  ·have aK:Z≠ .non:=λz=>by
    rw [ue z,ug hF] at aa;cases aa
   refine iteN (ug aK) ?_;rw [rsn_sp] at ag;refine ad Z (n::ws) _ e H3 (Same.refl _) ag (rsn_nd hR) (by rw [um];omega) (by rw [ua];omega) ?_
   rw [<-rsn_sp,ue hF];exact(xO (nuD_n nu)).mpr rfl
 refine⟨0,0,0,px,px',n,qs,qs',1,hn,hP,hq,af,ac,λe H1 s1=>al .non .non H1 s1 (.inl ⟨e,1⟩) rfl,λe v H1 ws ps ee s1 hR l1 l2 hv=>al v _ H1 s1 (.inr ⟨e,ws,ps,ee,hR,l1,l2,1⟩) hv⟩
theorem ok_law (T:Tx K mg a)(C:Fx K w mg g a):#[K,19,a.f_law,a.d_law,["script"],(sp_law K)]:=by
 have jh:=#[ok_cell,T];have ZA:=#[ok_potQ,T];have kz:=#[ok_lsrcs,T];have J8:=#[ok_init,T];have kO:=#[ok_changed,T];have O:=#[ok_right,T,C];exists 9,T.g_law,zS,Z
 obtain⟨q,ns,rfl,hq,aX,k⟩:=h;have hs:=uE;exists _,%[#[qC,(1),zS.nd,#[Qk,sl_list,#[QW,#v[ql,ql,ql,ql,ql,ql,ql,ql]],QV,#[Qo,#[qS,QL,qi,#[qS,Zb,#[qt,jh,Z.mono (),T.g_law_cell_at,#v[pv 0,qi]],qi]]]]],#[qC,(2),zS.nd,#[qt,kz,Z.mono (),T.g_law_sources,#v[pv 0]]],#[qC,(3),zS.nd,#[Z9,T.M_Project,J8,Z.mono (),T.m_Project,T.g_Project_init,qA,#v[#[qW,qR,T.QD,vg,#v[pv 2]]]]],#[qC,(4),zS.nd,#[qt,ZA,Z.mono (),T.g_law_pot,#v[#[qS,QL,#[qz,#[call_sumL,1,rfl],T.z_sum,boot_sum,#v[pv 0]],qi],qi]]],#[jL,#[y7,#v[qi]],#[qX,(5),zS.nd],%[#[qC,(6),zS.nd,#[Z9,T.M_Project,J8,Z.mono (),T.m_Project,T.g_Project_init,qA,#v[#[qW,qR,T.QD,vg,#v[#[qt,kO,Z.mono (),T.g_law_changed,#v[pv 2,pv 4,pv 1]]]]]]]|#[jL,#[pi_list,4,#[pe_stepL,10,(),pv 1,#[Qo,#[qS,Zb,pv 5,qi]],_]],#[qX,(7),zS.nd],%[|#[qI,#[Qx,#[Qj,#[qt,O,Z.mono (),T.g_law_right,#v[pv 3,pv 6,pv 7,pv 4,pv 1]]]],%[|#[qp,jN]],qw]]]]]|#[qp,jN]]
 exists 7
 exists 8,N1,q1;refine⟨sml rfl,λl0 ay=> ?_⟩;have s0:=qf ay (.lst (N8.map V.str));have e0:(upd H l0 (.lst (N8.map V.str))) l0=some (.lst (N8.map V.str)):=qg;show YW _ (upd H l0 (.lst (N8.map V.str))) _;generalize upd H l0 (.lst (N8.map V.str))=H0 at s0 e0⊢;refine⟨0,q,ns,(0),1,(),(sq_sm hq s0),λc=>⟨_,0,1,(by show(0:Int)<8;decide),_,0,1,?_⟩⟩
 have m1:0<=c%8/\c%8<8:=⟨UK _ (),Uh _ ()⟩
 obtain⟨n,hn,aA,aB⟩:∃n:Nat,1+c%8=(n:Int)/\1<=n/\n<=8:=⟨(1+c%8).toNat,(),(),()⟩
 obtain⟨hN,aC⟩:=n8_take aA aB;dsimp only;rw [hn];refine⟨0,l0,0,SqL.of e0,λl hl=> ?_⟩;rw [cut_take,<-List.map_take];generalize N8.take n=zs at hN aC⊢;have s1:=s0.trans (qf hl (.lst (zs.map V.str)));have e1:(upd H0 l (.lst (zs.map V.str))) l=some (.lst (zs.map V.str)):=qg;generalize upd H0 l (.lst (zs.map V.str))=H1 at s1 e1⊢;refine q1 _ _ ?_;exists 8,N2,q2;refine⟨0,q,ns,1,sq_sm hq s1,λL ps us H2 _ s2 hL af hok aD=>q2 _ _ ?_⟩;exists 8,N3,q3;refine⟨0,L,us,1,.inl ⟨SqL.of hL,λt ht=> ?_⟩⟩;have m1:=qf ht (.tup us);intro x dx nx aE aY;have m2:Same (upd H2 t (.tup us)) (upd (upd (upd H2 t (.tup us)) dx (.own x)) x (.ins a.qD dx [])):=λb ob e=>by
  rwa [qh (qk e nx),qh (qk e aE)]
 have ag:=m1.trans m2;refine⟨x,dx,t,ps,us,1,qg,m2 _ _ qg,af.mono ag.tk,hok,(),λqs H3 keep hP hT aF=>⟨1,q3 _ _ ?_⟩⟩
 exists 8,N4,q4;have s3:Same H2 H3:=λb ob e=>keep b ob (ag _ _ e) (qk (m1 _ _ e) nx);have aG:=(s1.trans s2).trans s3;refine⟨0,q,ns,1,sq_sm hq aG,_,0,1,_,0,(),(),λp H4 ah s4 P4=>q4 _ _ ?_⟩
 exists 8,N5,q5;have aH:=s4 _ _ (s3 _ _ hL);have ak:=(af.mono s3.tk).mono s4.tk;have al:=s4 _ _ (s3 _ _ (s2 _ _ e1));have aI:=hP.same s4;have aJ:L≠p:=qk (s3 _ _ hL) ah;have aa:l≠p:=qk (s3 _ _ (s2 _ _ e1)) ah;exists 0,(),()
 let J_:Nat->L2.St->Hp->Prop:=λi σ H'=>(∃u5 u6 u7,σ= [some (.ref q),some (.ref l),some (.ref L),some (.ref x),some (.ref p),u5,u6,u7])/\Kept p H4 H'/\PotQ H' p
 refine jV (lo:=0) J_ ⟨⟨_,_,0⟩,Kept.refl _ _,P4⟩ ?_ ?_
 ·rintro i σ H5 hi ⟨⟨u5,u6,u7,rfl⟩,K5,P5⟩;have t5:=P4.tk P5 K5;show tSeq _ _ _ _ H5;exists 8,B1,b1;refine⟨0,0,0,L,p,l,ps,us,zs,1,K5 _ _ aH aJ,ak.mono t5,hok,aD,P5,K5 _ _ al aa,hN,λt6 rs ws H6 K6 P6 aK aL am aM=> ?_⟩;refine⟨t6,ws,1,.inl ⟨SqL.of aK,λt7 aN=> ?_⟩⟩;have m3:=qf aN (.tup ws);intro x2 ac ao ap aW;have m4:Same (upd H6 t7 (.tup ws)) (upd (upd (upd H6 t7 (.tup ws)) ac (.own x2)) x2 (.ins a.qD ac [])):=λb ob e=>by
   rwa [qh (qk e ao),qh (qk e ap)]
  have aq:=m3.trans m4;refine⟨x2,ac,t7,rs,ws,1,qg,m4 _ _ qg,aL.mono aq.tk,am,aM,λaO H7 ad aP aQ _=>⟨1,b1 _ _ ?_⟩⟩;have s7:Same H6 H7:=λb ob e=>ad b ob (aq _ _ e) (qk (m3 _ _ e) ao);have P7:=P6.same s7;have kA:=K6.trans (Kept.of s7);have kB:=K5.trans kA;have au:=kB _ _ al aa;have aR:=aI.pot P4 P7 kB;refine⟨0,0,_,0,1,(by show(0:Int)<2;decide),0,l,0,SqL.of au,λys y0 aZ aw U=> ?_⟩
  have s8:=qf U (.lst ys);have ae:upd H7 y0 (.lst ys) y0=some (.lst ys):=qg;generalize upd H7 y0 (.lst ys)=H8 at s8 ae⊢;exists y0,1,⟨_,SqL.of ae⟩;have P8:=P7.same s8;have ny:y0≠p:=λz=>by rw [z] at U;obtain⟨u,hu,_⟩:=P7;rw [hu] at U;cases U
  have aS:=s8 _ _ au;have aT:=aR.same s8;have ax:=aP.same s8
  let J2_:Nat->L2.St->Hp->Prop:=λj σ H'=>(∃u7,σ= [some (.ref q),some (.ref l),some (.ref L),some (.ref x),some (.ref p),some (.int (0+(i:Int))),some (.ref x2),u7])/\Kept p H8 H'/\PotQ H' p
  refine for_list (xs:=ys) J2_ ⟨⟨0⟩,Kept.refl _ _,P8⟩ (λj σ H' _ h=>SqL.of (h.2.1 _ _ ae ny)) ?_ ?_
  ·rintro j y σ H9 hy ⟨⟨u7,rfl⟩,K9,P9⟩;obtain⟨z,hz,rfl⟩:=A8.mp (aw y (uZ hy));refine⟨0,0,0,0,0,x,x2,p,l,z,qs,aO,zs,1,(hN.2.2 z hz).1,aT.pot P8 P9 K9,hT,ax.pot P8 P9 K9,aQ,P9,K9 _ _ aS aa,hN,λa1 aU aV=> ?_⟩;exact⟨0,iteN rfl ⟨⟨0⟩,K9.trans aU,aV⟩⟩
  ·rintro σ H9 ⟨⟨u7,rfl⟩,K9,P9⟩;exact⟨⟨_,_,0⟩,kB.trans ((Kept.of s8).trans K9),P9⟩
 ·rintro σ H5 _;exact q5 _ _ (k H5)
end
theorem tx_mk {K:o0}{h:o8}{mg:Str->om o6}(X:K.In h)(G:h.Ns mainGlobals mg){U Z O aa f1 f2 f3 f4 f5 f6 f7 f8 f9 aU aV aW aX aY aZ a1 a2 a3 a4 a5 a6 a7 a8 a9 ba bb bc bd be bf bg bh bo bp bq bt bu bv bw bx bA bB bC bD bE bF bG bH bI bJ bK bL bM bN bO bP bQ bR bS bT bU bV bW bX bY bZ b3 b4 b5 b6 b7 b8 b9 ca cb cc cd ce cf cg:o3}{t1 t2 t3 t4 t5 t6 t7 t8 t9 ch ci:Tok}
  (aK:#[K,"Machine"]=some (some (.ref U))) (aL:Cls K U) (aB:PySem.W.makesIn K U=true/\PySem.W.keepIn K (.ref U)=true)
  (aO:#[K,"Going"]=some (some (.ref Z))) (aP:Cls K Z) (aJ:PySem.W.makesIn K Z=true/\PySem.W.keepIn K (.ref Z)=true)
  (aD:#[K,"PlainOrder"]=some (some (.ref O))) (aE:Cls K O) (af:PySem.W.makesIn K O=true/\PySem.W.keepIn K (.ref O)=true)
  (aM:#[K,"Project"]=some (some (.ref aa))) (aN:Cls K aa) (aC:PySem.W.makesIn K aa=true/\PySem.W.keepIn K (.ref aa)=true)
  (h1:FZg K "is_text" ZD f1)
  (h2:FZg K "is_tree" Xv f2)
  (h3:FZg K "is_name" wt f3)
  (h4:FZg K "is_pair" wy f4)
  (h5:FZg K "is_row_of_names" yQ f5)
  (h6:FZg K "is_answer" xu f6)
  (h7:FZg K "part_of" wv f7)
  (h8:FZg K "pieces_of" xv f8)
  (h9:FZg K "row_of" Zq f9)
  (h10:FZg K "read_lines" jU aU)
  (h11:FZg K "rule_rows" xf aV)
  (h12:FZg K "bad_line" X7 aW)
  (h13:FZg K "is_rule" wp aX)
  (cj:FZg K "text_made" xp aY)
  (ck:FZg K "self_made" xS aZ)
  (cm:FZg K "copy_made" xB a1)
  (cn:FZg K "row_made" XX a2)
  (cp:FZg K "put_made" X2 a3)
  (cq:FZg K "join_made" xD a4)
  (cr:FZg K "first_made" Jh a5)
  (cu:FZg K "rest_made" xg a6)
  (cv:FZg K "size_made" xG a7)
  (cw:FZg K "cut_made" XY a8)
  (cx:FZg K "glue_made" xc a9)
  (cy:FZg K "is_jump_taken" Yp ba)
  (cz:FZg K "asked_or_fault" Yg bb)
  (aQ:FZm K U "__init__" "Machine.__init__" YU bc)
  (cA:FZm K U "now" "Machine.now" jp bd)
  (cB:FZm K U "answer" "Machine.answer" Yc be)
  (cC:FZm K U "asked" "Machine.asked" Ys bf)
  (cD:FZm K U "go_on" "Machine.go_on" YA bg)
  (cE:FZm K U "is_waiting" "Machine.is_waiting" yb bh)
  (cF:FZm K U "do_row" "Machine.do_row" Ye bo)
  (cG:FZm K U "hold" "Machine.hold" Y0 bp)
  (aR:FZm K Z "__init__" "Going.__init__" jW bq)
  (cH:FZm K Z "begin" "Going.begin" jy bt)
  (cI:FZm K Z "look" "Going.look" Je bu)
  (cJ:FZm K Z "wanted" "Going.wanted" YV bv)
  (cK:FZm K Z "take" "Going.take" Jq bw)
  (cL:FZm K Z "full" "Going.full" Jl bx)
  (aS:FZm K O "__init__" "PlainOrder.__init__" yO bA)
  (cM:FZm K O "begin_anew" "PlainOrder.begin_anew" QN bB)
  (cN:FZm K O "go_through" "PlainOrder.go_through" QM bC)
  (cO:FZm K O "enter" "PlainOrder.enter" yr bD)
  (cP:FZm K O "settle" "PlainOrder.settle" yo bE)
  (cQ:FZm K O "runner" "PlainOrder.runner" yl bF)
  (cR:FZm K O "leave" "PlainOrder.leave" yu bG)
  (cS:FZm K O "go_on" "PlainOrder.go_on" yx bH)
  (cT:FZm K O "answer_yet" "PlainOrder.answer_yet" QQ bI)
  (cU:FZg K "answer_at_once" Ya bJ)
  (cV:FZg K "answer_by" xh bK)
  (cW:FZg K "check_name" Jf bL)
  (cX:FZg K "check_names" jq bM)
  (cY:FZg K "order_from" Ji bN)
  (cZ:FZg K "order_over" jX bO)
  (c0:FZg K "stands" kc bP)
  (c1:FZg K "standing" X0 bQ)
  (c2:FZg K "reason" WX bR)
  (c3:FZg K "first_unlike" YZ bS)
  (c4:FZg K "reason_holds" Y3 bT)
  (c5:FZg K "is_source" xj bU)
  (aT:FZm K aa "__init__" "Project.__init__" yS bV)
  (c6:FZm K aa "sources" "Project.sources" Y4 bW)
  (c7:FZm K aa "source_of" "Project.source_of" ym bX)
  (c8:FZm K aa "looked_up" "Project.looked_up" QP bY)
  (c9:FZg K "longest_row" jj bZ)
  (da:FZg K "_law_cell_at" js b3)
  (de:FZg K "_law_pot" ZO b4)
  (dh:FZg K "_law_take" zo b5)
  (di:FZg K "_law_word" zc b6)
  (dj:FZg K "_law_line" JI b7)
  (dk:FZg K "_law_rule" JA b8)
  (dl:FZg K "_law_maker" xU b9)
  (dm:FZg K "_law_leaf" JK ca)
  (dq:FZg K "_law_source" Ja cb)
  (dt:FZg K "_law_sources" jt cc)
  (dv:FZg K "_law_changed" jr cd)
  (dw:FZg K "_law_spoilt" Jj ce)
  (dy:FZg K "_law_right" xt cf)
  (dz:FZg K "law" s_law cg)
  (ax:#[K,U,"rows"])
  (ay:#[K,U,"rule"])
  (aF:#[K,U,"own"])
  (ao:#[K,U,"boxes"])
  (ap:#[K,U,"place"])
  (aA:#[K,U,"done"])
  (aq:#[K,U,"given"])
  (au:#[K,U,"there"])
  (aH:#[K,Z,"name"])
  (aG:#[K,Z,"order"])
  (aw:#[K,Z,"made_by"])
  (ak:#[K,Z,"rule_asks"])
  (am:#[K,Z,"rule_run"])
  (aI:#[K,Z,"end"])
  (ac:#[K,O,"given_project"])
  (ag:#[K,O,"stack"])
  (ad:#[K,O,"under_way"])
  (ae:#[K,O,"full_runs"])
  (ah:#[K,O,"found"])
  (al:#[K,aa,"by_name"])
  (g1:#[K,"MOST_SIGNS"]=some (some (.int 300 t1)))
  (g2:#[K,"MOST_PARTS"]=some (some (.int 40 t2)))
  (g3:#[K,"MOST_SIZE"]=some (some (.int 600 t3)))
  (g4:#[K,"MOST_DEPTH"]=some (some (.int 12 t4)))
  (g5:#[K,"MOST_NAME_SIGNS"]=some (some (.int 24 t5)))
  (g6:#[K,"LETTERS"]=some (some (.str "abcdefghijklmnopqrstuvwxyz" t6)))
  (g7:#[K,"NAME_SIGNS"]=some (some (.str "abcdefghijklmnopqrstuvwxyz0123456789./" t7)))
  (g8:#[K,"PERCENT"]=some (some (.int 37 t8)))
  (g9:#[K,"MOST_LINES"]=some (some (.int 40 t9)))
  (dA:#[K,"MOST_DONE"]=some (some (.int 300 ch)))
  (dB:#[K,"MOST_NAMES"]=some (some (.int 60 ci)))
  (zz:∀x∈(["ord","len","isinstance","str","tuple","all","int","range","zip","dict","sorted","abs","min","sum","list","bool"]:oj Str),PySem.W.nsIn K mainGlobals x=some none):∃a,Tx K mg a:=by
 exists 6,d1,F1,Qf,h1,["value"];exists 6,d2,F2,Qf,h2,["value"];exists 6,d3,F3,Qf,h3,["value"];exists 6,d4,F4,Qf,h4,["value"];exists 6,d5,F5,Qf,h5,["tree"];exists 6,d6,F6,Qf,h6,["ask","answer"];exists 6,d7,F7,Qf,h7,["kind","piece","count"];exists 6,d8,F8,Qf,h8,["line","form"];exists 6,d9,F9,Qf,h9,["line","count"];exists 6,dC,dD,Qf,h10,["value"];exists 6,dE,dF,Qf,h11,["tree"];exists 6,dG,dH,Qf,h12,["tree"];exists 6,dI,dJ,Qf,h13,["value"];exists 6,dL,dM,Qf,cj,["boxes","own","parts"];exists 6,dN,dO,Qf,ck,["boxes","own","parts"];exists 6,dP,dQ,Qf,cm,["boxes","own","parts"];exists 6,dR,dS,Qf,cn,["boxes","own","parts"];exists 6,dU,dV,Qf,cp,["boxes","own","parts"];exists 6,dW,dX,Qf,cq,["boxes","own","parts"];exists 6,dY,dZ,Qf,cr,["boxes","own","parts"];exists 6,d0,ea,Qf,cu,["boxes","own","parts"];exists 6,eb,ec,Qf,cv,["boxes","own","parts"];exists 6,ed,ef,Qf,cw,["boxes","own","parts"];exists 6,eg,eh,Qf,cx,["boxes","own","parts"];exists 6,ei,ej,Qf,cy,["boxes","word","parts"];exists 6,ek,el,Qf,cz,["word","held"];obtain⟨em,eo⟩:=yM aQ ["self","rule","own"] (by rfl');obtain⟨eq,er⟩:=yM cA ["self"] (by rfl');obtain⟨et,eu⟩:=yM cB ["self","tree"] (by rfl');obtain⟨ew,ey⟩:=yM cC ["self"] (by rfl');obtain⟨ez,eA⟩:=yM cD ["self"] (by rfl');obtain⟨eB,eC⟩:=yM cE ["self"] (by rfl');obtain⟨eD,eE⟩:=yM cF ["self","row"] (by rfl');obtain⟨eF,eG⟩:=yM cG ["self","box","tree"] (by rfl');obtain⟨eH,eI⟩:=yM aR ["self","name","source","order"] (by rfl');obtain⟨eJ,eK⟩:=yM cH ["self","rule"] (by rfl');obtain⟨eL,eM⟩:=yM cI ["self"] (by rfl');obtain⟨eN,eO⟩:=yM cJ ["self"] (by rfl');obtain⟨eP,eQ⟩:=yM cK ["self","answer"] (by rfl');obtain⟨eR,eS⟩:=yM cL ["self"] (by rfl');obtain⟨eT,eU⟩:=yM aS ["self","project"] (by rfl');obtain⟨eV,eW⟩:=yM cM ["self","project"] (by rfl');obtain⟨eX,eY⟩:=yM cN ["self","name"] (by rfl');obtain⟨eZ,e0⟩:=yM cO ["self","name"] (by rfl');obtain⟨e1,e2⟩:=yM cP ["self","going"] (by rfl');obtain⟨e3,e4⟩:=yM cQ ["self","rule","own"] (by rfl');obtain⟨e5,e6⟩:=yM cR ["self","going"] (by rfl');obtain⟨e7,e8⟩:=yM cS ["self","going"] (by rfl');obtain⟨e9,fa⟩:=yM cT ["self","name"] (by rfl');exists 6,fb,fc,Qf,cU,["source"];exists 6,fe,ff,Qf,cV,["end"];exists 6,fg,fh,Qf,cW,["name"];exists 6,fi,fj,Qf,cX,["names"];exists 6,fm,fo,Qf,cY,["project","name"];exists 6,fq,ft,Qf,cZ,["project","names"];exists 6,fu,fv,Qf,c0,["project","name"];exists 6,fw,fx,Qf,c1,["order","name"];exists 6,fy,fz,Qf,c2,["project","other","name"];exists 6,fA,fB,Qf,c3,["asks","others"];exists 6,fC,fD,Qf,c4,["project","other","name","told"];exists 6,fE,fF,Qf,c5,["value"];obtain⟨fG,fH⟩:=yM aT ["self","sources"] (by rfl');obtain⟨fI,fJ⟩:=yM c6 ["self"] (by rfl');obtain⟨fK,fL⟩:=yM c7 ["self","name"] (by rfl');obtain⟨fM,fN⟩:=yM c8 ["self","ask"] (by rfl');exists 6,fO,fP,Qf,c9,["names"];exists 6,fQ,fR,Qf,da,["script","k"];exists 6,fS,fT,Qf,de,["cell","salt"];exists 6,fU,fV,Qf,dh,["pot","many"];exists 6,fW,fX,Qf,di,["pot","names"];exists 6,fY,fZ,Qf,dj,["pot","names","many","k"];exists 6,f0,ga,Qf,dk,["pot","names"];exists 6,gb,gc,Qf,dl,["pot","names"];exists 6,ge,gf,Qf,dm,["pot","names"];exists 6,gg,gh,Qf,dq,["pot","names"];exists 6,gj,gk,Qf,dt,["script"];exists 6,gl,gm,Qf,dv,["pairs","pot","names"];exists 6,gp,gq,Qf,dw,["told","pot","names"];obtain⟨gr,gt⟩:=Qf X G dy ["project","other","name","pot","names"] (bo5 λ_ _ _ _ _ _ _ _ _ _ _=>rfl);exists 6,gu,gv,Qf,dz,["script"];have z:∀x∈(["ord","len","isinstance","str","tuple","all","int","range","zip","dict","sorted","abs","min","sum","list","bool"]:oj Str),mg x=none:=λx hx=>PySem.W.mg_none_of X G (zz x hx);simp only [uC,vf,uM,forall_eq_or_imp,forall_eq] at z;obtain⟨z1,z2,z3,z4,z5,z6,z7,z8,z9,gw,gx,gy,gz,gA,gB,gC⟩:=z;exact⟨⟨f1,d1,f2,d2,f3,d3,f4,d4,f5,d5,f6,d6,f7,d7,f8,d8,f9,d9,aU,dC,aV,dE,aW,dG,aX,dI,aY,dL,aZ,dN,a1,dP,a2,dR,a3,dU,a4,dW,a5,dY,a6,d0,a7,eb,a8,ed,a9,eg,ba,ei,bb,ek,bc,em,bd,eq,be,et,bf,ew,bg,ez,bh,eB,bo,eD,bp,eF,bq,eH,bt,eJ,bu,eL,bv,eN,bw,eP,bx,eR,bA,eT,bB,eV,bC,eX,bD,eZ,bE,e1,bF,e3,bG,e5,bH,e7,bI,e9,bJ,fb,bK,fe,bL,fg,bM,fi,bN,fm,bO,fq,bP,fu,bQ,fw,bR,fy,bS,fA,bT,fC,bU,fE,bV,fG,bW,fI,bX,fK,bY,fM,bZ,fO,b3,fQ,b4,fS,b5,fU,b6,fW,b7,fY,b8,f0,b9,gb,ca,ge,cb,gg,cc,gj,cd,gl,ce,gp,cf,gr,cg,gu,U,Z,O,aa⟩,⟨F1,F2,F3,F4,F5,F6,F7,F8,F9,dD,dF,dH,dJ,dM,dO,dQ,dS,dV,dX,dZ,ea,ec,ef,eh,ej,el,eo,er,eu,ey,eA,eC,eE,eG,eI,eK,eM,eO,eQ,eS,eU,eW,eY,e0,e2,e4,e6,e8,fa,fc,ff,fh,fj,fo,ft,fv,fx,fz,fB,fD,fF,fH,fJ,fL,fN,fP,fR,fT,fV,fX,fZ,ga,gc,gf,gh,gk,gm,gq,gt,gv,aL,⟨aB.1,aQ.1,aQ.2.1,aB.2⟩,uO X G aK,ax,ay,aF,ao,ap,aA,aq,au,aP,⟨aJ.1,aR.1,aR.2.1,aJ.2⟩,uO X G aO,aH,aG,aw,ak,am,aI,aE,⟨af.1,aS.1,aS.2.1,af.2⟩,uO X G aD,ac,ag,ad,ae,ah,aN,⟨aC.1,aT.1,aT.2.1,aC.2⟩,uO X G aM,al,⟨_,uO X G g1⟩,⟨_,uO X G g2⟩,⟨_,uO X G g3⟩,⟨_,uO X G g4⟩,⟨_,uO X G g5⟩,⟨_,uO X G g6⟩,⟨_,uO X G g7⟩,⟨_,uO X G g8⟩,⟨_,uO X G g9⟩,⟨_,uO X G dA⟩,⟨_,uO X G dB⟩,z1,z2,z3,z4,z5,z6,z7,z8,z9,gw,gx,gy,gz,gA,gB,gC⟩⟩
variable {K:o0}{h:o8}{mg:Str->om o6}{f:o3}{x:Str}
theorem mk1 (X:K.In h)(G:h.Ns mainGlobals mg){O:o3}{y:Str}(z:∃m,PySem.W.nsIn K mainGlobals y=some (some (.ref m))/\PySem.W.nsIn K O x=some (some (.ref m)))(e:mg y=some (.ref f)):PySem.W.nsIn K O x=some (some (.ref f)):=by
 obtain⟨m,h1,h2⟩:=z;have:=(uO X G h1).symm.trans e;injection this with this
 injection this with this
 rw [<-this];exact h2
noncomputable def MKP:oj (Str×Str):= [("text","text_made"),("self","self_made"),("copy","copy_made"),("row","row_made"),("put","put_made"),("join","join_made"),("first","first_made"),("rest","rest_made"),("size","size_made"),("cut","cut_made"),("glue","glue_made")]
noncomputable def keyS (e:DictEntry):om Str:=match e.key with
 | .str x _=>some x
 |_=>none
variable {a:o3}{es:Array DictEntry}{n:Nat}{z:Str}
theorem kf (hl:K.lookup a=some ⟨.type "dict",none,.dict es n,#[]⟩)(hk:es.toList.map keyS=FRM.map λx=>some x.1)(hz:JZ z=none):PySem.W.nsIn K a z=some none:=by
 have h1:∀e∈es.toList,∃x t,e.key= .str x t/\x≠z:=by
  intro e U;have hm:keyS e∈es.toList.map keyS:=A8.mpr ⟨e,U,1⟩;rw [hk] at hm;obtain⟨x,Z,ex⟩:=A8.mp hm;have O:=wf hz x Z;unfold keyS at ex;split at ex
  ·rename_i y t hy
   cases ex;exact⟨_,_,hy,O⟩
  ·cases ex
 unfold PySem.W.nsIn;rw [hl];dsimp only;have f1:es.toList.find? (λe=>e.key.isStr z)=none:=by
  rw [Uf];intro e U;obtain⟨x,t,Z,O⟩:=h1 e U;rw [Z];exact λq=>O (uq q)
 have f2:es.toList.any (·.refKey)=false:=by
  rw [List.any_eq_false];intro e U;obtain⟨x,t,Z,O⟩:=h1 e U;unfold DictEntry.refKey;rw [Z];exact ub
 rw [f1,f2]
 rfl
theorem fx_mk {w:og}{K:o0}{h:o8}{mg:Str->om o6}{a:Ad}(T:Tx K mg a)(X:K.In h)(G:h.Ns mainGlobals mg){aB aA aF Z O U:o3}{eF eM:Array DictEntry}{nF nM:Nat}
  (gB:#[K,"BOXES"]=some (some (.ref aB))) (gA:#[K,"ASKING"]=some (some (.ref aA))) (gF:#[K,"FORMS"]=some (some (.ref aF))) (gM:#[K,"MAKERS"]=some (some (.ref Z)))
  (lB:TZ K aB BX) (lA:TZ K aA ["ask","has","names"]) (lF:K.lookup aF=some ⟨.type "dict",none,.dict eF nF,#[]⟩) (lM:K.lookup Z=some ⟨.type "dict",none,.dict eM nM,#[]⟩)
  (kF:PySem.W.KeysLit w.params eF.toList) (kM:PySem.W.KeysLit w.params eM.toList) (zF:(aF==sysModules)=false) (zM:(Z==sysModules)=false)
  (fF:∀x∈FRM,TZn K aF x.1 (x.2.map Kd.t)) (fM:∀p∈MKP,∃m,PySem.W.nsIn K mainGlobals p.2=some (some (.ref m))/\PySem.W.nsIn K Z p.1=some (some (.ref m))) (oM:∀z∈NOMK,PySem.W.nsIn K Z z=some none)
  (kk:eF.toList.map keyS=FRM.map λx=>some x.1)
  (g1:#[K,"BadRule"]=some (some (.ref O))) (b1:PySem.W.excIn K O VE "ValueError.__new__"=true)
  (g2:#[K,"BadName"]=some (some (.ref U))) (b2:PySem.W.excIn K U VE "ValueError.__new__"=true):∃g,Fx K w mg g a:=by
 refine⟨⟨aB,aA,aF,Z,O,U⟩,⟨uO X G gB,uO X G gA,uO X G gF,uO X G gM,λH=>lB.sq (),λH=>lA.sq (),⟨zF,eF,nF,lF,kF⟩,λx hx=> ?_,⟨zM,eM,nM,lM,kM⟩,mk1 X G (fM ("text","text_made") ()) T.g_text_made.m,mk1 X G (fM ("self","self_made") ()) T.g_self_made.m,mk1 X G (fM ("copy","copy_made") ()) T.g_copy_made.m,mk1 X G (fM ("row","row_made") ()) T.g_row_made.m,mk1 X G (fM ("put","put_made") ()) T.g_put_made.m,mk1 X G (fM ("join","join_made") ()) T.g_join_made.m,mk1 X G (fM ("first","first_made") ()) T.g_first_made.m,mk1 X G (fM ("rest","rest_made") ()) T.g_rest_made.m,mk1 X G (fM ("size","size_made") ()) T.g_size_made.m,mk1 X G (fM ("cut","cut_made") ()) T.g_cut_made.m,mk1 X G (fM ("glue","glue_made") ()) T.g_glue_made.m,oM,λz hz=>kf lF kk hz,uO X G g1,b1,uO X G g2,b2⟩⟩
 obtain⟨q,h1,h2⟩:=fF x hx;exact⟨q,h1,λH=>by rw [X3];exact h2.sq (by rw [ua];exact uL (form_few x hx) ())⟩
end K68
open PySem PySem.W PyProof.Rows L2
set_option maxRecDepth 100000 in
set_option maxHeartbeats 0 in
theorem PySem.Challenge.cw_askwright_k68_reasons_judged_holds : PySem.Challenge.rw_askwright_k68_reasons_judged.Holds := by
 w_on;o_law;k_head;(case hw=>w_witness2)
 k_fill
 refine L2.walk_ofK (l:=PySem.Challenge.rw_askwright_k68_reasons_judged) (n:=63) (k:=19) (x:="script") (CX:=L2.CX0) (sp:=K68.sp_law) rfl (by decide) rfl ⟨rfl,by decide,by decide⟩ (fun w h Y=>PySem.W.kIn_of Y) ?F ?S ?C
 case F=>
  intro w mg fa h KX G hmg
  have T:∃a,K68.Tx (L2.KOf KX) mg a:=by
   dsimp only [L2.KOf]
   refine' K68.tx_mk KX G ..
   all_goals first|exact⟨by k_is,_,_,_,_,_,_,_,_,_,by k_is,by k_is,by k_is⟩|exact⟨by k_is,by k_is,_,_,_,_,_,_,_,_,_,by k_is,by k_is,by k_is⟩|(show _=_;k_is)|exact⟨by k_is,by k_is,by k_is,by k_is⟩|exact⟨by k_is,by k_is⟩|(intro x hx;simp only [uC,vf,uM] at hx;rcases hx with rfl|rfl|rfl|rfl|rfl|rfl|rfl|rfl|rfl|rfl|rfl|rfl|rfl|rfl|rfl|rfl<;>k_is)|skip
  obtain⟨a,T⟩:=T
  have C:∃g,K68.Fx (L2.KOf KX) w mg g a:=by
   dsimp only [L2.KOf] at T⊢
   refine' K68.fx_mk T KX G (kF:= ?kF) (kM:= ?kM) (fF:= ?fF) (fM:= ?fM) (oM:= ?oM) (kk:= ?kk) (b1:= ?b1) (b2:= ?b2) ..
   all_goals try (first|(show _=some (some _);k_is)|(show _=some (Obj.mk _ _ _ _);k_is)|exact⟨_,_,_,_,by k_is,rfl⟩)
   (case kF=>(repeat (first|exact trivial|refine⟨⟨_,_,rfl,rfl⟩,?_⟩)));(case kM=>(repeat (first|exact trivial|refine⟨⟨_,_,rfl,rfl⟩,?_⟩)))
   case fF=>
    intro x hx
    unfold FRM at hx
    simp only [uC,vf,uM] at hx
    rcases hx with rfl|rfl|rfl|rfl|rfl|rfl|rfl|rfl|rfl|rfl|rfl|rfl|rfl|rfl|rfl|rfl|rfl|rfl|rfl|rfl<;>exact⟨_,by k_is,_,_,_,_,by k_is,rfl⟩
   case fM=>
    intro x hx
    unfold K68.MKP at hx
    simp only [uC,vf,uM] at hx
    rcases hx with rfl|rfl|rfl|rfl|rfl|rfl|rfl|rfl|rfl|rfl|rfl<;>exact⟨_,by k_is,by k_is⟩
   case oM=>
    intro x hx
    unfold K68.NOMK at hx
    simp only [uC,vf,uM] at hx
    rcases hx with rfl|rfl|rfl|rfl|rfl|rfl|rfl|rfl|rfl<;>k_is
   (case kk=>rfl);(case b1=>k_exc);(case b2=>k_exc)
   all_goals rfl
  obtain⟨g,C⟩:=C
  have e0:=hmg.symm.trans T.g_law.m
  cases e0
  exact⟨_,T.g_law.law (fun _ _ _ _ _ _ _=>rfl),(by obtain⟨_,_,_,_,_,_,_,_,_,e,_⟩:=T.g_law.F.ex;rw [e];rfl),fun base kb nb=>K68.ok_law T C⟩
 case S=>exact fun w H a ns hl hO hS=>⟨a,ns,rfl,hS,hl,fun _=>rfl⟩
 case C=>exact fun _ _ _ _ z=>z
